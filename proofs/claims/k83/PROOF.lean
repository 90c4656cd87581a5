import PyProof.Rows.All
import Wide.All
import OpenK.AllK
import Wide.FinOn
import Lean
import PyProof.EqAt
import PyProof.EqKinds
import PyProof.TupleCall
import PyProof.DictValues
import PyProof.CollectStr
import PySem.Builtin.Int.W1All
import PyProof.Rows.StrJoin2
import PyProof.StrBlockH
import KE.KIntText
import PyProof.StrWalks
import PyProof.CallStr
import PyProof.EnumMake
import PyProof.StrLawsChain
import PyProof.Rows.StrClose3
import PyProof.ExcBaseAll.ValueError
import PyProof.DictRoadsH
import PyProof.DictKinds
import PyProof.FactsAll.NoneType
import PyProof.Rows.EnumRows
import PyProof.TupleIter
import KE.KRevIter
import PyProof.FactsAll.list_3
import KE.KDictList
import PyProof.DictIter
import PyProof.DictWalks
import PyProof.ListRange
import PyProof.Rows.SumAny
import PyProof.Rows.SeqCalls
import PyProof.P3In
import PyProof.DictItems
import KE.KPairComp
import PyProof.FactsAll.dict_3
import PyProof.CollectIter
import PyProof.TupleOfGen
import PyProof.TupleOfSeq
import PyProof.ZipIter
import KE.KDictLaws
import PyProof.FitsInt
import PyProof.AutoSeq1
import PySem.Challenge.RW_wormyard_k83_yards_read
set_option compiler.extract_closed false
set_option Elab.async false
set_option linter.all false
set_option maxRecDepth 100000
set_option maxHeartbeats 4000000
theorem η0(h:1=1:=by rfl):1=1:=h
def η:=η0._auto_1
theorem θ0(h:1=1:=by decide):1=1:=h
def θ:=θ0._auto_1
theorem ζ0(h:1=1:=by first|exact .inl rfl|exact .inr rfl|assumption):1=1:=h
def ζ:=ζ0._auto_1
theorem ξ0(h:1=1:=by decide +kernel):1=1:=h
def ξ:=ξ0._auto_1
theorem ψ0(h:1=1:=by intro _;rfl):1=1:=h
def ψ:=ψ0._auto_1
open Array renaming length_toList→Â,toList_append→ć,getElem?_eq_some_iff→Ĭ,toList_inj→Į,toList_extract→Ō,getElem?_toList→Ż,all_toList→vr,toList→O3,find?_toList→Rv
open Bool renaming false_ne_true→Ϟ,and_eq_true→ϫ,true_and→Ý,false_and→ö,not_eq_true'→ă,eq_iff_iff→Ŏ,false_eq_true→nF,or_true→rz,false_or→Oq
open False renaming elim→Ö
open ForInStep renaming yield→ŧ
open Int renaming toNat_natCast→Ϙ,eq_ofNat_of_zero_le→Ï,toNat_of_nonneg→å,emod_lt_of_pos→ì,natAbs_natCast→ó,emod_nonneg→û,natCast_nonneg→ĸ,zero_add→ł,fdiv_eq_ediv_of_nonneg→Nx,natAbs_neg→Qt,emod_eq_of_lt→X2
open Int.ofNat renaming inj→ž
open List renaming length_map→Μ,length_append→Ξ,getElem?_eq_getElem→Ψ,mem_cons_of_mem→ϊ,mem_singleton→ϋ,mem_cons→ύ,map_append→ϗ,mem_cons_self→ϙ,length_cons→Ϛ,range→Ϝ,mem_append→ϝ,mem_map→ϟ,not_mem_nil→ϡ,mem_of_getElem?→Ϫ,size_toArray→Ϯ,map_cons→ϳ,map_map→Á,mem_append_right→Å,map_congr_left→Æ,getElem?_map→Ç,length_filter_le→É,mem_append_left→Ê,mem_filter→Ì,length_take→Ñ,getD_eq_getElem?_getD→Ò,take_length→Ó,getElem?_append_left→Õ,append_assoc→Ù,filter_append→Ú,getElem?_append_right→â,length_take_le→æ,replicate→è,length→ê,take_succ→í,mem_range→î,filter_cons→ï,length_singleton→ú,getElem?_eq_some_iff→ý,mem_flatMap→þ,getElem_mem→ÿ,all_eq_true→Ā,length_drop→ą,drop_eq_getElem_cons→Ć,drop_eq_nil_of_le→ĉ,Sublist→Ċ,nodup_cons→č,mem_of_mem_take→Ď,lookup→ď,lookup_cons→Ē,getElem?_set_ne→ę,mem_of_head?→Ĝ,length_range→ĝ,map_eq_nil_iff→ĥ,length_pos_iff→Ħ,mem_of_mem_drop→ī,length_set→Ĵ,flatMap_append→ĵ,find?_cons→Ķ,append_nil→ķ,sum_cons→Ł,getElem?_set_self→ń,getElem_map→ņ,dropLast_concat_getLast→Ň,cons_ne_nil→ň,map_id→ŋ,range_succ→Œ,nodup_nil→œ,length_replicate→Ŕ,pairwise_iff_getElem→Ŝ,map_inj_right→ŝ,flatMap_cons→ţ,take_of_length_le→Ź,getElem?_eq_none→ż,take_append_drop→c5,map_take→ej,map_nil→gM,length_nil→hX,getElem?_concat_length→ic,length_eraseIdx→kb,getElem_of_mem→qa,cons_append→qp,any_cons→q7,all_cons→rg,eq_nil_iff_forall_not_mem→wh,contains_cons→wz,filter→D0,eq_nil_of_length_eq_zero→E1,pairwise_lt_range→Jx,filter_eq_nil_iff→J6,any_eq_false→JY,exists_cons_of_ne_nil→KU,sublist_append_right→MJ,mem_take_iff_getElem→MO,getLastD_eq_getLast?→Nk,extract_eq_take_drop→Nw,getLast?_eq_getLast→NZ,eq_of_mem_replicate→Oc,any_eq_true→Oh,pairwise_append→Ou,getElem?_replicate→Ow,filter_cons_of_pos→O1,filter_cons_of_neg→O2,pairwise_flatMap→PY,mem_iff_getElem?→Qd,filterMap_cons→Qf,eq_nil_or_concat→Qn,concat_eq_append→Qr,range'→QW,map→Rb,set_cons_zero→Rq,set_cons_succ→Rr,pairwise_cons→Rt,filter_eq_self→Ru,take_left→TR,mem_filterMap→Ua,flatMap_assoc→Ur,find?_eq_none→Uy,filterMap_map→Vn,take_sublist→Wj,all_map→W3,mem_reverse→Yv,isEmpty_iff→YE,append_inj'→YO
open List.Pairwise renaming filter→Ť,map→KW,imp→Ln
open List.Sublist renaming refl→Ž
open List.cons renaming inj→Φ
open Nat renaming le_trans→ώ,lt_of_lt_of_le→Ϗ,le_refl→ϛ,zero_le→Ä,ne_of_lt→Þ,lt_of_le_of_lt→ß,lt_trans→ø,pow_le_pow_right→Ĥ,mul_one→Ţ,lt_irrefl→Ŧ,ne_of_gt→ŭ,mul_le_mul_right→c4,testBit_lt_two_pow→A6,min_eq_right→Jw,min_eq_left→NM,lt_trichotomy→Rl,add_le_add_left→T3,le_succ→Wb,sub_zero→Ye,sub_self→Yf,not_lt_zero→Yh,le_of_lt→Yi,le_of_eq→Yj
open Ne renaming symm→ϧ
open Option renaming isSome→ô,bind_some→Ę,isSome_map→nE,isSome_iff_exists→Kp,isNone→K2,toList_some→QV
open Option.some renaming inj→ϥ
open Or renaming inl→ό,inr→Ř
open Prod renaming snd→Í,fst→Ø,ext→QE
open PyProof.Rows renaming boot_isinstance→ä,callWith_type1→Ġ,boot_all→Ļ,AllBare→Ÿ,envOfC→gw,boot_min→A4,IntsAre→OM,subscriptTail_builtinR→VF
open PySem renaming Addr→Ν,Value→Ο,wpAny_bind→Ρ,sizeLine→Τ,sizeLine_eq→Χ,Shared→Ω,mainGlobals→Ϡ,wpAny_pure→Ϥ,model→Ϧ,wpAny→ϩ,starEach→Ϭ,World→À,Stmt→Ã,wpAny_mono→Ë,Around→é,FuncData→ë,wpAny_truthy_bool→ð,Heap→ò,wpAny_execs_nil→ċ,sysModules→Č,wpAny_standAt→Đ,wpAny_holding→đ,wpAny_Call_Name_kw→ē,backTo→Ė,wpAny_loadPart_at→Ě,wpAny_field→ě,plainObj_wpAny_Assign_Attribute→ġ,strIterType→ħ,PyData→ĩ,wpAny_setField→ı,wpAny_execs_cons→Ĺ,swapsWith→ĺ,NameKind→Ľ,letOwnedTupleGo→Ń,tupleKind→Ņ,call_meets→ŏ,attributeBase→ŕ,sliceBounds→ř,keywordEach→Ś,wpAny_passesOwn→Ş,codeAny_mono→ş,codeAny→Š,bootBuiltins→š,wpAny_pyIter_tuple→Ũ,wpAny_call→ũ,tupleKind_room_in1→Ū,rawInt→ū,wpAny_pyIter_enum→ų,wpAny_newObj_type→Ŵ,holding→ŵ,excClassObj→Ŷ,cLine→ŷ,behindInMarks→ź,typeIs_str→et,assignEach→gg,wpAny_loadPart'→j2,codeAny_handlers_test→kh,wpAny_loadPart→oo,seqIndex_of→oD,backToKw→pM,wpAny_isSubtype_exc→r4,wpAny_handleBy_cons→sm,standAt→G7,foldedSetIterable→GI,callerA→I0,Keyword→IC,wpAny_lookBehind→Lo,wpAny_eqBool_int→Lu,wpAny_call_entry→Lv,wpAny_Try_except→Lw,seqIndex?→LP,pastItsLine_dict→Mp,noFill_tuple_add→M3,valueAt→O7,BindsTo→OL,GenState→PK,wpAny_comprehension_free→Ri,seq_tuple_add→Rj,wpAny_getItem_str_slice→Rx,wpAny_callSpecial?_slot→Rz,raiseStmt→R0,meetsH_dict_get_default→RE,atKey→Sn,wpAny_pyNext_enum_endD→Vv,wpAny_nsSet1→Vz,wpAny_Call_method_late→V5,concat_meets→V6,codeAny_handlers_suite→V8,call_meetsIn→VB,IsEnum→VE,wpAny_isTrue_Compare1→Xh,codeAny_call_builtin→X3,bindL→X4,bindC→X8,bindArgs→XF,wpAny_Name→Za,typeOf→ZN,isInstance→za0,builtinsNs→za1
open PySem.Around renaming under→N3
open PySem.BindsTo renaming of_defaults→OK
open PySem.Builtin renaming bitAnd→Ă,bitNot→ļ,bitOr→ek
open PySem.Builtin.Int renaming intBits→Ü
open PySem.Builtin.List renaming listTooLong→ō
open PySem.Builtin.ObjectAttr renaming storeInDict→ů,newKeyGuard→Ű
open PySem.Builtin.SmallTypes renaming nextOf→ğ
open PySem.Builtin.Str renaming occurrences→į
open PySem.Calls renaming callWith_builtin→ľ,evalArgs_plain→c0,spliced_cons→mu,Name_function_global→Jv,spliced_nil→Tq
open PySem.Code renaming isFrame→OJ,quiet_builtin→SY
open PySem.EntryCells renaming newEntry→MG
open PySem.F renaming slot_tuple_iterator_next→İ,slot_NoneType_hash→ő,args_str_split_2→u6,entry_str_split→A2,slot_str_split→Ju,args_tuple_iterator_next_1→MF,entry_tuple_iterator_next→N1,slot_str_getitem→XI
open PySem.Heap renaming get?_push_of_some→Υ,get?_push_size→ϣ,get?_update_other→Î,get?_update_self→á,get?_none_of_le→ĕ,SameBut→ŗ,get?_push_cases→QC,get?_update_ne→Rk,get?_some_iff→SX
open PySem.Heap.Ns1 renaming of_empty→P0
open PySem.Heap.SameBut renaming update→IS
open PySem.NameKind renaming free→ģ,cell→E2
open PySem.NumText renaming digitsVal→Ô
open PySem.Obj renaming mapFields→ã,data_mapFields→ā,isFreed_of_fields→Ī,mapSeq→MA,cls_mapFields→Xn
open PySem.PassesOwn renaming never→ç
open PySem.PyData renaming strOk→õ,eqv→Ĕ,canLay0→Ŗ,depth→Ů,depthAll→Ų,canLayAll0→n7,eqvAll→Km
open PySem.SeqAt renaming EqAt→ù,shaped→Ő,eqv_refl→I1
open PySem.SeqAt.EqAt renaming str_int→Ny,int_str→N0
open PySem.Str renaming ofString→υ,join→ĭ,empty→ű
open PySem.StrLaws renaming sumLen_le→Ð,glued_eq_join→à,join_length_le→ñ,sliceText→Qz,found_one→Q1
open PySem.Value renaming ref→ϭ,none→Û,isInt→Ģ,builtin→Ŋ,int→Ŭ,bool→lr,isInt_shape→SW
open PySem.W renaming Frag→Ϣ,keepIn→Ϩ,findIn→ϯ,kitOne→ü,mg_of→Ĉ,hasDictIn→ė,mg_none_of→Ğ,nsIn→Ĩ,plainGet→ś,plainOver→ť,makesIn→rk,fnOf→xi,codeIn→x4,looks_findIn→VD,any_some→XH
open Sum renaming inr→Ą,inl→j1
open ToString renaming toString→oh
open True renaming intro→È
open Option renaming some→Α,none→Β
open Bool renaming true→Δ,false→Ε
theorem Ζ{p:Prop}[Decidable p](h:p):decide p=true:=decide_eq_true h
theorem Η{p:Prop}[Decidable p](h:¬p):decide p=false:=decide_eq_false h
theorem Θ{c:Prop}{_:Decidable c}(h:¬c){α:Sort u}{t e:α}:ite c t e=e:=if_neg h
theorem Ι{c:Prop}{_:Decidable c}(h:c){α:Sort u}{t e:α}:ite c t e=t:=if_pos h
theorem Κ{a b:Prop}(h:a)(k:¬a):b:=absurd h k
theorem Λ{α:Sort u}{a:α}:a=a:=rfl
open PySem.W (isFn)
open List (drop_zero forIn_cons map_drop map_set nil_append of_mem_zip sum_append)
open Nat (mul_le_mul not_lt one_mul pow_succ)
open Int (lt_or_le)
open PySem.F (args_dict_get_3 args_tuple_add_2 entry_dict_get entry_tuple_add plainAttrs_list plainAttrs_str slot_dict_get slot_list_extend slot_list_insert slot_list_pop slot_str_join slot_tuple_add type_list_extend type_list_insert type_list_pop type_str_join type_str_split)
open PySem.Heap (lt_size size_after_update size_push)
noncomputable section
abbrev L2.zQ0:PySem.Scope:={kind:=.function,names:=[],isGenerator:=Ε,isCoroutine:=Ε}
theorem L2.gQ0{b:Type}{l:List b}{a:b}(h:l[i]?=Α a):i<l.length:=(ý.mp h).1
namespace L2
theorem Np{b:Type}{l:List b}(h:l.length=n+1):∃a t,l=a:: t/\t.length=n:=by
 cases l with
 |nil=>cases h
 |cons a t=>exact⟨a,t,Λ,Nat.succ.inj h⟩
open PySem PySem.Spec PyProof.Rows
abbrev Key:=Sum Int Str
noncomputable def pP:Key->Ο->Bool
 |.inl k,v=>Ģ k v
 |.inr x,v=>Ο.isStrOf x v
noncomputable def Xg(w:À):Key->Int
 |.inl k=>hashInt k
 |.inr x=>hashStr w x
theorem ce:∀{k:Key}{v:Ο},pP k v=Δ->(∃i t,k=j1 i/\v=Ŭ i t)∨(∃x t,k=Ą x/\v=Ο.str x t)
 | .inl i,v,h=>by
  obtain⟨t,e⟩:=SW (k:=i) (v:=v) h
  exact .inl ⟨i,t,Λ,e⟩
 | .inr x,v,h=>by
  obtain⟨t,e⟩:=Ο.isStrOf_shape (x:=x) (v:=v) h
  exact .inr ⟨x,t,Λ,e⟩
theorem xa(i:Int)(t:Tok):pP (.inl i) (.int i t)=Δ:=by simp[pP,Ģ]
theorem wZ(x:Str)(t:Tok):pP (.inr x) (.str x t)=Δ:=by simp[pP,Ο.isStrOf]
theorem Ew(a b:Int):decide ((j1 a:Key)=j1 b)=(a == b):=by
 by_cases e:a=b
 ·subst e;simp
 ·have h:¬(j1 a:Key)=j1 b:=λq=>e (j1.inj q)
  rw[Η h]
  exact(beq_eq_false_iff_ne.mpr e).symm
theorem Et(a b:Str):decide ((Ą a:Key)=Ą b)=decide (a=b):=by
 by_cases e:a=b
 ·subst e;simp
 ·have h:¬(Ą a:Key)=Ą b:=λq=>e (Ą.inj q)
  rw[Η h,Η e]
theorem Ev(a:Int)(b:Str):decide ((j1 a:Key)=Ą b)=Ε:=Η (λq=>nomatch q)
theorem Eu(a:Str)(b:Int):decide ((Ą a:Key)=j1 b)=Ε:=Η (λq=>nomatch q)
noncomputable def bZ(prog:Program)(w:À):PySem.KeyKind prog w Key where
 is:=pP
 hash:=Xg w
 inj:=λv a b ha hb=>by
  rcases ce ha with ⟨i,t,rfl,rfl⟩|⟨x,t,rfl,rfl⟩
  ·rcases ce hb with ⟨j,u,rfl,e⟩|⟨y,u,rfl,e⟩
   ·injection e with e1 _;rw[e1]
   ·exact nomatch e
  ·rcases ce hb with ⟨j,u,rfl,e⟩|⟨y,u,rfl,e⟩
   ·exact nomatch e
   ·injection e with e1 _;rw[e1]
 byValue:=λk v h=>by
  rcases ce h with ⟨i,t,rfl,rfl⟩|⟨x,t,rfl,rfl⟩<;>rfl
 pyHash:=λhv h=>by
  rcases ce hv with ⟨i,t,rfl,rfl⟩|⟨x,t,rfl,rfl⟩
  ·exact wpAny_pyHash_int h
  ·exact wpAny_pyHash_str h
 eqBool:=λhu hv h=>by
  rcases ce hu with ⟨i,t,rfl,rfl⟩|⟨x,t,rfl,rfl⟩
  ·rcases ce hv with ⟨j,u,rfl,rfl⟩|⟨y,u,rfl,rfl⟩
   ·rw[Ew]at h;exact Lu h
   ·rw[Ev]at h;exact N0 i t y u _ _ _ _ h
  ·rcases ce hv with ⟨j,u,rfl,rfl⟩|⟨y,u,rfl,rfl⟩
   ·rw[Eu]at h;exact Ny x t j u _ _ _ _ h
   ·rw[Et]at h;exact wpAny_eqBool_str h
 «strs»:=λk x t v h=>by
  rcases ce h with ⟨i,u,rfl,e⟩|⟨y,u,rfl,e⟩
  ·exact nomatch e
  ·injection e with e1 _
   subst e1
   cases v<;>rfl
theorem su(a:Program)(w:À)(i:Int)(t:Tok):(bZ a w).is (.inl i) (.int i t)=Δ:=xa i t
theorem sr(a:Program)(w:À)(x:Str)(t:Tok):(bZ a w).is (.inr x) (.str x t)=Δ:=wZ x t
open PySem.Spec PyProof.Rows
inductive V where
 |Fp|bl (b:Bool)|int (i:Int)|str (x:Str)|Kk (b:Array UInt8)|Og (b:UInt64)|ref (a:Ν)|ty (n:String)
 deriving DecidableEq
def RelV:V->Ο->Prop
 |.Fp,u=>u=Û
 |.bl b,u=>u=lr b
 |.int i,u=>∃t,u=Ŭ i t
 |.str x,u=>∃t,u=Ο.str x t
 |.Kk b,u=>∃t,u=Ο.bytes b t
 |.Og b,u=>∃t,u=Ο.float b t
 |.ref a,u=>u=ϭ a
 |.ty n,u=>u=Ο.type n
abbrev τ:List V->List Ο->Prop:=Paired RelV
theorem τ.length(r:τ xs us):xs.length=us.length:=Paired.length r
theorem τ.get:∀{xs:List V}{us:List Ο}{i:Nat}{x:V},τ xs us->xs[i]?=Α x->∃u,us[i]?=Α u/\RelV x u
 |_,_,_,_,.nil,e=>by simp at e
 |_,_,0,_,.cons r _,e=>by simp at e;subst e;exact⟨_,Λ,r⟩
 | _,_,i+1,x,.cons _ t,e=>by
  obtain⟨u,a,b⟩:=τ.get (i:=i) (x:=x) t (by simpa using e)
  exact⟨u,by simpa using a,b⟩
theorem τ.set(r:RelV x u):∀{xs:List V}{us:List Ο}(i:Nat),τ xs us->τ (xs.set i x) (us.set i u)
 |_,_,_,.nil =>.nil
 |_,_,0,.cons _ t =>.cons r t
 |_,_,i+1,.cons q t =>.cons q (τ.set r i t)
theorem τ.append:∀{xs a:List V}{us ws:List Ο},τ xs us->τ a ws->τ (xs++a) (us++ws)
 |_,_,_,_,.nil,s=>s
 |_,_,_,_,.cons r t,s =>.cons r (τ.append t s)
theorem τ.take:∀{xs:List V}{us:List Ο}(n:Nat),τ xs us->τ (xs.take n) (us.take n)
 |_,_,0,_ =>.nil
 |_,_,_+1,.nil =>.nil
 |_,_,n+1,.cons r t =>.cons r (τ.take n t)
theorem τ.drop:∀{xs:List V}{us:List Ο}(n:Nat),τ xs us->τ (xs.drop n) (us.drop n)
 |_,_,0,r=>r
 |_,_,_+1,.nil =>.nil
 |_,_,n+1,.cons _ t=>τ.drop n t
def GC:Option V->Option Ο->Prop
 |some v,Α u=>RelV v u
 |none,Β=>True
 |_,_=>False
def KV{κ:Type}:List (κ×V)->List (κ×Ο)->Prop:=Paired λ(p:κ×V)(q:κ×Ο)=>p.1=q.1/\RelV p.2 q.2
noncomputable def kV:Key->V
 |.inl i =>.int i
 |.inr x =>.str x
inductive HO where
  |π (xs:List V)
  |tup (xs:List V)
  |dK (EZ:List (Key×V))|dT (EZ:List (List Key×V))
  |set (S:Int->Bool) (n:Nat)
  |ρ (C dx:Ν) (fs:List (Str×V))
  |own (x:Ν)
  |xd (fs:List (Str×V))
  |met (f x:Ν)
  |Vl (lo hi:Int)
  |JU (o:Obj) (u:HO)
  |Ms (ps:Array Ο)
  |ext (φ:ò->Prop)
abbrev Hp:=Ν->Option HO
noncomputable def ο(H:Hp)(a:Ν)(o:HO):Hp:=λb=>if b=a then Α o else H b
theorem ET:ο H a o a=Α o:=by unfold ο;rw[Ι Λ]
theorem af(h:b≠a):ο H a o b=H b:=by unfold ο;rw[Θ h]
theorem bH{H:Hp}(h:H a=Α o)(c:H b=Α u)(d:o≠u):a≠b:=by
 intro e;subst e;rw[h]at c;exact d (ϥ c)
theorem ai{H:Hp}(h:H a=Α o)(c:H b=Β):a≠b:=by
 intro e;subst e;rw[h]at c;cases c
def GF(h:ò)(a:Ν)(items:Array Ο):Prop:=∃o,h.get? a=Α o/\(o.cls=.type "tuple"/\∃n,o.data=.seq items n)/\o.dict=Β
theorem GF.isTup:GF h a items->IsTup h a items:=λb=>by obtain⟨o,e,c,_⟩:=b;exact⟨o,e,c⟩
theorem GF.new(h:ò)(a:Array Ο):GF (h.push {cls:=.type "tuple",data:=.seq a}) h.objs.size a:=⟨_,ϣ _ Λ,⟨Λ,_,Λ⟩,Λ⟩
section
variable (P:Program)(w:À)
def Fv(H:Hp)(h:ò)(a:Ν):HO->Prop
 |.π xs=>xs.length<=Τ/\∃(Fe:List Ο)(n:Nat),τ xs Fe/\h.get? a=Α {cls:=.type "list",data:=.seq Fe.toArray n}
 |.tup xs=>xs.length<=Τ/\∃Fe:List Ο,τ xs Fe/\GF h a Fe.toArray
 |.dK EZ=>EZ.length<=Τ/\(a == Č)=Ε/\∃vs,KV EZ vs/\h.DictOf (bZ P w) a vs
 | .dT EZ=>EZ.length<=Τ/\(a == Č)=Ε/\∃xs:List (List Key×Ν×Ο),
   Paired (λ(p:List Key×V)(q:List Key×Ν×Ο)=>p.1=q.1/\H q.2.1=Α (.tup (p.1.map kV))/\RelV p.2 q.2.2) EZ xs/\
   ∃o es ep,h.get? a=Α o/\o.ExactDict/\o.data=.dict es ep/\es.toList=xs.map (entryOfKey (Ņ (bZ P w)))/\(xs.map (·.1)).Nodup
 |.set S n=>h.SetOf (intKind P w) a S n
 | .ρ C dx fs=>H dx=Α (.own a)/\fs.length<=1000/\dx≠a/\h.get? a=Α (PySem.W.instObj C dx)/\
   ∃mA,h.Ns1 dx mA/\(∀f,GC (fs.lookup f) (mA f))/\PySem.Within mA (fs.map (·.1))
 |.own _=>∃o,h.get? a=Α o
 |.xd fs=>∃mA,h.Ns1 a mA/\∀f,GC (fs.lookup f) (mA f)
 |.Vl lo hi=>∃t u v,h.get? a=Α {cls:=.type "range",data:=.fields #[.int lo t,.int hi u,.int 1 v]}
 |.JU o u=>h.get? a=Α o/\Fv H h a u
 |.Ms ps=>h.get? a=Α {cls:=.none,data:=.fields ps}
 |.met f x=>h.get? a=Α (PySem.W.methodObj (.ref f) (.ref x))
 |.ext φ=>φ h/\(∃o,h.get? a=Α o)/\∀h1 h2:ò,φ h1->(∀o,h1.get? a=Α o->h2.get? a=Α o)->φ h2
def GD(H:Hp)(h:ò):Prop:=∀a o,H a=Α o->Fv P w H h a o
end
section
variable {P:Program}{w:À}{H H':Hp}{h h':ò}{a:Ν}{o:HO}
theorem Fv.lt(x:Fv P w H h a o):a<h.objs.size:=by
 cases o with
 |π xs=>obtain⟨_,_,_,_,e⟩:=x;exact lt_size e
 |tup xs=>obtain⟨_,_,_,p⟩:=x;exact p.isTup.lt
 |dK b=>obtain⟨_,_,_,_,o,_,_,e,_⟩:=x;exact lt_size e
 |dT b=>obtain⟨_,_,_,_,o,_,_,e,_⟩:=x;exact lt_size e
 |set S n=>obtain⟨o,_,_,_,e,_⟩:=x;exact lt_size e
 |ρ C c fs=>obtain⟨_,_,_,e,_⟩:=x;exact lt_size e
 |own y=>obtain⟨_,e⟩:=x;exact lt_size e
 |xd fs=>obtain⟨_,⟨_,_,_,e,_⟩,_⟩:=x;exact lt_size e
 |Vl d g=>obtain⟨_,_,_,e⟩:=x;exact lt_size e
 |JU i u=>obtain⟨e,_⟩:=x;exact lt_size e
 |Ms j=>exact lt_size (x)
 |met f y=>exact lt_size (x)
 |ext l=>obtain⟨_,⟨_,e⟩,_⟩:=x;exact lt_size e
theorem Paired.QA:∀{c:List α}{d:List β},Paired F c d->(∀a b,F a b->G a b)->Paired G c d
 |_,_,.nil,_ =>.nil
 |_,_,.cons r t,f =>.cons (f _ _ r) (Paired.QA t f)
theorem Fv.Ho(x:Fv P w H h a o)(k:∀b u,(b=a∨H b=Α (.own a))->h.get? b=Α u->h'.get? b=Α u)
  (D:∀b,H b=Α (.own a)->H' b=Α (.own a)) (E:∀b xs,H b=Α (.tup xs)->H' b=Α (.tup xs)):Fv P w H' h' a o:=by
 induction o with
 |π xs=>obtain⟨z,l,n,r,e⟩:=x;exact⟨z,l,n,r,k _ _ (.inl Λ) e⟩
 |tup xs=>obtain⟨z,l,r,g,e,c⟩:=x;exact⟨z,l,r,g,k _ _ (.inl Λ) e,c⟩
 |dK F=>obtain⟨z,y,G,r,g,i,j,e,c⟩:=x;exact⟨z,y,G,r,g,i,j,k _ _ (.inl Λ) e,c⟩
 | dT F =>
  obtain⟨z,y,xs,r,g,i,j,e,c⟩:=x
  exact⟨z,y,xs,Paired.QA r λp q z=>⟨z.1,E _ _ z.2.1,z.2.2⟩,g,i,j,k _ _ (.inl Λ) e,c⟩
 |set S n=>obtain⟨g,i,j,t,e,c⟩:=x;exact⟨g,i,j,t,k _ _ (.inl Λ) e,c⟩
 | ρ C K fs =>
  obtain⟨d,z,ne,e,m,⟨s,i,j,I,c⟩,r⟩:=x
  exact⟨D _ d,z,ne,k _ _ (.inl Λ) e,m,⟨s,i,j,k _ _ (.inr d) I,c⟩,r⟩
 |own y=>obtain⟨g,e⟩:=x;exact⟨g,k _ _ (.inl Λ) e⟩
 |xd fs=>obtain⟨m,⟨s,i,j,e,c⟩,r⟩:=x;exact⟨m,⟨s,i,j,k _ _ (.inl Λ) e,c⟩,r⟩
 |Vl L M=>obtain⟨t,u,v,e⟩:=x;exact⟨t,u,v,k _ _ (.inl Λ) e⟩
 |JU g u J=>obtain⟨e,q⟩:=x;exact⟨k _ _ (.inl Λ) e,J q⟩
 | Ms A =>
  have e:=x
  exact k a _ (.inl Λ) e
 | met f y =>
  have e:=x
  exact k a _ (.inl Λ) e
 |ext N=>obtain⟨p,⟨o,e⟩,B⟩:=x;exact⟨B _ _ p λo q=>k _ _ (.inl Λ) q,⟨o,k _ _ (.inl Λ) e⟩,B⟩
theorem GD.lt(x:GD P w H h)(e:H a=Α o):a<h.objs.size:=(x a o e).lt
theorem GD.fresh(x:GD P w H h)(e:h.objs.size<=a):H a=Β:=by
 cases q:H a with
 |none=>rfl
 |some u=>exact Κ (Ϗ (x.lt q) e) (Ŧ _)
theorem GD.kept(x:GD P w H h)(k:∀b u,h.get? b=Α u->h'.get? b=Α u):GD P w H h':=λa o e =>
 (x a o e).Ho (λb u _ q=>k b u q) (λ_ q=>q) λ_ _ q=>q
theorem GD.laid(x:GD P w H h)(k:∀b u,h.get? b=Α u->h'.get? b=Α u)(g:h.objs.size<=a)(new:Fv P w (ο H a o) h' a o):GD P w (ο H a o) h':=λb u e=>by
 have d:=x.fresh g
 by_cases f:b=a
 ·subst f;rw[ET]at e;cases e;exact new
 ·rw[af f]at e
  exact(x b u e).Ho (λc v _ q=>k c v q) (λc q=>by rw[af (ai q d)];exact q) λc xs q=>by rw[af (ai q d)];exact q
end
def Rd(H:Hp)(a:Ν)(u:HO):Prop:=H a=Α u∨∃o,H a=Α (.JU o u)
theorem Rd.ok(r:Rd H a u)(x:GD P w H h):Fv P w H h a u:=by
 rcases r with r|⟨o,r⟩
 ·exact x a u r
 ·obtain⟨_,q⟩:=x a _ r
  exact q
def QB:Option HO->Prop
 |some (.π _)=>True
 |some (.dK _)=>True
 |some (.dT _)=>True
 |some (.set _ _)=>True
 |some (.ρ _ _ _)=>True
 |some (.ext _)=>True
 |_=>False
section
variable {P:Program}{w:À}{H:Hp}{h h':ò}{x e:Ν}{o':HO}
theorem GD.write(ok:GD P w H h)(a:QB (H x))(i:e=x∨H e=Α (.own x))(k:∀b u,b≠e->h.get? b=Α u->h'.get? b=Α u)(m:∃u,h'.get? e=Α u)
  (new:Fv P w (ο H x o') h' x o'):GD P w (ο H x o') h':=λb u q=>by
 have j:∀c y,H c=Α (.own y)->c≠x:=λc y r z=>by subst z;rw[r]at a;exact a
 have n:∀c xs,H c=Α (.tup xs)->c≠x:=λc xs r z=>by subst z;rw[r]at a;exact a
 by_cases d:b=x
 ·subst d;rw[ET]at q;cases q;exact new
 ·rw[af d]at q
  by_cases f:b=e
  ·have l:H b=Α (.own x):=by
    rcases i with z|z
    ·exact Κ (f.trans z) d
    ·rw[f];exact z
   rw[q]at l;cases l
   obtain⟨v,o⟩:=m
   exact⟨v,by rw[f];exact o⟩
  ·refine(ok b u q).Ho (λc v g r=>k c v ?_ r) (λc r=>by rw[af (j c b r)];exact r) λc xs r=>by rw[af (n c xs r)];exact r
   rcases g with rfl|g
   ·exact f
   ·rintro rfl
    rcases i with z|z
    ·exact j c b g z
    ·rw[g]at z;cases z;exact d Λ
end
structure Un(fs ex:List Ν)(H H':Hp)(h h':ò):Prop where
 keep:∀b o,h.get? b=Α o->H b=Β->b∉fs->b∉ex->h'.get? b=Α o
 slot:∀b o,h.get? b=Α o->H b=Β->b∈fs->b∉ex->∃sl,h'.get? b=Α {o with slots:=sl}
 free:∀b o,h.get? b=Α o->H b=Β->b∉ex->H' b=Β
 there:∀b o,h.get? b=Α o->b∉ex->∃o',h'.get? b=Α o'
 HQ:∀b xs,H b=Α (.tup xs)->H' b=Α (.tup xs)
 HF:∀b o u,H b=Α (.JU o u)->H' b=Α (.JU o u)
 HR:∀b ps,H b=Α (.Ms ps)->∃more,H' b=Α (.Ms (ps++more))
section
variable {fs PL ex PM:List Ν}{H H1 H2:Hp}{h h1 h2 h':ò}{a x e:Ν}{o:HO}
theorem Un.any(u:Un fs ex H H1 h h1)(q:h.get? b=Α ob)(n:H b=Β)(d:b∉ex):∃g,h1.get? b=Α {ob with slots:=g}:=by
 by_cases f:b∈fs
 ·exact u.slot b ob q n f d
 ·exact⟨ob.slots,u.keep b ob q n f d⟩
theorem Un.kept(k:∀b u,h.get? b=Α u->h'.get? b=Α u):Un fs ex H H h h':=
 ⟨λb c q _ _ _=>k b c q,λb c q _ _ _=>⟨c.slots,k b c q⟩,λ_ _ _ n _=>n,λb c q _=>⟨c,k b c q⟩,λ_ _ q=>q,λ_ _ _ q=>q,λ_ d q=>⟨#[],by rw[q];simp⟩⟩
theorem Un.refl:Un fs ex H H h h:=Un.kept λ_ _ q=>q
theorem Un.laid(k:∀b u,h.get? b=Α u->h'.get? b=Α u)(d:h.objs.size<=a)(c:H a=Β):Un fs ex H (ο H a o) h h' where
 keep:=λb u q _ _ _=>k b u q
 slot:=λb u q _ _ _=>⟨u.slots,k b u q⟩
 free:=λb u q n _=>by rw[af (Þ (Ϗ (lt_size q) d))];exact n
 there:=λb u q _=>⟨u,k b u q⟩
 HQ:=λb xs q=>by rw[af (ai q c)];exact q
 HF:=λb u xs q=>by rw[af (ai q c)];exact q
 HR:=λb f q=>⟨#[],by rw[af (ai q c),q];simp⟩
theorem Un.write(c:QB (H x))(j:e=x∨H e=Α (.own x))(k:∀b u,b≠e->h.get? b=Α u->h'.get? b=Α u)(l:∃u,h'.get? e=Α u):Un fs ex H (ο H x o) h h':=by
 have f:∀b,H b=Β->b≠x:=λb n z=>by subst z;rw[n]at c;exact c
 have g:∀b,H b=Β->b≠e:=λb n z=>by
  subst z
  rcases j with r|r
  ·exact f b n r
  ·rw[n]at r;cases r
 have d:∀b u,H b=Α u->¬QB (Α u)->b≠x:=λb u q m z=>by subst z;rw[q]at c;exact m c
 refine⟨λb u q n _ _=>k b u (g b n) q,λb u q n _ _=>⟨u.slots,k b u (g b n) q⟩,λb u q n _=>by rw[af (f b n)];exact n,λb u q _=>?_,
  λb xs q=>by rw[af (d b _ q λz=>z)];exact q,λb u xs q=>by rw[af (d b _ q λz=>z)];exact q,λb p q=>⟨#[],by rw[af (d b _ q λz=>z),q];simp⟩⟩
 by_cases i:b=e
 ·subst i;exact l
 ·exact⟨u,k b u i q⟩
end
noncomputable def Vm(h:ò)(H:Hp):List Ν:=(Ϝ h.objs.size).filter λa=>(H a).isSome
noncomputable def qU(h:ò)(H:Hp):ò:=PySem.W.hideAll h (Vm h H)
theorem xj(h:ò)(H:Hp):(qU h H).objs.size=h.objs.size:=PySem.W.hideAll_size _ _
theorem Aa(e:h.get? b=Α o)(n:H b=Β):(qU h H).get? b=Α o:=
 PySem.W.hideAll_get _ e λa=>by
  have q:=(Ì.mp a).2
  rw[n]at q;simp at q
theorem BP(e:(qU h H).get? b=Α o):h.get? b=Α o/\H b=Β:=by
 have a:=PySem.W.of_hideAll (Vm h H) e
 refine⟨a,?_⟩
 cases q:H b with
 |none=>rfl
 | some x =>
  have c:b∈Vm h H:=Ì.mpr ⟨î.mpr (lt_size a),by simp[q]⟩
  have z:(qU h H).get? b=Β:=PySem.W.hideAll_none (Vm h H) c
  rw[z]at e;cases e
structure Mod(K:Ϣ)(mg:Str->Option Ο)(μ:ò):Prop where
 Kl:K.In μ
 glob:μ.Ns Ϡ mg
 blt:∃mb,μ.Ns za1 mb/\∀x:Str,x≠ "__name__"->mb x=š x
 nolimit:μ.NoLimit
structure Cx where
 prog:Program
 w:À
 K:Ϣ
 mg:Str->Option Ο
 μ:ò
 A:é
 N:List Str
 s₀:Ω
 H₀:Hp
 env:Env
 outer:List Env
 stack:List Env
 ex:List Ν
 fn:Str->Bool
 calm:Bool
 pn:List (Ν×Obj)
 xe:Ο->Ω->Prop
noncomputable def oE(l:List Env):List Ν:=l.filterMap (·.frame)
abbrev Cx.fs(X:Cx):List Ν:=oE X.outer
def Xi(sc:Scope)(x:Str):Prop:=sc.names.lookup x=Α .local∨sc.names.lookup x=Α .cell∨sc.names.lookup x=Α .free
def Loc(sc:Scope)(x:Str):Prop:=sc.names.lookup x=Α .local∨sc.names.lookup x=Α .cell
def Look(env:Env)(h:ò)(m:Str->Option Ο)(x:Str)(u:Ο):Prop:=
 (env.kindOf x=Α .local/\m x=Α u)∨((env.kindOf x=Α .cell∨env.kindOf x=Α .free)/\∃c,env.cells.lookup x=Α c/\h.IsCell c (Α u))
structure Cx.Ok(X:Cx):Prop where
 mod:Mod X.K X.mg X.μ
 kind:X.env.scope.kind=.function
 glob:X.env.globals=Ϡ
 blt:X.env.builtins=za1
 above:X.s₀.heap.objs.size<=X.env.locals
 inj:∀x y c,X.env.cells.lookup x=Α c->X.env.cells.lookup y=Α c->x=y
 has:∀x,(X.env.kindOf x=Α .cell∨X.env.kindOf x=Α .free)->∃c,X.env.cells.lookup x=Α c
 PN:∀x c,X.fn x=Δ->X.env.cells.lookup x=Α c->X.s₀.heap.objs.size<=c
 hd:X.calm=Δ->X.A.handled=Β
 frames:X.A.frames=Α X.stack
 QD:X.stack=X.outer∨(X.stack=X.env:: X.outer/\X.env.frame=Α X.env.locals)
 Xj:∀b∈X.ex,b≠X.env.locals/\∀x c,X.env.cells.lookup x=Α c->c≠b
 bs:∀b o,X.μ.get? b=Α o->X.s₀.heap.get? b=Α o/\X.H₀ b=Β
 LV:X.μ.objs.size<=X.s₀.heap.objs.size
 K1:∀b o,X.μ.get? b=Α o->b∉X.ex
 Lk:∀b∈X.ex,b∉X.fs
 Hs:X.s₀.heap.FunFrames X.μ X.outer
 Nq:∀b∈X.fs,X.H₀ b=Β
structure ς(X:Cx)(ν:List (Ν×Obj))(σ:List (Option V))(H:Hp)(s:Ω):Prop where
 ok:X.Ok
 os:s.os=X.s₀.os
 bare:Ÿ s.gens
 μ:Un X.fs X.ex X.H₀ H X.s₀.heap s.heap
 loc:∃m,s.heap.Ns X.env.locals m/\∀(i:Nat)(x:Str)(v:V),X.N[i]?=Α x->σ[i]?=Α (Α v)->Xi X.env.scope x->∃u,RelV v u/\Look X.env s.heap m x u
 cell:∀x c,X.env.cells.lookup x=Α c->∃v,s.heap.IsCell c v
 free:H X.env.locals=Β
 FC:∀x c,X.env.cells.lookup x=Α c->H c=Β
 pin:∀p∈X.pn++ν,s.heap.get? p.1=Α p.2/\H p.1=Β/\p.1≠X.env.locals/\p.1∉X.fs/\∀v,p.2.data≠.cell v
 Fi:GD X.prog X.w H s.heap
 len:σ.length=X.N.length
section
variable {X:Cx}{ν:List (Ν×Obj)}{σ:List (Option V)}{H H':Hp}{s:Ω}{h':ò}
theorem Cx.Ok.Xk(ok:X.Ok)(e:X.μ.get? b=Α o):b∉X.fs:=λa=>by
 have:=(ok.Hs.mem a).1
 rw[e]at this;cases this
theorem ς.bs(I:ς X ν σ H s):∀b o,X.μ.get? b=Α o->s.heap.get? b=Α o/\H b=Β:=λb o e =>
 ⟨I.μ.keep b o (I.ok.bs b o e).1 (I.ok.bs b o e).2 (I.ok.Xk e) (I.ok.K1 b o e),I.μ.free b o (I.ok.bs b o e).1 (I.ok.bs b o e).2 (I.ok.K1 b o e)⟩
theorem ς.bk(I:ς X ν σ H s):∀b o,X.μ.get? b=Α o->s.heap.get? b=Α o:=λb o e=>(I.bs b o e).1
theorem ς.mod(I:ς X ν σ H s):Mod X.K X.mg X.μ:=I.ok.mod
theorem ς.FN(I:ς X ν σ H s):X.K.In s.heap:=I.ok.mod.Kl.keeps I.bk
theorem ς.lt(I:ς X ν σ H s):X.env.locals<s.heap.objs.size:=let ⟨_,hn,_⟩:=I.loc;hn.lt
theorem ς.sz(I:ς X ν σ H s):X.s₀.heap.objs.size<=s.heap.objs.size:=ώ I.ok.above (Yi I.lt)
theorem ς.Xl(I:ς X ν σ H s){a:Ν}(h:s.heap.objs.size<=a):a∉X.fs:=λb=>by
 obtain⟨_,o,c,_⟩:=I.ok.Hs.mem b
 exact Κ (Ϗ (lt_size c) (ώ I.sz h)) (Ŧ _)
theorem ς.Ll(I:ς X ν σ H s):∀x c,X.env.cells.lookup x=Α c->c≠X.env.locals:=λx c e z=>by
 obtain⟨v,o,a,b⟩:=I.cell x c e
 obtain⟨m,⟨g,h,i,d,f,_⟩,_⟩:=I.loc
 rw[z,d]at a;cases a;rw[f]at b;cases b
theorem ς.Hs(I:ς X ν σ H s):s.heap.FunFrames X.μ X.outer:=by
 have all:∀(l:List Env),(∀b∈oE l,b∈X.fs)->X.s₀.heap.FunFrames X.μ l->s.heap.FunFrames X.μ l:=by
  intro l
  induction l with
  |nil=>intro _ _;trivial
  | cons g r h =>
   intro f i
   obtain⟨j,⟨L,o,a,m,n,p⟩,q⟩:=i
   have c:=f L (by unfold oE;rw[Qf,a];exact ϙ)
   obtain⟨t,e⟩:=I.μ.slot L o n (I.ok.Nq L c) c λz=>I.ok.Lk L z c
   exact⟨j,⟨L,_,a,m,e,p⟩,h (λb d=>f b (by unfold oE;rw[Qf,a];exact ϊ _ d)) q⟩
 exact all X.outer (λ_ d=>d) I.ok.Hs
theorem ς.stack(I:ς X ν σ H s):s.heap.FunFrames X.μ X.stack:=by
 rcases I.ok.QD with e|⟨e,a⟩
 ·rw[e];exact I.Hs
 ·rw[e]
  obtain⟨m,b,_⟩:=I.loc
  refine .cons (by rw[I.ok.kind];decide) a b ?_ I.Hs
  exact ĕ (ώ I.ok.LV I.ok.above)
theorem ς.HG(I:ς X ν σ H s):∀b∈oE X.stack,b∈X.env.locals:: X.fs:=λb a=>by
 rcases I.ok.QD with e|⟨e,c⟩
 ·rw[e]at a;exact ϊ _ a
 ·rw[e]at a
  unfold oE at a
  rw[Qf,c]at a
  exact a
theorem ς.IT(I:ς X ν σ H s):∀b∈oE X.stack,H b=Β:=λb a=>by
 rcases ύ.mp (I.HG b a) with e|a
 ·rw[e];exact I.free
 ·obtain⟨_,o,c,_⟩:=I.ok.Hs.mem a
  exact I.μ.free b o c (I.ok.Nq b a) λz=>I.ok.Lk b z a
theorem ς.step{ch:List Ν}(I:ς X ν σ H s)
  (A:∀b∈ch,(b∈X.ex∨X.s₀.heap.objs.size<=b)/\b≠X.env.locals/\(∀x c,X.env.cells.lookup x=Α c->c≠b)/\∀p∈X.pn++ν,p.1≠b)
  (keep:∀b o,b≠X.env.locals->b∉X.fs->b∉ch->s.heap.get? b=Α o->H b=Β->h'.get? b=Α o)
  (h:∀b o,b≠X.env.locals->b∈X.fs->b∉ch->s.heap.get? b=Α o->H b=Β->∃J,h'.get? b=Α {o with slots:=J}) (free:∀b o,b∉ch->s.heap.get? b=Α o->H b=Β->H' b=Β)
  (j:∀b o,b∉ch->s.heap.get? b=Α o->∃B,h'.get? b=Α B)
  (Q:∀b xs,H b=Α (.tup xs)->H' b=Α (.tup xs)) (R:∀b o u,H b=Α (.JU o u)->H' b=Α (.JU o u)) (S:∀b F,H b=Α (.Ms F)->∃more,H' b=Α (.Ms (F++more)))
  (T:∀m,s.heap.Ns X.env.locals m->h'.Ns X.env.locals m) (U:GD X.prog X.w H' h') (Y:Ÿ g'):
  ς X ν σ H' {s with heap:=h',gens:=g',drawn:=d',toks:=t'}:=by
 have C:∀b o,X.s₀.heap.get? b=Α o->b≠X.env.locals:=λb o e=>Þ (Ϗ (lt_size e) I.ok.above)
 have G:∀b o,X.s₀.heap.get? b=Α o->b∉X.ex->b∉ch:=λb o e a t=>by
  rcases (A b t).1 with z|z
  ·exact a z
  ·exact Κ (Ϗ (lt_size e) z) (Ŧ _)
 have f:∀x c,X.env.cells.lookup x=Α c->∀v,s.heap.IsCell c v->h'.IsCell c v:=λx c e v ⟨o,y,L⟩=>by
  have D:=λz=>(A c z).2.2.1 x c e Λ
  by_cases N:c∈X.fs
  ·obtain⟨J,q⟩:=h c o (I.Ll x c e) N D y (I.FC x c e)
   exact⟨_,q,L⟩
  ·exact⟨o,keep c o (I.Ll x c e) N D y (I.FC x c e),L⟩
 refine⟨I.ok,I.os,Y,⟨λb o e n t a=>?_,λb o e n t a=>?_,λb o e n a=>?_,λb o e a=>?_,λb xs e=>Q b xs (I.μ.HQ b xs e),λb o xs e=>R b o xs (I.μ.HF b o xs e),λb F e=>?_⟩,?_,λx c e=>?_,?_,λx c e=>?_,λp O=>?_,U,I.len⟩
 ·exact keep b o (C b o e) t (G b o e a) (I.μ.keep b o e n t a) (I.μ.free b o e n a)
 ·obtain⟨J,g⟩:=I.μ.slot b o e n t a
  obtain⟨Z,E⟩:=h b _ (C b o e) t (G b o e a) g (I.μ.free b o e n a)
  exact⟨Z,E⟩
 ·obtain⟨B,g⟩:=I.μ.there b o e a
  exact free b B (G b o e a) g (I.μ.free b o e n a)
 ·obtain⟨B,g⟩:=I.μ.there b o e a
  exact j b B (G b o e a) g
 ·obtain⟨m1,g⟩:=I.μ.HR b F e
  obtain⟨m2,E⟩:=S b _ g
  exact⟨m1++m2,by rw[E,Array.append_assoc]⟩
 ·obtain⟨m,hn,hl⟩:=I.loc
  refine⟨m,T m hn,λi x v g E e3=>?_⟩
  obtain⟨u,r,l⟩:=hl i x v g E e3
  refine⟨u,r,?_⟩
  rcases l with l|⟨k,c,e,z⟩
  ·exact .inl l
  ·exact .inr ⟨k,c,e,f x c e _ z⟩
 ·obtain⟨v,z⟩:=I.cell x c e
  exact⟨v,f x c e v z⟩
 ·obtain⟨m,⟨o,_,_,y,_⟩,_⟩:=I.loc
  exact free _ o (λz=>(A _ z).2.1 Λ) y I.free
 ·obtain⟨v,o,y,L⟩:=I.cell x c e
  exact free c o (λz=>(A c z).2.2.1 x c e Λ) y (I.FC x c e)
 ·obtain⟨e,n,ne,P,d⟩:=I.pin p O
  have D:=λz=>(A p.1 z).2.2.2 p O Λ
  exact⟨keep p.1 p.2 ne P D e n,free p.1 p.2 D e n,ne,P,d⟩
theorem ς.un(I:ς X ν σ H s)(u:Un X.fs [] H H' s.heap h')(g:GD X.prog X.w H' h'):ς X ν σ H' {s with heap:=h',toks:=t'}:=by
 obtain⟨m,⟨o,q,t,d,r⟩,_⟩:=id I.loc
 obtain⟨v,h⟩:=u.any d I.free (by simp)
 exact I.step (g':=s.gens) (d':=s.drawn) (ch:=[]) (λ_ z=>nomatch z) (λb o _ a _ e n=>u.keep b o e n a (by simp)) (λb o _ a _ e n=>u.slot b o e n a (by simp)) (λb o _ e n=>u.free b o e n (by simp)) (λb o _ e=>u.there b o e (by simp)) u.HQ u.HF u.HR (λx i=>by
  obtain⟨y,j,l,f,p⟩:=i
  rw[d]at f;cases f
  exact⟨_,j,l,h,p⟩) g I.bare
theorem ς.call(I:ς X ν σ H s)(u:Un (oE X.stack) ch H H' s.heap h')(j:GD X.prog X.w H' h')(l:Ÿ g')
  (f:∀b∈ch,(b∈X.ex∨X.s₀.heap.objs.size<=b)/\b≠X.env.locals/\(∀x c,X.env.cells.lookup x=Α c->c≠b)/\∀p∈X.pn++ν,p.1≠b):
  ς X ν σ H' {s with heap:=h',gens:=g',drawn:=d',toks:=t'}:=by
 obtain⟨m,⟨o,B,C,h,r⟩,_⟩:=id I.loc
 obtain⟨D,d⟩:=u.any h I.free λz=>(f _ z).2.1 Λ
 exact I.step (ch:=ch) f (λb o d q a e n=>u.keep b o e n (λz=>(ύ.mp (I.HG b z)).elim d q) a) (λb o _ _ a e n=>u.any e n a) (λb o a e n=>u.free b o e n a) (λb o a e=>u.there b o e a) u.HQ u.HF u.HR (λE t=>by
  obtain⟨F,v,y,i,A⟩:=t
  rw[h]at i;cases i
  exact⟨_,v,y,d,A⟩) j l
theorem ς.turned(I:ς X ν σ H s)(k:∀b o,b≠it->s.heap.get? b=Α o->h'.get? b=Α o)(h:H it=Β)(f:it≠X.env.locals)
  (i:it∈X.ex∨X.s₀.heap.objs.size<=it) (j:∀x c,X.env.cells.lookup x=Α c->c≠it) (l:∀p∈X.pn++ν,p.1≠it):ς X ν σ H {s with heap:=h',toks:=t'}:=by
 have d:∀b u,H b=Α u->b≠it:=λb u e z=>by rw[z,h]at e;cases e
 refine I.step (g':=s.gens) (d':=s.drawn) (ch:=[it]) (λb t=>?_) (λb o _ _ a e _=>k b o (λz=>a (by simp[z])) e) (λb o _ _ a e _=>⟨o.slots,k b o (λz=>a (by simp[z])) e⟩) (λ_ _ _ _ n=>n)
  (λb o a e=>⟨o,k b o (λz=>a (by simp[z])) e⟩) (λ_ _ e=>e) (λ_ _ _ e=>e) (λb C e=>⟨#[],by rw[e];simp⟩) (λm w=>?_) (λb u e=>?_) I.bare
 ·have e:b=it:=by simpa using t
  subst e
  exact⟨i,f,j,l⟩
 ·obtain⟨o,y,A,B,r⟩:=w
  exact⟨o,y,A,k _ o (ϧ f) B,r⟩
 ·refine(I.Fi b u e).Ho (λc v a q=>k c v ?_ q) (λ_ q=>q) λ_ _ q=>q
  rcases a with z|z
  ·rw[z];exact d b u e
  ·exact d c _ z
theorem ς.tok(I:ς X ν σ H s)(t:Nat):ς X ν σ H {s with toks:=t}:=I.un (h':=s.heap) (t':=t) Un.refl I.Fi
theorem ς.kept(I:ς X ν σ H s)(k:∀b u,s.heap.get? b=Α u->h'.get? b=Α u):ς X ν σ H {s with heap:=h',toks:=t'}:=I.un (Un.kept k) (I.Fi.kept k)
theorem ς.laid{a:Ν}(I:ς X ν σ H s)(k:∀b u,s.heap.get? b=Α u->h'.get? b=Α u)(c:s.heap.objs.size<=a)(new:Fv X.prog X.w (ο H a o) h' a o):
  ς X ν σ (ο H a o) {s with heap:=h',toks:=t'}:=I.un (Un.laid k c (I.Fi.fresh c)) (I.Fi.laid k c new)
theorem ς.write(I:ς X ν σ H s)(a:QB (H x))(c:e=x∨H e=Α (.own x))(k:∀b u,b≠e->s.heap.get? b=Α u->h'.get? b=Α u)(d:∃u,h'.get? e=Α u)
  (new:Fv X.prog X.w (ο H x o) h' x o):ς X ν σ (ο H x o) {s with heap:=h',toks:=t'}:=I.un (Un.write a c k d) (I.Fi.write a c k d new)
theorem ς.GQ(I:ς X ν σ H s)(h:∀p∈Jm,s.heap.get? p.1=Α p.2/\H p.1=Β/\p.1≠X.env.locals/\p.1∉X.fs/\∀v,p.2.data≠.cell v):ς X Jm σ H s:=
 ⟨I.ok,I.os,I.bare,I.μ,I.loc,I.cell,I.free,I.FC,λp a=>(ϝ.mp a).elim (λz=>I.pin p (Ê _ z)) (h p),I.Fi,I.len⟩
theorem og{N:List Str}(c:N.Nodup){i j:Nat}(a:N[i]?=Α x)(b:N[j]?=Α x):i=j:=by
 obtain⟨f,d⟩:=ý.mp a
 obtain⟨g,e⟩:=ý.mp b
 exact(List.getElem_inj c).mp (d.trans e.symm)
theorem p8(I:ς X ν σ H s)(hN:X.N.Nodup)(J:X.N[i]?=Α x)(B:Loc X.env.scope x)(r:RelV v u)
  (h:∀P,ς X ν (σ.set i (Α v)) H P->(∃a,ŗ a s.heap P.heap/\(a=X.env.locals∨X.env.cells.lookup x=Α a))->Q () P) (hf:autoParam (X.fn x=Δ∨X.env.scope.names.lookup x=Α .local) ζ):ϩ M A (storeName X.env x u) Q E s:=by
 obtain⟨m,R,hl⟩:=id I.loc
 have Oi:(X.env.scope.kind == .class||(X.env.scope.kind == .module&& X.env.locals != X.env.globals))=Ε:=by rw[I.ok.kind];rfl
 have QF:i<σ.length:=by rw[I.len];exact(gQ0 J)
 have Ll:=I.Ll
 have g:∀{a:Ν}{h':ò},(∃o,s.heap.get? a=Α o/\H a=Β)->ŗ a s.heap h'->GD X.prog X.w H h':=λ{a h'} ha f b ob e=>by
  obtain⟨_,_,Nr⟩:=ha
  refine(I.Fi b ob e).Ho (λc L t q=>(f.2 c ?_).trans q) (λ_ q=>q) λ_ _ q=>q
  rintro rfl
  rcases t with rfl|t
  ·rw[Nr]at e;cases e
  ·rw[Nr]at t;cases t
 rcases B with D|D
 ·refine wpAny_storeName_local D R (λh' IA f=>?_) Oi
  obtain⟨oL,_,_,S,_⟩:=id R
  refine h _ ⟨I.ok,I.os,I.bare,⟨λb o e n F B=>?_,λb o e n F B=>?_,I.μ.free,λb o e B=>?_,I.μ.HQ,I.μ.HF,I.μ.HR⟩,⟨_,IA,λj y T l C U=>?_⟩,λy c e=>?_,I.free,I.FC,λp Y=>?_,g ⟨oL,S,I.free⟩ f,by simpa using I.len⟩ ⟨_,f,.inl Λ⟩
  ·exact(f.2 b (Þ (Ϗ (lt_size e) I.ok.above))).trans (I.μ.keep b o e n F B)
  ·obtain⟨Z,l⟩:=I.μ.slot b o e n F B
   exact⟨Z,(f.2 b (Þ (Ϗ (lt_size e) I.ok.above))).trans l⟩
  ·obtain⟨o',l⟩:=I.μ.there b o e B
   exact⟨o',(f.2 b (Þ (Ϗ (lt_size e) I.ok.above))).trans l⟩
  ·by_cases G:j=i
   ·subst G
    rw[J]at l;cases l
    rw[ń QF]at C
    cases C
    exact⟨u,r,.inl ⟨D,by simp⟩⟩
   ·rw[ę (ϧ G)]at C
    obtain⟨u',r',q⟩:=hl j y T l C U
    refine⟨u',r',?_⟩
    rcases q with ⟨k,e⟩|⟨k,c,e,z⟩
    ·refine .inl ⟨k,?_⟩
     have:y≠x:=λe=>G (og hN l (e▸J))
     simp[this,e]
    ·exact .inr ⟨k,c,e,z.sameBut f (Ll y c e)⟩
  ·obtain⟨L,z⟩:=I.cell y c e
   exact⟨L,z.sameBut f (Ll y c e)⟩
  ·obtain⟨e,n,ne,nf,d⟩:=I.pin p Y
   exact⟨(f.2 p.1 ne).trans e,n,ne,nf,d⟩
 ·have Xo:X.fn x=Δ:=by
   rcases hf with z|z
   ·exact z
   ·rw[z]at D;cases D
  obtain⟨c,t⟩:=I.ok.has x (.inl D)
  obtain⟨L,z⟩:=I.cell x c t
  refine wpAny_storeName_cell I.ok.kind D t z (λh' PQ f=>?_)
  obtain⟨oc,K,Xp⟩:=id z
  refine h {s with heap:=h'} ⟨I.ok,I.os,I.bare,⟨λb o e n F B=>?_,λb o e n F B=>?_,I.μ.free,λb o e B=>?_,I.μ.HQ,I.μ.HF,I.μ.HR⟩,⟨m,R.sameBut f (ϧ (Ll x c t)),λj y T l C U=>?_⟩,λy O e=>?_,I.free,I.FC,λp Y=>?_,g ⟨oc,K,I.FC x c t⟩ f,by simpa using I.len⟩ ⟨c,f,.inr t⟩
  ·exact(f.2 b (Þ (Ϗ (lt_size e) (I.ok.PN x c Xo t)))).trans (I.μ.keep b o e n F B)
  ·obtain⟨Z,l⟩:=I.μ.slot b o e n F B
   exact⟨Z,(f.2 b (Þ (Ϗ (lt_size e) (I.ok.PN x c Xo t)))).trans l⟩
  ·obtain⟨o',l⟩:=I.μ.there b o e B
   exact⟨o',(f.2 b (Þ (Ϗ (lt_size e) (I.ok.PN x c Xo t)))).trans l⟩
  ·by_cases G:j=i
   ·subst G
    rw[J]at l;cases l
    rw[ń QF]at C
    cases C
    exact⟨u,r,.inr ⟨.inl D,c,t,PQ⟩⟩
   ·rw[ę (ϧ G)]at C
    obtain⟨u',r',q⟩:=hl j y T l C U
    refine⟨u',r',?_⟩
    rcases q with q|⟨k,O,e,z'⟩
    ·exact .inl q
    ·refine .inr ⟨k,O,e,z'.sameBut f ?_⟩
     rintro rfl
     exact G (og hN l (I.ok.inj _ _ _ e t▸J))
  ·by_cases PR:O=c
   ·subst PR;exact⟨_,PQ⟩
   ·obtain⟨w2,z2⟩:=I.cell y O e
    exact⟨w2,z2.sameBut f PR⟩
  ·obtain⟨e,n,ne,nf,d⟩:=I.pin p Y
   refine⟨(f.2 p.1 ?_).trans e,n,ne,nf,d⟩
   intro q
   rw[q,K]at e
   have q':=ϥ e
   exact d L (by rw[←q'];exact Xp)
theorem jF(I:ς X ν σ H s)(b:X.N.Nodup)(c:X.N[i]?=Α x)(d:Loc X.env.scope x)(r:RelV v u)
  (h:∀a,ς X ν (σ.set i (Α v)) H a->Q () a) (e:autoParam (X.fn x=Δ∨X.env.scope.names.lookup x=Α .local) ζ):ϩ M A (storeName X.env x u) Q E s:=
 p8 I b c d r (λa f _=>h a f) e
theorem ς.Nt(I:ς X ν σ H s)(g:s'.os=s.os)(u:Un (oE X.stack) ch H H' s.heap s'.heap)(h:GD X.prog X.w H' s'.heap)(i:Ÿ s'.gens)
  (j:∀b∈ch,(b∈X.ex∨X.s₀.heap.objs.size<=b)/\b≠X.env.locals/\(∀x c,X.env.cells.lookup x=Α c->c≠b)/\∀p∈X.pn++ν,p.1≠b):ς X ν σ H' s':=by
 obtain⟨h',g',d',t',l⟩:=s'
 have e:=g
 subst e
 exact I.call (g':=g') (t':=t') (d':=d') u h i j
end
abbrev XK:=Ο->Option Ν->Hp->Prop
abbrev St:=List (Option V)
abbrev VK:=V->Hp->Prop
abbrev TE:=St->Hp->VK->Prop
abbrev TT:=St->Hp->(Bool->Hp->Prop)->Prop
abbrev TA:=St->Hp->(List V->Hp->Prop)->Prop
structure iP where
 nx:St->Hp->Prop
 rt:VK
 bk:St->Hp->Prop:=λ_ _=>False
 ct:St->Hp->Prop:=λ_ _=>False
abbrev TS:=iP->St->Hp->Prop
def EP(X:Cx)(ν:List (Ν×Obj))(σ:St)(Q:VK)(u:Ο)(s':Ω):Prop:=∃v H',ς X ν σ H' s'/\RelV v u/\Q v H'
def TP(X:Cx)(ν:List (Ν×Obj))(σ:St)(Q:Bool->Hp->Prop)(b:Bool)(s':Ω):Prop:=∃H',ς X ν σ H' s'/\Q b H'
def AP(X:Cx)(ν:List (Ν×Obj))(σ:St)(Q:List V->Hp->Prop)(us:List Ο)(s':Ω):Prop:=∃vs H',ς X ν σ H' s'/\τ vs us/\Q vs H'
def SP(X:Cx)(ν:List (Ν×Obj))(D:iP)(f:Flow)(s':Ω):Prop:=
 match f with
 |.next=>∃σ' H',ς X ν σ' H' s'/\D.nx σ' H'
 |.brk=>∃σ' H',ς X ν σ' H' s'/\D.bk σ' H'
 |.cont=>∃σ' H',ς X ν σ' H' s'/\D.ct σ' H'
 |.ret u=>∃v σ' H',ς X ν σ' H' s'/\RelV v u/\D.rt v H'
def PE(X:Cx)(e:Expr)(t:TE):Prop:=
 ∀(ν:List (Ν×Obj))(s:Ω)(σ:St)(H:Hp)(Q:VK),ς X ν σ H s->t σ H Q->ϩ (Ϧ X.prog X.w) X.A (eval e X.env) (EP X ν σ Q) X.xe s
def PT(X:Cx)(e:Expr)(t:TT):Prop:=
 ∀(ν:List (Ν×Obj))(s:Ω)(σ:St)(H:Hp)(Q:Bool->Hp->Prop),ς X ν σ H s->t σ H Q->ϩ (Ϧ X.prog X.w) X.A (isTrue e X.env (eval e X.env)) (TP X ν σ Q) X.xe s
def PW(X:Cx)(e:Expr)(t:TT):Prop:=
 ∀(whole:Sem Ο)(ν:List (Ν×Obj))(s:Ω)(σ:St)(H:Hp)(Q:Bool->Hp->Prop),ς X ν σ H s->t σ H Q->ϩ (Ϧ X.prog X.w) X.A (isTrue e X.env whole) (TP X ν σ Q) X.xe s
theorem PW.pt(h:PW X e t):PT X e t:=h _
def PA(X:Cx)(es:List Expr)(t:TA):Prop:=
 ∀(pos:Pos)(ν:List (Ν×Obj))(s:Ω)(σ:St)(H:Hp)(Q:List V->Hp->Prop),ς X ν σ H s->t σ H Q->ϩ (Ϧ X.prog X.w) X.A (spliced (Ė pos (Ϭ es X.env))) (AP X ν σ Q) X.xe s
def PS(X:Cx)(st:Ã)(t:TS):Prop:=
 ∀(ν:List (Ν×Obj))(s:Ω)(σ:St)(H:Hp)(D:iP),ς X ν σ H s->t D σ H->ϩ (Ϧ X.prog X.w) X.A (exec st X.env) (SP X ν D) X.xe s
def Ib(X:Cx)(st:List Ã)(t:TS):Prop:=
 ∀(ν:List (Ν×Obj))(s:Ω)(σ:St)(H:Hp)(D:iP),ς X ν σ H s->t D σ H->ϩ (Ϧ X.prog X.w) X.A (execs st X.env) (SP X ν D) X.xe s
theorem bq{M:Model}{A:é}{E:Ο->Ω->Prop}{s:Ω}(h:ϩ M A t Q E s)(b:∀a s,Q a s->Q' a s):ϩ M A t Q' E s:=Ë h b λ_ _ x=>x
section
variable {X:Cx}
theorem tvE{o:Option (Option V)}{F:V->Prop}(h:(o.getD Β).elim False F):∃v,o=Α (Α v)/\F v:=by
 cases o with
 |none=>exact h.elim
 |some o=>
  cases o with
  |none=>exact h.elim
  |some v=>exact⟨v,Λ,h⟩
def jh(i:Nat):TE:=λσ H Q=>((σ[i]?).getD Β).elim False λv=>Q v H
def tC(v:V):TE:=λ_ H Q=>Q v H
theorem DO(j:X.N[i]?=Α x)(n:Xi X.env.scope x)(d:autoParam ((x == ("__debug__":Str))=Ε) θ)(o:autoParam ((x == ("__classdict__":Str))=Ε) θ):PE X (.Name x pos) (jh i):=by
 intro b s p H Q I h
 obtain⟨v,e,h⟩:=tvE h
 obtain⟨m,q,t⟩:=I.loc
 obtain⟨u,r,l⟩:=t i x v j e n
 have fin:EP X b p Q u s:=⟨v,H,I,r,h⟩
 rcases l with ⟨a,w⟩|⟨a,c,f,g⟩
 ·exact Za (wpAny_loadName_local I.ok.kind a q w fin) d
 ·rcases a with a|a
  ·exact Za (wpAny_loadName_cell I.ok.kind a f g fin) d
  ·exact Za (wpAny_loadName_free I.ok.kind a f g fin o) d
theorem ae:PE X (.Constant (.int i) j pos) (tC (.int i)):=λ_ _ _ H _ I h=>wpAny_Constant_int ⟨.int i,H,I.tok _,⟨_,Λ⟩,h⟩
theorem iD:PE X (.Constant (.bool b) j pos) (tC (.bl b)):=λ_ _ _ H _ I h=>Constant_bool ⟨.bl b,H,I,Λ,h⟩
theorem bA:PE X (.Constant .none j pos) (tC .Fp):=λ_ _ _ H _ I h=>Constant_none ⟨.Fp,H,I,Λ,h⟩
theorem aD:PE X (.Constant (.str x) j pos) (tC (.str x)):=λ_ _ _ H _ I h=>Calls.Constant_str ⟨.str x,H,I.tok _,⟨_,Λ⟩,h⟩
def Gl(X:Cx)(x:Str):Prop:=X.env.kindOf x=Α .globalImplicit
theorem fK{a:St}(I:ς X ν a H s)(b:Gl X x)(c:X.mg x=Α u)(h:Q u s)
  (d:autoParam ((x == ("__debug__":Str))=Ε) θ):ϩ (Ϧ X.prog X.w) X.A (eval (.Name x pos) X.env) Q E s:=
 Jv I.ok.kind b (Calls.loadGlobal_global (by rw[I.ok.glob];exact I.mod.glob.keeps I.bk) c h) d
theorem lj{a:St}(I:ς X ν a H s)(b:Gl X x)(c:X.mg x=Β)(d:š x=Α u)(h:Q u s)
  (e:autoParam (x≠ "__name__") θ) (f:autoParam ((x == ("__debug__":Str))=Ε) θ):ϩ (Ϧ X.prog X.w) X.A (eval (.Name x pos) X.env) Q E s:=by
 obtain⟨j,g,i⟩:=I.mod.blt
 exact Jv I.ok.kind b (Calls.loadGlobal_builtin (by rw[I.ok.glob];exact I.mod.glob.keeps I.bk) c (by rw[I.ok.blt];exact g.keeps I.bk) ((i x e).trans d) h) f
theorem dj(a:Gl X x)(b:X.mg x=Α u)(r:RelV v u)(c:autoParam ((x == ("__debug__":Str))=Ε) θ):PE X (.Name x pos) (tC v):=
 λ_ _ _ H _ I h=>fK I a b ⟨v,H,I,r,h⟩ c
theorem jU(a:Gl X x)(b:X.mg x=Β)(c:š x=Α u)(r:RelV v u)(d:autoParam (x≠ "__name__") θ)(e:autoParam ((x == ("__debug__":Str))=Ε) θ):PE X (.Name x pos) (tC v):=
 λ_ _ _ H _ I h=>lj I a b c ⟨v,H,I,r,h⟩ d e
variable {a b:Expr}{ta tb:TE}{pos:Pos}
def PC(X:Cx)(op:CmpOp)(a b:Expr)(t:TE):Prop:=
 ∀(ν:List (Ν×Obj))(s:Ω)(σ:St)(H:Hp)(Q:VK),ς X ν σ H s->t σ H Q->
  ϩ (Ϧ X.prog X.w) X.A (eval a X.env) (λv s₁=>ϩ (Ϧ X.prog X.w) X.A (eval b X.env) (λu s₂=>ϩ (Ϧ X.prog X.w) X.A (compareOp op v u) (EP X ν σ Q) X.xe s₂) X.xe s₁) X.xe s
inductive Uaa(Q:Bool->Hp->Prop)(x:V)(H1:Hp):Prop
 |mk (c)(_:x=.bl c)(_:Q c H1)
def tB(t:TE):TT:=λσ H Q=>t σ H λx H1=>Uaa Q x H1
theorem DJ(h:PC X op a b t)(f:ź op b=Ε:=by first|exact QG _ (by decide) (by decide)|rfl):PT X (.Compare a [op] [b] pos) (tB t):=by
 intro e s g H Q I i
 refine Xh (bq (h e s g H _ I i) λv r f=>bq f λu w j=>bq j λc y l=>?_) f
 obtain⟨x,m,n,o,p⟩:=l
 obtain⟨d,rfl,q⟩:=p
 cases o
 exact ð ⟨m,n,q⟩
theorem b9(h:PE X e t)(g:autoParam (∀c,isTrue e X.env c=(do let v ← c;G7 e.pos;ŵ [v] (truthy v))) ψ):PT X e (tB t):=by
 intro f s i H Q I j
 refine isTrue_plain (bq (h f s i H _ I j) λv r l=>?_) (g _)
 obtain⟨x,m,n,o,p⟩:=l
 obtain⟨d,rfl,q⟩:=p
 cases o
 exact ð ⟨m,n,q⟩
variable {tA Vp:TT}{rest:List Expr}
def Xq(t u:TT):TT:=λσ H Q=>t σ H λc H1=>if c=Δ then u σ H1 Q else Q Ε H1
def tOr(t u:TT):TT:=λσ H Q=>t σ H λc H1=>if c=Δ then Q Δ H1 else u σ H1 Q
def Xr(t:TT):TT:=λσ H Q=>t σ H λc H1=>Q (!c) H1
theorem dR(f:PT X a tA):PW X (.BoolOp .And [a] pos) tA:=by
 intro i d s g H Q I h
 refine isTrue_and (bq (f d s g H Q I h) λc j e=>?_)
 cases c with
 |true=>exact isTrue_and_nil e
 |false=>exact e
theorem dL(f:PT X a tA):PW X (.BoolOp .Or [a] pos) tA:=by
 intro i d s g H Q I h
 refine isTrue_or (bq (f d s g H Q I h) λc j e=>?_)
 cases c with
 |false=>exact isTrue_or_nil e
 |true=>exact e
theorem fR(j:PT X a tA)(l:PW X (.BoolOp .And (b:: rest) pos) Vp):PW X (.BoolOp .And (a:: b:: rest) pos) (Xq tA Vp):=by
 intro m d s e H Q I h
 refine isTrue_and (bq (j d s e H _ I h) λc n o=>?_)
 obtain⟨f,g,i⟩:=o
 cases c with
 |true=>exact l m d n e f Q g i
 |false=>exact⟨f,g,i⟩
theorem dQ(j:PT X a tA)(l:PW X (.BoolOp .Or (b:: rest) pos) Vp):PW X (.BoolOp .Or (a:: b:: rest) pos) (tOr tA Vp):=by
 intro m d s e H Q I h
 refine isTrue_or (bq (j d s e H _ I h) λc n o=>?_)
 obtain⟨f,g,i⟩:=o
 cases c with
 |true=>exact⟨f,g,i⟩
 |false=>exact l m d n e f Q g i
theorem bV(e:PT X a tA):PT X (.UnaryOp .Not a pos) (Xr tA):=by
 intro d s f H Q I h
 exact isTrue_not (e d s f H (λc g=>Q (!c) g) I h)
inductive Uab(tb:TE)(σ:St)(Q:VK)(x:V)(H1:Hp):Prop
 |mk (c)(_:x=.bl c)(_:if c=Δ then tb σ H1 Q else Q (.bl Ε) H1)
def QH(ta tb:TE):TE:=λσ H Q=>ta σ H λx H1=>Uab tb σ Q x H1
inductive Uac(tb:TE)(σ:St)(Q:VK)(x:V)(H1:Hp):Prop
 |mk (c)(_:x=.bl c)(_:if c=Δ then Q (.bl Δ) H1 else tb σ H1 Q)
def Xs(ta tb:TE):TE:=λσ H Q=>ta σ H λx H1=>Uac tb σ Q x H1
inductive Uad(Q:VK)(x:V)(H1:Hp):Prop
 |mk (c)(_:x=.bl c)(_:Q (.bl (!c)) H1)
def QI(ta:TE):TE:=λσ H Q=>ta σ H λx H1=>Uad Q x H1
theorem gh(h:PE X a t):PE X (.BoolOp op [a] pos) t:=λc s d H Q I e=>BoolOp_one (h c s d H Q I e)
theorem gi(j:PE X a ta)(l:PE X (.BoolOp .And (b:: rest) pos) tb):PE X (.BoolOp .And (a:: b:: rest) pos) (QH ta tb):=by
 intro d s f H Q I h
 refine BoolOp_and (bq (j d s f H _ I h) λv m n=>?_)
 obtain⟨x,g,i,o,e⟩:=n
 obtain⟨c,rfl,e⟩:=e
 cases o
 refine ð ?_
 cases c with
 |true=>exact l d m f g Q i e
 |false=>exact⟨.bl Ε,g,i,Λ,e⟩
theorem QJ(j:PE X a ta)(l:PE X (.BoolOp .Or (b:: rest) pos) tb):PE X (.BoolOp .Or (a:: b:: rest) pos) (Xs ta tb):=by
 intro d s f H Q I h
 refine BoolOp_or (bq (j d s f H _ I h) λv m n=>?_)
 obtain⟨x,g,i,o,e⟩:=n
 obtain⟨c,rfl,e⟩:=e
 cases o
 refine ð ?_
 cases c with
 |false=>exact l d m f g Q i e
 |true=>exact⟨.bl Δ,g,i,Λ,e⟩
theorem yX(f:PE X a ta):PE X (.UnaryOp .Not a pos) (QI ta):=by
 intro d s g H Q I h
 refine UnaryOp_ (bq (f d s g H _ I h) λv n i=>?_)
 obtain⟨x,j,l,m,e⟩:=i
 obtain⟨c,rfl,e⟩:=e
 cases m
 exact not_of (ð ⟨.bl (!c),j,l,Λ,e⟩)
def tIf(t:TT)(ta tb:TE):TE:=λσ H Q=>t σ H λc H1=>if c=Δ then ta σ H1 Q else tb σ H1 Q
theorem cI(m:PT X c tA)(n:PE X a ta)(o:PE X b tb):PE X (.IfExp c a b pos) (tIf tA ta tb):=by
 intro e s f H Q I h
 refine wpAny_IfExp (bq (m e s f H _ I h) λd g p=>?_)
 obtain⟨i,j,l⟩:=p
 cases d with
 |true=>exact n e g f i Q j l
 |false=>exact o e g f i Q j l
end
def EX(K:Ϣ)(H:Hp)(a:Ν)(xs:List V):Prop:=
 Rd H a (.π xs)∨
  ∃(o:Obj)(Fe:Array Ο)(n:Nat),K.lookup a=Α o/\o.cls=.type "list"/\o.dict=Β/\o.data=.seq Fe n/\Fe.size<=Τ/\τ xs Fe.toList
def Fn(K:Ϣ)(H:Hp)(a:Ν)(xs:List V):Prop:=
 Rd H a (.tup xs)∨
  ∃(o:Obj)(Fe:Array Ο)(n:Nat),K.lookup a=Α o/\o.cls=.type "tuple"/\o.data=.seq Fe n/\Fe.size<=Τ/\τ xs Fe.toList
noncomputable def Xt:Ο->Option V
 |.none=>Α .Fp
 |.bool b=>Α (.bl b)
 |.int i _=>Α (.int i)
 |.str x _=>Α (.str x)
 |.bytes b _=>Α (.Kk b)
 |.float b _=>Α (.Og b)
 |.ref a=>Α (.ref a)
 |.type n=>Α (.ty n)
 |_=>Β
theorem RelV.abs(r:RelV x u):Xt u=Α x:=by
 cases x with
 |Fp=>cases r;rfl
 |bl _=>cases r;rfl
 |int _=>obtain⟨t,rfl⟩:=r;rfl
 |str _=>obtain⟨t,rfl⟩:=r;rfl
 |Kk _=>obtain⟨t,rfl⟩:=r;rfl
 |Og _=>obtain⟨t,rfl⟩:=r;rfl
 |ref _=>cases r;rfl
 |ty _=>cases r;rfl
theorem RelV.inj(r:RelV x u)(q:RelV y u):x=y:=ϥ (r.abs.symm.trans q.abs)
theorem τ.inj:∀{xs a:List V}{us:List Ο},τ xs us->τ a us->xs=a
 |_,_,_,.nil,.nil=>rfl
 |_,_,_,.cons r t,.cons r' t'=>by rw[r.inj r',τ.inj t t']
section
variable {X:Cx}{ν:List (Ν×Obj)}{σ:St}{H:Hp}{s:Ω}{a:Ν}{xs ys:List V}
theorem EX.of{K:Ϣ}(h:H a=Α (.π xs)):EX K H a xs:=.inl (.inl h)
theorem Fn.of{K:Ϣ}(h:H a=Α (.tup xs)):Fn K H a xs:=.inl (.inl h)
theorem ς.list(I:ς X ν σ H s)(h:EX X.K H a xs):∃b:List Ο,τ xs b/\PlainL s.heap a b.toArray/\xs.length<=Τ:=by
 rcases h with h|⟨o,b,n,c,d,f,g,i,r⟩
 ·obtain⟨z,b,n,r,e⟩:=h.ok I.Fi
  exact⟨b,r,⟨_,n,e,Λ,Λ,Λ⟩,z⟩
 ·refine⟨b.toList,r,⟨o,n,I.FN a o c,d,f,by simpa using g⟩,?_⟩
  have e:=r.length
  simp only[Â]at e
  omega
theorem ς.tuple(I:ς X ν σ H s)(h:Fn X.K H a xs):∃b:List Ο,τ xs b/\IsTup s.heap a b.toArray/\xs.length<=Τ:=by
 rcases h with h|⟨o,b,n,c,d,f,g,r⟩
 ·obtain⟨z,b,r,p⟩:=h.ok I.Fi
  exact⟨b,r,p.isTup,z⟩
 ·refine⟨b.toList,r,⟨o,I.FN a o c,d,n,by simpa using f⟩,?_⟩
  have e:=r.length
  simp only[Â]at e
  omega
theorem ς.Jn(I:ς X ν σ H s)(h:EX X.K H a xs)(g:EX X.K H a ys):xs=ys:=by
 obtain⟨i,r,⟨o,n,e,_,_,d⟩,_⟩:=I.list h
 obtain⟨b,j,⟨m,p,c,_,_,f⟩,_⟩:=I.list g
 rw[e]at c;cases c
 rw[d]at f
 injection f with l _
 have:i=b:=by simpa using congrArg O3 l
 subst this
 exact r.inj j
theorem ς.IJ(I:ς X ν σ H s)(h:Fn X.K H a xs)(g:Fn X.K H a ys):xs=ys:=by
 obtain⟨i,r,⟨o,e,_,n,d⟩,_⟩:=I.tuple h
 obtain⟨b,j,⟨m,c,_,p,f⟩,_⟩:=I.tuple g
 rw[e]at c;cases c
 rw[d]at f
 injection f with l _
 have:i=b:=by simpa using congrArg O3 l
 subst this
 exact r.inj j
end
abbrev Cx.HH(X:Cx)(E:Ο->Ω->Prop):Cx:={X with xe:=E}
abbrev Cx.KY(X:Cx):Cx:=X.HH λ_ _=>False
theorem Cx.Ok.HH{X:Cx}(ok:X.Ok)(E:Ο->Ω->Prop):(X.HH E).Ok:=
 ⟨ok.mod,ok.kind,ok.glob,ok.blt,ok.above,ok.inj,ok.has,ok.PN,ok.hd,ok.frames,ok.QD,ok.Xj,ok.bs,ok.LV,ok.K1,ok.Lk,ok.Hs,ok.Nq⟩
theorem Cx.Ok.FO{X:Cx}(ok:(X.HH E).Ok):X.Ok:=
 ⟨ok.mod,ok.kind,ok.glob,ok.blt,ok.above,ok.inj,ok.has,ok.PN,ok.hd,ok.frames,ok.QD,ok.Xj,ok.bs,ok.LV,ok.K1,ok.Lk,ok.Hs,ok.Nq⟩
section
variable {X:Cx}{ν:List (Ν×Obj)}{σ:St}{H:Hp}{s:Ω}{E:Ο->Ω->Prop}
theorem ς.HH(I:ς X ν σ H s)(E:Ο->Ω->Prop):ς (X.HH E) ν σ H s:=⟨I.ok.HH E,I.os,I.bare,I.μ,I.loc,I.cell,I.free,I.FC,I.pin,I.Fi,I.len⟩
theorem ς.FO(I:ς (X.HH E) ν σ H s):ς X ν σ H s:=⟨I.ok.FO,I.os,I.bare,I.μ,I.loc,I.cell,I.free,I.FC,I.pin,I.Fi,I.len⟩
theorem SP.FO(h:SP (X.HH E) ν D f s'):SP X ν D f s':=by
 cases f with
 |next=>obtain⟨a,b,I,q⟩:=h;exact⟨a,b,I.FO,q⟩
 |brk=>obtain⟨a,b,I,q⟩:=h;exact⟨a,b,I.FO,q⟩
 |cont=>obtain⟨a,b,I,q⟩:=h;exact⟨a,b,I.FO,q⟩
 |ret u=>obtain⟨v,a,b,I,r,q⟩:=h;exact⟨v,a,b,I.FO,r,q⟩
theorem Ib.KY{a:List Ã}(h:Ib X.KY a t):Ib X a t:=λν s σ H D I b =>
 Ë (h ν s σ H D (I.HH _) b) (λ_ _ q=>q.FO) λ_ _ z=>Ö z
end
section
variable {X:Cx}{st:Ã}{rest:List Ã}{t u:TS}{e:Expr}{te:TE}{pos:Pos}
def Cz:TS:=λD σ H=>D.nx σ H
def rF(t u:TS):TS:=λD σ H=>t {D with nx:=u D} σ H
theorem aG:Ib X [] Cz:=λ_ _ a H _ I h=>ċ ⟨a,H,I,h⟩
theorem ad(c:PS X st t)(d:Ib X rest u):Ib X (st:: rest) (rF t u):=by
 intro a s g H D I h
 refine Ĺ (bq (c a s g H {D with nx:=u D} I h) λf i q=>?_)
 cases f with
 | next =>
  obtain⟨b,j,l,q⟩:=q
  exact d a i b j D l q
 |ret v=>exact q
 |brk=>exact q
 |cont=>exact q
theorem ah(b:PS X st t):Ib X [st] t:=by
 intro a s c H D I h
 refine Ĺ (bq (b a s c H D I h) λf d q=>?_)
 cases f with
 |next=>exact ċ q
 |ret v=>exact q
 |brk=>exact q
 |cont=>exact q
theorem ς.quiet{a:St}(I:ς X ν a H s):interactive X.env=Ε:=by simp[interactive,I.ok.kind]
def QK(te:TE):TS:=λD σ H=>te σ H λ_ H1=>D.nx σ H1
theorem aU(c:PE X e te)(d:autoParam (ĺ e Β pos.line X.env=pure Ε) η):PS X (.Expr e pos) (QK te):=by
 intro a s b H D I h
 exact wpAny_Expr_any (bq (c a s b H _ I h) λv l f=>by obtain⟨x,g,i,m,j⟩:=f;exact⟨b,g,i,j⟩) I.quiet d
def QL(te:TE):TS:=λD σ H=>te σ H D.rt
theorem az(c:PE X e te):PS X (.Return (Α e) pos) (QL te):=by
 intro a s b H D I h
 exact wpAny_Return_some (bq (c a s b H _ I h) λv l d=>by obtain⟨x,f,g,i,j⟩:=d;exact⟨x,b,f,g,i,j⟩)
def AV(c:TT)(t u:TS):TS:=λD σ H=>c σ H λb H1=>if b=Δ then t D σ H1 else u D σ H1
theorem aN(n:PT X c tc)(o:Ib X a t)(p:Ib X b u):PS X (.If c a b pos) (AV tc t u):=by
 intro f s g H D I h
 refine wpAny_If (bq (n f s g H _ I h) λd i q=>?_)
 obtain⟨j,l,m⟩:=q
 cases d with
 |true=>exact o f i g j D l m
 |false=>exact p f i g j D l m
def Dh:TS:=λ_ _ _=>False
theorem fc:PS X st Dh:=λ_ _ _ _ _ _ h=>h.elim
end
abbrev TG:=V->St->Hp->(St->Hp->Prop)->Prop
abbrev EM:=List V->St->Hp->(St->Hp->Prop)->Prop
def PG(X:Cx)(target:Expr)(t:TG):Prop:=
 ∀(ν:List (Ν×Obj))(s:Ω)(σ:St)(H:Hp)(v:V)(u:Ο)(Q:St->Hp->Prop),ς X ν σ H s->RelV v u->t v σ H Q->
  ϩ (Ϧ X.prog X.w) X.A (assign target X.env u) (λ_ s'=>∃σ' H',ς X ν σ' H' s'/\Q σ' H') X.xe s
def Vq(X:Cx)(ts:List Expr)(t:EM):Prop:=
 ∀(ν:List (Ν×Obj))(s:Ω)(σ:St)(H:Hp)(vs:List V)(us:List Ο)(Q:St->Hp->Prop),ς X ν σ H s->τ vs us->t vs σ H Q->
  ϩ (Ϧ X.prog X.w) X.A (assignInOrder ((gg ts X.env).map (·.2)) us) (λ_ s'=>∃σ' H',ς X ν σ' H' s'/\Q σ' H') X.xe s
abbrev EL:=V->V->V->Hp->(Hp->Prop)->Prop
def QM(X:Cx)(t:EL):Prop:=
 ∀(ν:List (Ν×Obj))(s:Ω)(σ:St)(H:Hp)(o i v:V)(ov iv u:Ο)(Q:Hp->Prop),ς X ν σ H s->RelV o ov->RelV i iv->RelV v u->t o i v H Q->
  ϩ (Ϧ X.prog X.w) X.A (setItem ov iv u) (λ_ s'=>∃H',ς X ν σ H' s'/\Q H') X.xe s
section
variable {X:Cx}{pos:Pos}
def ci(i:Nat):TG:=λv σ H Q=>Q (σ.set i (Α v)) H
theorem aE(b:X.N.Nodup)(c:X.N[i]?=Α x)(d:Loc X.env.scope x)(e:autoParam (X.fn x=Δ∨X.env.scope.names.lookup x=Α .local) ζ):PG X (.Name x pos) (ci i):=by
 intro a s g H v u Q I r h
 exact wpAny_assign_Name (jF I b c d r (λj f=>⟨_,H,f,h⟩) e)
noncomputable def Xu:EM:=λvs σ H Q=>vs=[]/\Q σ H
noncomputable def QN(t:TG)(u:EM):EM:=λvs σ H Q=>∃v r,vs=v:: r/\t v σ H λσ' H'=>u r σ' H' Q
theorem gZ:Vq X [] Xu:=by
 intro a s b H c us Q I r h
 obtain⟨e,h⟩:=h
 subst e
 cases r
 exact assignInOrder_nil ⟨b,H,I,h⟩
theorem bX(c:PG X e t)(d:Vq X es u)
  (f:autoParam ((gg (e:: es) X.env).map (·.2)=assign e X.env:: (gg es X.env).map (·.2)) η):Vq X (e:: es) (QN t u):=by
 intro a s g H q us Q I r h
 obtain⟨v,w,i,h⟩:=h
 subst i
 cases r with
 | cons r j =>
  rw[f]
  refine assignInOrder_cons (bq (c a s g H _ _ _ I r h) λ_ l m=>?_)
  obtain⟨b,n,o,p⟩:=m
  exact d a l b n _ _ Q o j p
inductive E7(K:Ϣ)(n:Nat)(t:EM)(v:V)(σ:St)(H:Hp)(Q:St->Hp->Prop):Prop
 |mk (a xs)(_:v=.ref a)(_:Fn K H a xs)(_:xs.length=n)(_:t xs σ H Q)
theorem jz(j:X.calm=Δ)(h:Vq X es t)
  (l:autoParam ((gg es X.env).length=n) η) (m:autoParam ((gg es X.env).findIdx? (·.1)=Β) η):PG X (.Tuple es k pos) (E7 X.K n t):=by
 intro c s f H v u Q I r d
 obtain⟨a,xs,p,q,w,d⟩:=d
 subst p
 cases r
 obtain⟨B,g,x,C⟩:=I.tuple q
 refine assign_Tuple_tuple (I.ok.hd j) x (by simp[l,←w,g.length]) m λy z=>?_
 have A:=I.kept (t':=s.toks) λb o e=>z b o (Þ (lt_size e)) e
 exact h c _ f H xs _ Q A (by simpa using g) d
def Xv(to ti:TE)(t:EL):TG:=λv σ H Q=>to σ H λo H1=>ti σ H1 λi H2=>t o i v H2 λH3=>Q σ H3
theorem kT(f:PE X o to)(g:PE X i ti)(j:QM X t)
  (l:∀v,assign (.Subscript o i pos) X.env v=(do
   let b ← ŵ [v] (eval o X.env)
   let c ← ŵ [v,b] (eval i X.env)
   G7 pos
   ŵ [v,b,c] (setItem b c v)
   release [v,b,c] []):=by intro _;rfl):PG X (.Subscript o i pos) (Xv to ti t):=by
 intro a s e H v u Q I r h
 rw[l]
 refine Ρ (đ (bq (f a s e H _ I h) λb m d=>?_))
 obtain⟨x,n,p,q,w⟩:=d
 refine Ρ (đ (bq (g a m e n _ p w) λc z d=>?_))
 obtain⟨y,A,B,C,D⟩:=d
 refine Ρ (Đ (Ρ (đ (bq (j a z e A x y v b c u _ B q C r D) λ_ J d=>?_))))
 obtain⟨E,F,G⟩:=d
 exact wpAny_release ⟨e,E,F,G⟩
def AW(te:TE)(g:TG):TS:=λD σ H=>te σ H λx H1=>g x σ H1 D.nx
theorem iC(c:PE X e te)(d:PG X tg g)(f:autoParam (swapsWithSole [tg] e pos.line X.env=pure Ε) η)(i:autoParam (swappedStores [tg] e X.env=pure Β) η)
  (j:autoParam ((gg [tg] X.env).map (·.2)=[assign tg X.env]) η):PS X (.Assign [tg] e pos) (AW te g):=by
 intro a s b H D I h
 refine wpAny_Assign_stores (bq (c a s b H _ I h) λv l m=>?_) f i
 obtain⟨x,n,o,p,r⟩:=m
 rw[j]
 exact bq (d a l b n x v _ o p r) λ_ t q=>q
theorem aA(b:X.N.Nodup)(c:X.N[i]?=Α x)(d:Loc X.env.scope x)(f:PE X e te)(g:autoParam (ĺ e (Α (.Name x pos')) pos.line X.env=pure Ε) η)(j:autoParam (X.fn x=Δ∨X.env.scope.names.lookup x=Α .local) ζ):
  PS X (.Assign [.Name x pos'] e pos) (AW te (ci i)):=by
 intro a s l H D I h
 refine wpAny_Assign_Name (bq (f a s l H _ I h) λv t m=>?_) g
 obtain⟨y,n,o,p,q⟩:=m
 exact jF o b c d p (λu r=>⟨_,n,r,q⟩) j
end
section
variable {X:Cx}{pos:Pos}
end
structure It where
 go:Nat->Hp->Prop
 LW:Nat->Hp->V->Hp->Prop
 stop:Nat->Hp->Prop
def jm(X:Cx)(ν:List (Ν×Obj))(H:Hp)(b:Ν):Prop:=
 H b=Β/\b≠X.env.locals/\b∉X.fs/\(b∈X.ex∨X.s₀.heap.objs.size<=b)/\(∀x c,X.env.cells.lookup x=Α c->c≠b)/\∀p∈X.pn++ν,p.1≠b
theorem ς.K3{d:St}{b:Ν}(I:ς X ν d H s)(a:s.heap.objs.size<=b)(f:H' b=Β):jm X ν H' b:=by
 refine⟨f,ŭ (Ϗ I.lt a),I.Xl a,.inr (ώ I.sz a),λx c e z=>?_,λp g z=>?_⟩
 ·obtain⟨v,q⟩:=I.cell x c e
  exact Κ (Ϗ q.lt (by rw[z];exact a)) (Ŧ _)
 ·exact Κ (Ϗ (lt_size (I.pin p g).1) (by rw[z];exact a)) (Ŧ _)
structure tw(P:Program)(w:À)(K:Ϣ)(tg:Expr)(J:It)(fp:List Ν)(it:Ν)(tn:Nat->ò->Prop):Prop where
 mem:it∈fp
 obj:∀i h,tn i h->∀b∈fp,∃o,h.get? b=Α o/\∀v,o.data≠.cell v
 keep:∀i h h',tn i h->(∀b∈fp,∀o,h.get? b=Α o->h'.get? b=Α o)->tn i h'
 item:∀(X:Cx),X.prog=P->X.w=w->X.K=K->X.calm=Δ->∀(i:Nat)(ν:List (Ν×Obj))(s:Ω)(σ:St)(H:Hp)(E:Ο->Ω->Prop),ς X ν σ H s->(∀b∈fp,jm X ν H b)->tn i s.heap->J.go i H->
  ϩ (Ϧ P w) X.A (pyNext (.ref it)) (λr s1=>∃u,r=Α u/\
   ϩ (Ϧ P w) X.A (Ń tg (.ref it) u) (λ_ s2=>∃x H',ς X ν σ H' s2/\RelV x u/\J.LW i H x H'/\tn (i+1) s2.heap/\∀b∈fp,H' b=Β) E s1) E s
 done:∀(X:Cx),X.prog=P->X.w=w->X.K=K->X.calm=Δ->∀(i:Nat)(ν:List (Ν×Obj))(s:Ω)(σ:St)(H:Hp)(E:Ο->Ω->Prop),ς X ν σ H s->(∀b∈fp,jm X ν H b)->tn i s.heap->J.stop i H->
  ϩ (Ϧ P w) X.A (pyNext (.ref it)) (λr s1=>r=Β/\ς X ν σ H s1) E s
 self:∀(A:é)(i:Nat)(s:Ω)(Q:Ο->Ω->Prop)(E:Ο->Ω->Prop),tn i s.heap->Q (.ref it) s->ϩ (Ϧ P w) A (pyIter (.ref it)) Q E s
abbrev TI:=St->Hp->(It->Hp->Prop)->Prop
def PIE(X:Cx)(ν:List (Ν×Obj))(σ:St)(tg:Expr)(R:It->Hp->Prop)(Vr:Ο)(s2:Ω):Prop:=
 ∃(it:Ν)(fp:List Ν)(tn:Nat->ò->Prop)(J:It)(H':Hp),Vr=.ref it/\ς X ν σ H' s2/\tw X.prog X.w X.K tg J fp it tn/\tn 0 s2.heap/\(∀b∈fp,jm X ν H' b)/\R J H'
def PI(X:Cx)(tg iter:Expr)(wi:TI):Prop:=
 ∀(ν:List (Ν×Obj))(s:Ω)(σ:St)(H:Hp)(R:It->Hp->Prop),ς X ν σ H s->wi σ H R->
  ϩ (Ϧ X.prog X.w) X.A (eval iter X.env) (λv s1=>ϩ (Ϧ X.prog X.w) X.A (pyIter v) (PIE X ν σ tg R) X.xe s1) X.xe s
theorem vM(b:s.heap.get? it=Α o)(c:o.cls=.type n)(d:o.data=.fields vs)
  (e:["enumerate","zip","dict_itemiterator","dict_reverseitemiterator","odict_iterator","itertools.zip_longest","itertools.pairwise"].contains n=Ε) (a:Q () s):ϩ M A (Ń tg (.ref it) u) Q E s:=by
 unfold Ń
 cases tg<;>first
  |exact Ϥ a
  | (cases u<;>first
    |exact Ϥ a
    | (refine Ρ (wpAny_load b ?_)
       rw[c,d]
       show ϩ M A (if (["enumerate","zip","dict_itemiterator","dict_reverseitemiterator","odict_iterator","itertools.zip_longest","itertools.pairwise"].contains n&& vs[0]? == Α (ū _))=Δ then _ else _) Q E s
       rw[Θ (by intro h;rw[e,ö]at h;cases h)]
       exact Ϥ a))
noncomputable def AF(K:Ϣ)(a:Ν):It:=
 ⟨λi H=>∃xs x,EX K H a xs/\xs[i]?=Α x,λi H x H'=>H'=H/\∀xs,EX K H a xs->xs[i]?=Α x,λi H=>∃xs,EX K H a xs/\xs.length<=i⟩
noncomputable def Vs(K:Ϣ)(a:Ν):It:=
 ⟨λi H=>∃xs x,Fn K H a xs/\xs[i]?=Α x,λi H x H'=>H'=H/\∀xs,Fn K H a xs->xs[i]?=Α x,λi H=>∃xs,Fn K H a xs/\xs.length<=i⟩
noncomputable def Ct(lo:Int)(n:Nat):It:=⟨λi _=>i<n,λi H x H'=>H'=H/\x=.int (lo+i),λi _=>n<=i⟩
theorem wm{K:Ϣ}(a it:Ν):tw P w K tg (AF K a) [it] it (λi h=>h.IsListIter it a i) where
 mem:=by simp
 obj:=λi h f b j=>by
  have e:b=it:=by simpa using j
  subst e
  obtain⟨o,e,c,d⟩:=f
  exact⟨o,e,λv z=>by rw[d]at z;cases z⟩
 keep:=λi h m f k=>f.at λo e=>k it (by simp) o e
 item:=by
  intro X r t y M i g s N H E I n f A
  subst r t y
  obtain⟨xs,x,q,B⟩:=A
  obtain⟨Q,C,p,R⟩:=I.list q
  obtain⟨u,S,T⟩:=C.get B
  obtain⟨D,F,U,G,J,L⟩:=n it (by simp)
  refine wpAny_pyNext_list_item f p.isList (x:=u) (by simpa using S) λm O Y=>?_
  have Z:=I.turned (t':=s.toks) (λb o j e=>(Y.2 b j).trans e) D F G J L
  obtain⟨o,e,c,d⟩:=id O
  exact⟨u,Λ,vM (s:={s with heap:=m}) e c d (by decide) ⟨x,H,Z,T,⟨Λ,λys hy=>by rw[I.Jn hy q];exact B⟩,O,λb j=>(n b j).1⟩⟩
 done:=by
  intro X r t y M i g s N H E I n f A
  subst r t y
  obtain⟨xs,q,B⟩:=A
  obtain⟨Q,C,p,R⟩:=I.list q
  obtain⟨D,F,U,G,J,L⟩:=n it (by simp)
  have hl:=C.length
  exact wpAny_pyNext_list_end (I.ok.hd M) f p.isList (by simp;omega) λm eb=>⟨Λ,I.turned (t':=s.toks) (λb o j e=>eb b o j e) D F G J L⟩
 self:=λ_ _ _ _ _ f h=>wpAny_pyIter_listiter f h
theorem tP{K:Ϣ}(a it:Ν):tw P w K tg (Vs K a) [it] it (λi h=>h.IsTupleIter it a i) where
 mem:=by simp
 obj:=λi h f b j=>by
  have e:b=it:=by simpa using j
  subst e
  obtain⟨o,e,c,d⟩:=f
  exact⟨o,e,λv z=>by rw[d]at z;cases z⟩
 keep:=λi h m f k=>f.at λo e=>k it (by simp) o e
 item:=by
  intro X r t y N i g s O H E I n f A
  subst r t y
  obtain⟨xs,x,q,B⟩:=A
  obtain⟨C,D,p,R⟩:=I.tuple q
  obtain⟨u,S,T⟩:=D.get B
  obtain⟨F,G,U,J,L,M⟩:=n it (by simp)
  refine wpAny_pyNext_tuple_item f (p) (x:=u) (by simpa using S) λm Q Y=>?_
  have Z:=I.turned (t':=s.toks) (λb o j e=>(Y.2 b j).trans e) F G J L M
  obtain⟨o,e,c,d⟩:=id Q
  exact⟨u,Λ,vM (s:={s with heap:=m}) e c d (by decide) ⟨x,H,Z,T,⟨Λ,λys hy=>by rw[I.IJ hy q];exact B⟩,Q,λb j=>(n b j).1⟩⟩
 done:=by
  intro X r t y N i g s O H E I n f A
  subst r t y
  obtain⟨xs,q,B⟩:=A
  obtain⟨C,D,p,R⟩:=I.tuple q
  obtain⟨F,G,U,J,L,M⟩:=n it (by simp)
  have hl:=D.length
  exact wpAny_pyNext_tuple_end (I.ok.hd N) f (p) (by simp;omega) λm eb=>⟨Λ,I.turned (t':=s.toks) (λb o j e=>eb b o j e) F G J L M⟩
 self:=λ_ _ _ _ _ f h=>wpAny_pyIter_tupleiter f h
theorem tQ{K:Ϣ}(it:Ν)(g:Int)(n:Nat):tw P w K tg (Ct g n) [it] it (λi h=>IsRangeIter h it (g+(i:Nat)* 1) ((n:Int) - (i:Nat)) 1) where
 mem:=by simp
 obj:=λi h a b d=>by
  have e:b=it:=by simpa using d
  subst e
  exact⟨_,a,λv z=>by
   have J:=z
   cases J⟩
 keep:=λi h j a k=>k it (by simp) _ a
 item:=by
  intro X m p q r i c s D H E I l a u
  subst m p q
  obtain⟨x,y,L,A,B,C⟩:=l it (by simp)
  have W:=Walks.range (prog:=X.prog) (w:=X.w) (I.ok.hd r) it g 1 n
  refine W.item i s _ _ u a λv j F M G N=>?_
  obtain⟨t,rfl⟩:=M
  have O:ς X c D H {s with heap:=j,toks:=F}:=I.turned (λb o d e=>N b o (by simpa using d) e) x y A B C
  refine⟨_,Λ,vM (s:={s with heap:=j,toks:=F}) (n:="range_iterator") G Λ Λ (by decide) ⟨.int (g+i),H,O,⟨t,?_⟩,⟨Λ,Λ⟩,G,λb d=>(l b d).1⟩⟩
  rw[Int.mul_one]
 done:=by
  intro X m p q r i c s D H E I l a u
  subst m p q
  obtain⟨x,y,L,A,B,C⟩:=l it (by simp)
  exact wpAny_pyNext_range_end (I.ok.hd r) a (by have:n<=i:=u;omega) λj Q=>⟨Λ,I.turned (t':=s.toks) (λb o d e=>Q b o d e) x y A B C⟩
 self:=λ_ _ _ _ _ a h=>wpAny_pyIter_rangeiter a h
section
variable {X:Cx}{tg:Expr}
inductive Uae(K:Ϣ)(R:It->Hp->Prop)(x:V)(H1:Hp):Prop
 |mk (a)(_:x=.ref a)(_:(∃xs,EX K H1 a xs))(_:R (AF K a) H1)
def QO(K:Ϣ)(tl:TE):TI:=λσ H R=>tl σ H λx H1=>Uae K R x H1
inductive Uaf(K:Ϣ)(R:It->Hp->Prop)(x:V)(H1:Hp):Prop
 |mk (a)(_:x=.ref a)(_:(∃xs,Fn K H1 a xs))(_:R (Vs K a) H1)
def Xw(K:Ϣ)(tl:TE):TI:=λσ H R=>tl σ H λx H1=>Uaf K R x H1
theorem bu(g:PE X l tl):PI X tg l (QO X.K tl):=by
 intro c s i H R I h
 refine bq (g c s i H _ I h) λv d j=>?_
 obtain⟨x,m,f,n,r⟩:=j
 obtain⟨a,e,⟨xs,t⟩,q⟩:=r
 subst e
 cases n
 obtain⟨w,y,p,z⟩:=f.list t
 refine wpAny_pyIter_list p.isList ?_
 refine⟨d.heap.objs.size,[d.heap.objs.size],_,_,m,Λ,f.kept (t':=d.toks) λb o e=>Υ _ e,wm a _,⟨_,ϣ _ Λ,Λ,Λ⟩,λb u=>?_,q⟩
 have e:b=d.heap.objs.size:=by simpa using u
 subst e
 exact f.K3 (ϛ _) (f.Fi.fresh (ϛ _))
theorem kS(g:PE X l tl):PI X tg l (Xw X.K tl):=by
 intro c s i H R I h
 refine bq (g c s i H _ I h) λv d j=>?_
 obtain⟨x,m,f,n,r⟩:=j
 obtain⟨a,e,⟨xs,t⟩,q⟩:=r
 subst e
 cases n
 obtain⟨u,y,p,z⟩:=f.tuple t
 refine Ũ (p) ?_
 refine⟨d.heap.objs.size,[d.heap.objs.size],_,_,m,Λ,f.kept (t':=d.toks) λb o e=>Υ _ e,tP a _,⟨_,ϣ _ Λ,Λ,Λ⟩,λb w=>?_,q⟩
 have e:b=d.heap.objs.size:=by simpa using w
 subst e
 exact f.K3 (ϛ _) (f.Fi.fresh (ϛ _))
theorem yK{f:St}{a c:Int}(I:ς X ν f H s)(h:-(2^62)<=a)(i:a<2^62)(j:-(2^62)<=c)(l:c<2^62)
  (q:R (Ct a (c - a).toNat) H):ϩ (Ϧ X.prog X.w) X.A (pyIter (.ref s.heap.objs.size)) (PIE X ν f tg R) E {s with heap:=s.heap.push {cls:=.type "range",data:=.fields #[.int a t,.int c u,.int 1 v]},toks:=tk}:=by
 refine wpAny_pyIter_range (IsRange.new ..) (small_one h i j l) ?_
 have g:ς X ν f H {s with heap:=s.heap.push {cls:=.type "range",data:=.fields #[.int a t,.int c u,.int 1 v]},toks:=tk}:=I.kept λb o e=>Υ _ e
 refine⟨(s.heap.push {cls:=.type "range",data:=.fields #[.int a t,.int c u,.int 1 v]}).objs.size,[(s.heap.push {cls:=.type "range",data:=.fields #[.int a t,.int c u,.int 1 v]}).objs.size],_,_,H,Λ,
  g.kept (t':=tk) λb o e=>Υ _ e,tQ _ a (c - a).toNat,?_,λb m=>?_,q⟩
 ·have n:a+((0:Nat):Int)* 1=a:=by simp
  have p:(((c - a).toNat:Nat):Int) - ((0:Nat):Int)=Builtin.Range.rangeSize a c 1:=by rw[rangeSize_one];split<;>omega
  rw[n,p]
  exact ϣ _ Λ
 ·have e:b=(s.heap.push {cls:=.type "range",data:=.fields #[.int a t,.int c u,.int 1 v]}).objs.size:=by simpa using m
  subst e
  exact g.K3 (ϛ _) (g.Fi.fresh (ϛ _))
inductive Uag(R:It->Hp->Prop)(vs:List V)(H1:Hp):Prop
 |mk (j:Int)(_:vs=[.int j])(_:-(2^62)<=j)(_:j<2^62)(_:R (Ct 0 j.toNat) H1)
def QP(ta:TA):TI:=λσ H R=>ta σ H λvs H1=>Uag R vs H1
theorem b6(d:Gl X "range")(f:X.mg "range"=Β)(g:PA X [a] ta)(i:autoParam (Ϭ [a] X.env=[(Ε,eval a X.env)]) η):PI X tg (.Call (.Name "range" p) [a] [] pos) (QP ta):=by
 intro b s l H R I h
 refine Call_ (lj I d f boot_range (Ġ (bq (g pos b s l H _ I h) λus w m=>?_) i Λ))
 obtain⟨x,y,n,o,c⟩:=m
 obtain⟨j,e,c,u,q⟩:=c
 subst e
 cases o with
 | cons r v =>
  cases v
  obtain⟨t,rfl⟩:=r
  exact call_range_1 (yK n (by omega) (by omega) c u (by simpa using q))
def Xx(wi:TI)(g:TG)(tb:TS):TS:=λD σ H=>wi σ H λJ H1=>∃W:Nat->Nat->St->Hp->Prop,(∃m,W 0 m σ H1)/\∀i m σ H,W i m σ H->
 (J.stop i H/\D.nx σ H)∨(J.go i H/\∃N:St->Hp->Prop,(∀σ' H',N σ' H'->∃m',m'< m/\W (i+1) m' σ' H')/\∀x H',J.LW i H x H'->g x σ H' λσ2 H2=>tb {D with nx:=N,ct:=N,bk:=D.nx} σ2 H2)
noncomputable def gY(fp:List Ν)(h:ò):List (Ν×Obj):=fp.filterMap λb=>(h.get? b).map λo=>(b,o)
theorem ia(a:b∈fp)(e:h.get? b=Α o):(b,o)∈gY fp h:=Ua.mpr ⟨b,a,by rw[e];rfl⟩
theorem pD(a:p∈gY fp h):p.1∈fp/\h.get? p.1=Α p.2:=by
 obtain⟨b,c,e⟩:=Ua.mp a
 cases q:h.get? b with
 |none=>rw[q]at e;cases e
 | some o =>
  rw[q]at e
  have d:=ϥ e
  subst d
  exact⟨c,q⟩
theorem ς.pinned{a:St}(I:ς X ν a H s)(g:∀b∈fp,jm X ν H b)(h:∀b∈fp,∃o,s.heap.get? b=Α o/\∀v,o.data≠.cell v):ς X (ν++gY fp s.heap) a H s:=
 I.GQ λp i=>(ϝ.mp i).elim (λz=>I.pin p (Å _ z)) λz=>by
  obtain⟨c,e⟩:=pD z
  obtain⟨j,l,m,_⟩:=g p.1 c
  obtain⟨o,f,d⟩:=h p.1 c
  rw[e]at f;cases f
  exact⟨e,j,l,m,d⟩
theorem ς.Ht{a:St}(I:ς X (ν++pl) a H s):ς X ν a H s:=I.GQ λp b=>I.pin p (Å _ (Ê _ b))
theorem cF(F:PassesOwn (Ϧ X.prog X.w) X.A X.env X.xe)(Z:X.calm=Δ)(hi:PI X tg iter wi)(hg:PG X tg g)(j:Ib X body tb)
  (hs:autoParam (∀x,GI iter X.env x=pure x) ψ):PS X (.For tg iter body [] pos) (Xx wi g tb):=by
 intro a s σ H D I h
 refine wpAny_For (bq (hi a s σ H _ I h) λv s1 h1=>bq h1 λVr s2 h2=>?_) hs
 obtain⟨it,G,tn,J,H2,e,I2,T,QQ,f2,W,⟨m0,w0⟩,K⟩:=h2
 subst e
 have l:∀{B:Hp},(∀b∈G,B b=Β)->∀b∈G,jm X a B b:=λhn b j=>⟨hn b j,(f2 b j).2⟩
 refine codeAny_forLoop_any (λn s'=>∃i p B,ς X a p B s'/\tn i s'.heap/\(∀b∈G,B b=Β)/\W i n p B) ?_ m0 ⟨0,σ,H2,I2,QQ,λb j=>(f2 b j).1,w0⟩
 rintro n s3 ⟨i,q,P,I3,L,M,w3⟩
 rcases K i n q P w3 with ⟨stop,qn⟩|⟨go,N,hN,step⟩
 ·refine Ş F (bq (T.done X Λ Λ Λ Z i a s3 q P X.xe I3 (l M) L stop) λr s4 E=>?_)
  obtain⟨Q,I4⟩:=E
  subst Q
  exact ċ ⟨q,P,I4,qn⟩
 ·refine Ş F (bq (T.item X Λ Λ Λ Z i a s3 q P X.xe I3 (l M) L go) λr s4 E=>?_)
  obtain⟨u,Q,h4⟩:=E
  subst Q
  refine Ş F (bq h4 λ_ s5 E=>?_)
  obtain⟨x,H5,I5,r5,y5,R,Vt⟩:=E
  have S:=I5.pinned (l Vt) (T.obj _ _ R)
  refine Ş F (bq (hg _ s5 q H5 x u _ S r5 (step x H5 y5)) λ_ s6 E=>?_)
  obtain⟨U,H6,I6,q6⟩:=E
  refine Ş F (bq (j _ s6 U H6 _ I6 q6) λf Y C=>?_)
  have t:∀{c:St}{y:Hp},ς X (a++gY G s5.heap) c y Y->N c y->∃m,m<n/\∃i p B,ς X a p B Y/\tn i Y.heap/\(∀b∈G,B b=Β)/\W i m p B:=λ{c y} z O=>by
   obtain⟨m',hm,w7⟩:=hN c y O
   refine⟨m',hm,i+1,c,y,z.Ht,T.keep _ _ _ R λb j o e=>(z.pin (b,o) (Å _ (Å _ (ia j e)))).1,λb j=>?_,w7⟩
   obtain⟨o,e,d⟩:=T.obj _ _ R b j
   exact(z.pin (b,o) (Å _ (Å _ (ia j e)))).2.1
  cases f with
  |next=>obtain⟨c,y,z,O⟩:=C;exact t z O
  |cont=>obtain⟨c,y,z,O⟩:=C;exact t z O
  |brk=>obtain⟨c,y,z,C⟩:=C;exact⟨c,y,z.Ht,C⟩
  |ret v=>obtain⟨x7,c,y,z,r7,C⟩:=C;exact⟨x7,c,y,z.Ht,r7,C⟩
end
theorem kq{K:Ϣ}{g:TG}{tb:TS}{D:iP}(c:Nat->St->Hp->Prop)(o:c 0 b H)(r:∀i b H,i<=xs.length->c i b H->EX K H a xs)
  (s:∀i x b H,xs[i]?=Α x->c i b H->g x b H λd j=>tb {D with nx:=c (i+1),ct:=c (i+1),bk:=D.nx} d j) (u:∀b H,c xs.length b H->D.nx b H):
  ∃W:Nat->Nat->St->Hp->Prop,(∃m,W 0 m b H)/\∀i m b H,W i m b H->
   ((AF K a).stop i H/\D.nx b H)∨((AF K a).go i H/\∃N:St->Hp->Prop,(∀f h,N f h->∃l,l<m/\W (i+1) l f h)/\∀x h,(AF K a).LW i H x h->g x b h λd j=>tb {D with nx:=N,ct:=N,bk:=D.nx} d j):=by
 refine⟨λi m b H=>m=xs.length - i/\i<=xs.length/\c i b H,⟨xs.length,by simp,Ä _,o⟩,?_⟩
 rintro i m b H ⟨rfl,v,p⟩
 have q:=r i b H v p
 by_cases n:i<xs.length
 ·refine .inr ⟨⟨xs,xs[i],q,by simp[n]⟩,c (i+1),λf h w=>⟨xs.length - (i+1),by omega,Λ,n,w⟩,λx h y=>?_⟩
  obtain⟨e,y⟩:=y
  subst e
  exact s i x b _ (y xs q) p
 ·have e:i=xs.length:=by omega
  subst e
  exact .inl ⟨⟨xs,q,ϛ _⟩,u b H p⟩
theorem cz{h:Int}{g:TG}{tb:TS}{D:iP}(b:Nat->St->Hp->Prop)(q:b 0 a H)
  (r:∀i a H,i<n->b i a H->g (.int (h+i)) a H λc j=>tb {D with nx:=b (i+1),ct:=b (i+1),bk:=D.nx} c j) (t:∀a H,b n a H->D.nx a H):
  ∃W:Nat->Nat->St->Hp->Prop,(∃m,W 0 m a H)/\∀i m a H,W i m a H->
   ((Ct h n).stop i H/\D.nx a H)∨((Ct h n).go i H/\∃N:St->Hp->Prop,(∀d f,N d f->∃o,o<m/\W (i+1) o d f)/\∀x f,(Ct h n).LW i H x f->g x a f λc j=>tb {D with nx:=N,ct:=N,bk:=D.nx} c j):=by
 refine⟨λi m a H=>m=n - i/\i<=n/\b i a H,⟨n,by simp,Ä _,q⟩,?_⟩
 rintro i m a H ⟨rfl,v,p⟩
 by_cases l:i<n
 ·refine .inr ⟨l,b (i+1),λd f u=>⟨n - (i+1),by omega,Λ,l,u⟩,λx f y=>?_⟩
  obtain⟨e,y⟩:=y
  subst e y
  exact r i a _ l p
 ·have e:i=n:=by omega
  subst e
  exact .inl ⟨ϛ _,t a H p⟩
abbrev R2:=V->V->Hp->VK->Prop
def fW(X:Cx)(f:Ο->Ο->Sem Ο)(r:R2):Prop:=
 ∀(ν:List (Ν×Obj))(s:Ω)(σ:St)(H:Hp)(x y:V)(v u:Ο)(Q:VK),ς X ν σ H s->RelV x v->RelV y u->r x y H Q->
  ϩ (Ϧ X.prog X.w) X.A (f v u) (EP X ν σ Q) X.xe s
def Xy(X:Cx)(f:Ο->Sem Ο)(r:V->Hp->VK->Prop):Prop:=
 ∀(ν:List (Ν×Obj))(s:Ω)(σ:St)(H:Hp)(x:V)(v:Ο)(Q:VK),ς X ν σ H s->RelV x v->r x H Q->
  ϩ (Ϧ X.prog X.w) X.A (f v) (EP X ν σ Q) X.xe s
def F5(X:Cx)(f:Ο)(r:List V->Hp->VK->Prop):Prop:=
 ∀(ν:List (Ν×Obj))(s:Ω)(σ:St)(H:Hp)(xs:List V)(us:List Ο)(Q:VK),ς X ν σ H s->τ xs us->r xs H Q->
  ϩ (Ϧ X.prog X.w) X.A (call f us) (EP X ν σ Q) X.xe s
def Xz(X:Cx)(r:V->Hp->(Bool->Hp->Prop)->Prop):Prop:=
 ∀(ν:List (Ν×Obj))(s:Ω)(σ:St)(H:Hp)(x:V)(v:Ο)(Q:Bool->Hp->Prop),ς X ν σ H s->RelV x v->r x H Q->
  ϩ (Ϧ X.prog X.w) X.A (truthy v) (TP X ν σ Q) X.xe s
def AG(r:R2)(ta tb:TE):TE:=λσ H Q=>ta σ H λx H1=>tb σ H1 λy H2=>r x y H2 Q
def tUn(r:V->Hp->VK->Prop)(ta:TE):TE:=λσ H Q=>ta σ H λx H1=>r x H1 Q
inductive rI(C:Int->Int->Prop)(g:Int->Int->V)(x:V)(y:V)(H:Hp)(Q:VK):Prop
 |mk (i j)(_:x=.int i)(_:y=.int j)(_:C i j)(_:Q (g i j) H)
inductive wC(g:Int->Int->V)(x:V)(y:V)(H:Hp)(Q:VK):Prop
 |mk (i j)(_:x=.int i)(_:y=.int j)(_:Q (g i j) H)
inductive rU(g:Int->V)(x:V)(H:Hp)(Q:VK):Prop
 |mk (i)(_:x=.int i)(_:Q (g i) H)
section
variable {X:Cx}{a b c:Expr}{ta tb tc:TE}{pos:Pos}
theorem EH(n:PE X a ta)(o:PE X b tb){d:St}{R:V->V->Hp->Prop}(I:ς X ν d H s)
  (h:ta d H λx l=>tb d l λy e=>R x y e) {f:Ο->Ο->Sem Ο}
  (p:∀v u j x y e,ς X ν d e j->RelV x v->RelV y u->R x y e->ϩ (Ϧ X.prog X.w) X.A (f v u) Q X.xe j):
  ϩ (Ϧ X.prog X.w) X.A (eval a X.env) (λv g=>ϩ (Ϧ X.prog X.w) X.A (eval b X.env) (λu i=>ϩ (Ϧ X.prog X.w) X.A (f v u) Q X.xe i) X.xe g) X.xe s:=by
 refine bq (n ν s d H _ I h) λv q m=>?_
 obtain⟨x,l,r,t,z⟩:=m
 refine bq (o ν q d l _ r z) λu j m=>?_
 obtain⟨y,e,B,C,D⟩:=m
 exact p v u j x y e B t C D
theorem ax(e:fW X (binaryOp op) r)(f:PE X a ta)(g:PE X b tb):PE X (.BinOp a op b pos) (AG r ta tb):=by
 intro d s i H Q I h
 exact wpAny_BinOp (EH f g I h λv u j x y l m n o q=>e d j i l x y v u Q m n o q)
theorem io(f:Xy X (unaryOp op) r)(g:PE X a ta):PE X (.UnaryOp op a pos) (tUn r ta):=by
 intro d s e H Q I h
 exact UnaryOp_ (bq (g d s e H _ I h) λv i j=>by obtain⟨x,l,m,n,o⟩:=j;exact f d i e l x v Q m n o)
theorem PV{g:Int->Int->Int}
  (d:∀(i j:Int)(t u:Tok)(s:Ω)(Q:Ο->Ω->Prop)(E:Ο->Ω->Prop),C i j->Q (.int (g i j) s.toks) {s with toks:=s.toks+1}->ϩ (Ϧ X.prog X.w) X.A (f (.int i t) (.int j u)) Q E s):
  fW X f (rI C λi j =>.int (g i j)):=by
 intro l s r H x y v u Q I m n h
 obtain⟨i,j,rfl,rfl,o,q⟩:=h
 obtain⟨t,rfl⟩:=m
 obtain⟨p,rfl⟩:=n
 exact d i j t p s _ _ o ⟨.int (g i j),H,I.tok _,⟨_,Λ⟩,q⟩
theorem wJ{g:Int->Int->Int}
  (d:∀(i j:Int)(t u:Tok)(s:Ω)(Q:Ο->Ω->Prop)(E:Ο->Ω->Prop),Q (.int (g i j) s.toks) {s with toks:=s.toks+1}->ϩ (Ϧ X.prog X.w) X.A (f (.int i t) (.int j u)) Q E s):
  fW X f (wC λi j =>.int (g i j)):=by
 intro l s p H x y v u Q I m n h
 obtain⟨i,j,rfl,rfl,q⟩:=h
 obtain⟨t,rfl⟩:=m
 obtain⟨o,rfl⟩:=n
 exact d i j t o s _ _ ⟨.int (g i j),H,I.tok _,⟨_,Λ⟩,q⟩
theorem B0{g:Int->Int->Bool}
  (d:∀(i j:Int)(t u:Tok)(s:Ω)(Q:Ο->Ω->Prop)(E:Ο->Ω->Prop),Q (.bool (g i j)) s->ϩ (Ϧ X.prog X.w) X.A (f (.int i t) (.int j u)) Q E s):
  fW X f (wC λi j =>.bl (g i j)):=by
 intro e s o H x y v u Q I l m h
 obtain⟨i,j,rfl,rfl,q⟩:=h
 obtain⟨t,rfl⟩:=l
 obtain⟨n,rfl⟩:=m
 exact d i j t n s _ _ ⟨.bl (g i j),H,I,Λ,q⟩
def X0(i j:Int):Prop:=0<j/\j<1073741824
def QR(i j:Int):Prop:=0<=j/\j<=1000000/\i.natAbs<2^64
def Oj(i j:Int):Prop:=(-(2^64)<i/\i<2^64)∨(-(2^64)<j/\j<2^64)
theorem Oj.ok(h:Oj i j):IntMulOk i j:=by
 rcases h with ⟨d,e⟩|⟨d,e⟩
 ·exact .of_left (intBits_le_64 d e)
 ·exact .of_right (intBits_le_64 d e)
theorem tN(k:Nat):(0:Int)<=2^k:=by
 rw[two_pow_cast]
 exact ĸ _
theorem bL:fW X (binaryOp .Add) (wC λi j =>.int (i+j)):=wJ λ_ _ _ _ _ _ _ q=>add_int q
theorem fF:fW X (binaryOp .Sub) (wC λi j =>.int (i - j)):=wJ λ_ _ _ _ _ _ _ q=>sub_int q
theorem nS:fW X (binaryOp .Mult) (rI Oj λi j =>.int (i* j)):=PV λ_ _ _ _ _ _ _ d q=>mul_int q d.ok
theorem bK:fW X (binaryOp .FloorDiv) (rI X0 λi j =>.int (i / j)):=PV λi j _ _ _ _ _ d q=>by
 have e:=d.1
 have f:=d.2
 exact floordiv_int (by omega) (by rw[Nx i (by omega)];exact q) (.inl (PyProof.noPylong_small (by omega)))
theorem aY:fW X (binaryOp .Mod) (rI (λ_ j=>0<j) λi j =>.int (i% j)):=PV λi j _ _ _ _ _ d q=>by
 have e:=d
 exact mod_int' (by omega) (by rw[Int.fmod_eq_emod_of_nonneg i (by omega)];exact q)
theorem zb:fW X (binaryOp .Pow) (rI QR λi j =>.int (i^j.toNat)):=PV λ_ _ _ _ _ _ _ d q=>pow_int_small d.1 d.2.1 d.2.2 q
theorem DT:fW X (binaryOp .LShift) (rI QR λi j =>.int (i* 2^j.toNat)):=PV λ_ _ _ _ _ _ _ d q=>lshift_int_small d.1 d.2.1 d.2.2 q
theorem uB:fW X (binaryOp .RShift) (rI (λ_ j=>0<=j) λi j =>.int (i / 2^j.toNat)):=PV λi j _ _ _ _ _ d q =>
 rshift_int d (by rw[Nx i (tN _)];exact q)
theorem zd:fW X (binaryOp .BitAnd) (wC λi j =>.int (Ă i j)):=wJ λ_ _ _ _ _ _ _ q=>and_int q
theorem QS:fW X (binaryOp .BitOr) (wC λi j =>.int (ek i j)):=wJ λ_ _ _ _ _ _ _ q=>or_int q
theorem qR:fW X (inplaceOp .Add) (wC λi j =>.int (i+j)):=wJ λ_ _ _ _ _ _ _ q=>iadd_int q
theorem vK:fW X (inplaceOp .Sub) (wC λi j =>.int (i - j)):=wJ λ_ _ _ _ _ _ _ q=>isub_int q
theorem unI{g:Int->Int}
  (d:∀(i:Int)(t:Tok)(s:Ω)(Q:Ο->Ω->Prop)(E:Ο->Ω->Prop),Q (.int (g i) s.toks) {s with toks:=s.toks+1}->ϩ (Ϧ X.prog X.w) X.A (f (.int i t)) Q E s):
  Xy X f (rU λi =>.int (g i)):=by
 intro j s m H x v Q I l h
 obtain⟨i,rfl,q⟩:=h
 obtain⟨t,rfl⟩:=l
 exact d i t s _ _ ⟨.int (g i),H,I.tok _,⟨_,Λ⟩,q⟩
theorem fD:Xy X (unaryOp .USub) (rU λi =>.int (-i)):=unI λ_ _ _ _ _ q=>neg_int q
end
noncomputable def Ds:V->V->Bool
 |.Fp,.Fp=>Δ|.Fp,.int _=>Δ|.int _,.Fp=>Δ|.Fp,.bl _=>Δ|.bl _,.Fp=>Δ|.Fp,.str _=>Δ|.str _,.Fp=>Δ
 |.int _,.int _=>Δ|.bl _,.bl _=>Δ|.str _,.str _=>Δ|.Kk _,.Kk _=>Δ
 |.int _,.str _=>Δ|.str _,.int _=>Δ|.bl _,.str _=>Δ|.str _,.bl _=>Δ
 |_,_=>Ε
def rEq:R2:=λx y H Q=>Ds x y=Δ/\Q (.bl (decide (x=y))) H
def rNe:R2:=λx y H Q=>Ds x y=Δ/\Q (.bl (!decide (x=y))) H
theorem vS:decide (V.int i=V.int j)=(i == j):=by
 rw[Ŏ]
 simp
theorem Ao:decide (V.bl i=V.bl j)=(i == j):=by
 rw[Ŏ]
 simp
theorem vR:decide (V.str i=V.str j)=(i == j):=by
 rw[Ŏ]
 simp
theorem vT:decide (V.Kk i=V.Kk j)=(i.toList == j.toList):=by
 rw[Ŏ]
 cases i
 cases j
 simp
section
variable {X:Cx}{a b c:Expr}{ta tb tc:TE}{pos:Pos}
theorem aW{d:St}(I:ς X ν d H s)(q:Q (.bl k) H)(e:k=k'):EP X ν d Q (.bool k') s:=by
 subst e
 exact⟨.bl k,H,I,Λ,q⟩
theorem aQ:fW X (compareOp .Eq) rEq:=by
 intro l s m H x y v u Q I g d h
 obtain⟨f,q⟩:=h
 cases x with
 | Fp =>
  cases g
  cases y with
  |Fp=>cases d;exact PySem.EqNone.eq_none_none (aW I q (by simp))
  |bl j=>cases d;exact PySem.EqNone.eq_none_bool (aW I q (by simp))
  |int j=>obtain⟨e,rfl⟩:=d;exact PySem.EqNone.eq_none_int (aW I q (by simp))
  |str j=>obtain⟨e,rfl⟩:=d;exact PySem.EqNone.eq_none_str (aW I q (by simp))
  |_=>exact Κ (f) Ϟ
 | bl i =>
  cases g
  cases y with
  |Fp=>cases d;exact PySem.EqNone.eq_bool_none (aW I q (by simp))
  |bl j=>cases d;exact eq_bool (aW I q Ao)
  |str j=>obtain⟨e,rfl⟩:=d;exact PySem.EqMixed.eq_bool_str (aW I q (by simp))
  |_=>exact Κ (f) Ϟ
 | int i =>
  obtain⟨t,rfl⟩:=g
  cases y with
  |Fp=>cases d;exact PySem.EqNone.eq_int_none (aW I q (by simp))
  |int j=>obtain⟨e,rfl⟩:=d;exact eq_int (aW I q vS)
  |str j=>obtain⟨e,rfl⟩:=d;exact PySem.EqMixed.eq_int_str (aW I q (by simp))
  |_=>exact Κ (f) Ϟ
 | str i =>
  obtain⟨t,rfl⟩:=g
  cases y with
  |Fp=>cases d;exact PySem.EqNone.eq_str_none (aW I q (by simp))
  |bl j=>cases d;exact PySem.EqMixed.eq_str_bool (aW I q (by simp))
  |int j=>obtain⟨e,rfl⟩:=d;exact PySem.EqMixed.eq_str_int (aW I q (by simp))
  |str j=>obtain⟨e,rfl⟩:=d;exact eq_str (aW I q vR)
  |_=>exact Κ (f) Ϟ
 | Kk i =>
  obtain⟨t,rfl⟩:=g
  cases y with
  |Kk j=>obtain⟨e,rfl⟩:=d;exact PySem.W.eq_bytes (aW I q vT)
  |_=>exact Κ (f) Ϟ
 |_=>cases y<;>exact Κ (f) Ϟ
theorem lB:fW X (compareOp .NotEq) rNe:=by
 intro l s m H x y v u Q I g d h
 obtain⟨f,q⟩:=h
 cases x with
 | Fp =>
  cases g
  cases y with
  |Fp=>cases d;exact PySem.EqNone.ne_none_none (aW I q (by simp))
  |bl j=>cases d;exact PySem.EqNone.ne_none_bool (aW I q (by simp))
  |int j=>obtain⟨e,rfl⟩:=d;exact PySem.EqNone.ne_none_int (aW I q (by simp))
  |str j=>obtain⟨e,rfl⟩:=d;exact PySem.EqNone.ne_none_str (aW I q (by simp))
  |_=>exact Κ (f) Ϟ
 | bl i =>
  cases g
  cases y with
  |Fp=>cases d;exact PySem.EqNone.ne_bool_none (aW I q (by simp))
  |bl j=>cases d;exact ne_bool (aW I q (congrArg not Ao))
  |str j=>obtain⟨e,rfl⟩:=d;exact PySem.EqMixed.ne_bool_str (aW I q (by simp))
  |_=>exact Κ (f) Ϟ
 | int i =>
  obtain⟨t,rfl⟩:=g
  cases y with
  |Fp=>cases d;exact PySem.EqNone.ne_int_none (aW I q (by simp))
  |int j=>obtain⟨e,rfl⟩:=d;exact ne_int (aW I q (congrArg not vS))
  |str j=>obtain⟨e,rfl⟩:=d;exact PySem.EqMixed.ne_int_str (aW I q (by simp))
  |_=>exact Κ (f) Ϟ
 | str i =>
  obtain⟨t,rfl⟩:=g
  cases y with
  |Fp=>cases d;exact PySem.EqNone.ne_str_none (aW I q (by simp))
  |bl j=>cases d;exact PySem.EqMixed.ne_str_bool (aW I q (by simp))
  |int j=>obtain⟨e,rfl⟩:=d;exact PySem.EqMixed.ne_str_int (aW I q (by simp))
  |str j=>obtain⟨e,rfl⟩:=d;exact ne_str (aW I q (congrArg not vR))
  |_=>exact Κ (f) Ϟ
 | Kk i =>
  obtain⟨t,rfl⟩:=g
  cases y with
  |Kk j=>obtain⟨e,rfl⟩:=d;exact PySem.W.ne_bytes (aW I q (congrArg not vT))
  |_=>exact Κ (f) Ϟ
 |_=>cases y<;>exact Κ (f) Ϟ
theorem lC:fW X (compareOp .Lt) (wC λi j =>.bl (decide (i<j))):=B0 λ_ _ _ _ _ _ _ q=>lt_int q
theorem CC:fW X (compareOp .LtE) (wC λi j =>.bl (decide (i<=j))):=B0 λ_ _ _ _ _ _ _ q=>le_int q
theorem jW:fW X (compareOp .Gt) (wC λi j =>.bl (decide (j<i))):=B0 λ_ _ _ _ _ _ _ q=>gt_int q
theorem CD:fW X (compareOp .GtE) (wC λi j =>.bl (decide (j<=i))):=B0 λ_ _ _ _ _ _ _ q=>ge_int q
theorem wI:fW X (compareOp .In) (λx y H Q=>∃i j,x=.str i/\y=.str j/\Q (.bl (!(į j i 0 j.length 1).isEmpty)) H):=by
 intro d s g H x y v u Q I e f h
 obtain⟨i,j,rfl,rfl,q⟩:=h
 obtain⟨t,rfl⟩:=e
 obtain⟨l,rfl⟩:=f
 exact in_str (aW I q Λ)
theorem kW:fW X (compareOp .Is) (λx y H Q=>y=.Fp/\Q (.bl (decide (x=.Fp))) H):=by
 intro d s g H x y v u Q I e f h
 obtain⟨rfl,q⟩:=h
 cases f
 refine is_none_gen (aW I q ?_)
 cases x<;>first
  |(cases e;rfl)
  |(obtain⟨t,rfl⟩:=e;rfl)
theorem By:fW X (compareOp .IsNot) (λx y H Q=>y=.Fp/\Q (.bl (!decide (x=.Fp))) H):=by
 intro d s g H x y v u Q I e f h
 obtain⟨rfl,q⟩:=h
 cases f
 refine isnot_none_gen (aW I q ?_)
 cases x<;>first
  |(cases e;rfl)
  |(obtain⟨t,rfl⟩:=e;rfl)
theorem qK:fW X (compareOp .NotIn) (λx y H Q=>∃i j,x=.str i/\y=.str j/\Q (.bl (!(!(į j i 0 j.length 1).isEmpty))) H):=by
 intro d s g H x y v u Q I e f h
 obtain⟨i,j,rfl,rfl,q⟩:=h
 obtain⟨t,rfl⟩:=e
 obtain⟨l,rfl⟩:=f
 exact notIn_str (aW I q Λ)
theorem aq(b:Expr)(h:autoParam (op≠.In) θ)(d:autoParam (op≠.NotIn) θ):ź op b=Ε:=by
 have e:(op == CmpOp.In)=Ε:=by cases op<;>first|rfl|exact Κ Λ h
 have f:(op == CmpOp.NotIn)=Ε:=by cases op<;>first|rfl|exact Κ Λ d
 cases b<;>simp[ź,e,f]
theorem dq(e:fW X (compareOp op) r)(f:PE X a ta)(g:PE X b tb)(i:ź op b=Ε):PE X (.Compare a [op] [b] pos) (AG r ta tb):=by
 intro d s j H Q I h
 exact wpAny_Compare1 (EH f g I h λv u l x y m n o p q=>e d l j m x y v u Q n o p q) i
abbrev Cw(t:TE):TT:=tB t
theorem ak(g:fW X (compareOp op) r)(i:PE X a ta)(j:PE X b tb)(l:ź op b=Ε):PT X (.Compare a [op] [b] pos) (Cw (AG r ta tb)):=by
 intro d s f H Q I h
 refine Xh (bq (i d s f H _ I h) λv m ⟨x,n,o,p,q⟩=>bq (j d m f n _ o q) λu t ⟨y,w,A,B,C⟩ =>
  bq (g d t f w x y v u _ A p B C) λc J ⟨z,D,E,F,k,e,G⟩=>?_) l
 subst e
 cases F
 exact ð ⟨D,E,G⟩
inductive Uah(r':R2)(tc:TE)(σ:St)(Q:VK)(y:V)(z:V)(H3:Hp):Prop
 |mk (k)(_:z=.bl k)(_:(if k=Δ then tc σ H3 λw' H4=>r' y w' H4 Q else Q (.bl Ε) H3))
def xT(r r':R2)(ta tb tc:TE):TE:=λσ H Q=>ta σ H λx H1=>tb σ H1 λy H2=>r x y H2 λz H3=>Uah r' tc σ Q y z H3
theorem za(n:fW X (compareOp op) r)(o:fW X (compareOp Ol) r')(p:PE X a ta)(q:PE X b tb)(t:PE X c tc)
  (w:lastMarks [op,Ol] [b,c]=Ε:=by with_unfolding_all rfl):PE X (.Compare a [op,Ol] [b,c] pos) (xT r r' ta tb tc):=by
 intro f s g H Q I h
 refine Compare_chain (bq (p f s g H _ I h) λv A ⟨x,B,C,D,E⟩=>chain_link (bq (q f A g B _ C E) λu F ⟨y,G,J,i,K⟩ =>
  bq (n f F g G x y v u _ J D i K) λd L ⟨z,j,l,M,k,e,m⟩=>?_)) w
 subst e
 cases M
 refine ð ?_
 cases k with
 |false=>exact ite_ff ⟨.bl Ε,j,l,Λ,m⟩
 |true=>exact ite_tt (chain_last (bq (t f L g j _ l m) λN O P=>by obtain⟨R,S,T,U,Y⟩:=P;exact o f O g S y R u N Q T i U Y))
theorem yN(n:fW X (compareOp op) r)(o:fW X (compareOp Ol) r')(p:PE X a ta)(q:PE X b tb)(t:PE X c tc)
  (w:lastMarks [op,Ol] [b,c]=Ε:=by with_unfolding_all rfl):PT X (.Compare a [op,Ol] [b,c] pos) (Cw (xT r r' ta tb tc)):=by
 intro f s g H Q I h
 refine isTrue_chain (bq (p f s g H _ I h) λv A ⟨x,B,C,D,E⟩=>test_link (bq (q f A g B _ C E) λu F ⟨y,G,J,i,K⟩ =>
  bq (n f F g G x y v u _ J D i K) λd L ⟨z,j,l,M,k,e,m⟩=>?_)) w
 subst e
 cases M
 refine ð ?_
 cases k with
 | false =>
  obtain⟨k',N,O⟩:=m
  cases N
  exact ite_ff ⟨j,l,O⟩
 | true =>
  refine ite_tt (test_last (bq (t f L g j _ l m) λP R ⟨S,T,U,Y,Z⟩=>bq (o f R g T y S u P _ U i Y Z) λd' s5 Fc=>?_))
  obtain⟨z2,H5,I5,r5,k2,e2,q5⟩:=Fc
  subst e2
  cases r5
  exact ð ⟨H5,I5,q5⟩
def QT(K:Ϣ)(x:V)(H:Hp)(k:Bool):Prop:=
 match x with
 |.Fp=>k=Ε
 |.bl b=>k=b
 |.int i=>k=(i != 0)
 |.str y=>y.length<=Τ/\k=((y.length:Int) != 0)
 |.Kk y=>y.size<=Τ/\k=((y.size:Int) != 0)
 |.ref p=>(∃xs,EX K H p xs/\k= !xs.isEmpty)∨(∃xs,Fn K H p xs/\k= !xs.isEmpty)∨∃EZ,H p=Α (.dK EZ)/\k= !EZ.isEmpty
 |_=>False
theorem uT(r:KV EZ vs):(!vs.isEmpty)= !EZ.isEmpty:=by
 cases r<;>rfl
theorem oz(r:τ xs Fe):(!Fe.toArray.isEmpty)= !xs.isEmpty:=by
 cases r<;>simp
theorem lh:(Τ:Nat)<2^63:=by rw[Χ];decide
theorem CV:Xz X (λx H Q=>∃k,QT X.K x H k/\Q k H):=by
 intro u s B H x v Q I g h
 obtain⟨k,e,q⟩:=h
 have C:=lh
 have D:=Χ
 cases x with
 | Fp =>
  cases g
  have d:=e
  subst d
  exact truthy_none ⟨H,I,q⟩
 | bl b =>
  cases g
  have d:=e
  subst d
  exact ð ⟨H,I,q⟩
 | int i =>
  obtain⟨t,rfl⟩:=g
  have d:=e
  subst d
  exact PySem.P.truthy_int ⟨H,I,q⟩
 | str y =>
  obtain⟨t,rfl⟩:=g
  obtain⟨hy,d⟩:y.length<=Τ/\k=((y.length:Int) != 0):=e
  subst d
  exact PySem.P.truthy_str (by omega) ⟨H,I.tok _,q⟩
 | Kk y =>
  obtain⟨t,rfl⟩:=g
  obtain⟨hy,d⟩:y.size<=Τ/\k=((y.size:Int) != 0):=e
  subst d
  exact PySem.W.truthy_bytes (by omega) ⟨H,I.tok _,q⟩
 | ref p =>
  cases g
  have d:=e
  rcases d with ⟨xs,l,d⟩|⟨xs,l,d⟩|⟨EZ,l,d⟩
  ·subst d
   obtain⟨A,r,o,z⟩:=I.list l
   have f:=r.length
   exact wpAny_truthy_list o.isList (by simp only[Ϯ];omega) ⟨H,I.tok _,by rw[oz r];exact q⟩
  ·subst d
   obtain⟨A,r,o,z⟩:=I.tuple l
   have f:=r.length
   exact truthy_tuple o (by simp only[Ϯ];omega) ⟨H,I.tok _,by rw[oz r];exact q⟩
  ·subst d
   obtain⟨z,hS,n,r,m⟩:EZ.length<=Τ/\(p == Č)=Ε/\∃n,KV EZ n/\s.heap.DictOf (bZ X.prog X.w) p n:=I.Fi p _ l
   have f:=Paired.length r
   exact wpAny_truthy_dict hS m (by omega) ⟨H,I.tok _,by rw[uT r];exact q⟩
 |_=>exact(e).elim
theorem iB(i:PE X a ta)(j:∀d,isTrue a X.env d=(do let v ← d;G7 a.pos;ŵ [v] (truthy v))):
  PT X a (λf H Q=>ta f H λx g=>∃k,QT X.K x g k/\Q k g):=by
 intro e s f H Q I h
 exact isTrue_plain (bq (i e s f H _ I h) λv l m=>by obtain⟨x,n,o,p,q⟩:=m;exact CV e l f n x v Q o p q) (j _)
theorem fS:fW X (binaryOp .Add) (λx y H Q=>∃i j,x=.str i/\y=.str j/\i.length+j.length<=Τ/\Q (.str (i++j)) H):=by
 intro d s m H x y v u Q I e f h
 obtain⟨i,j,rfl,rfl,g,q⟩:=h
 obtain⟨t,rfl⟩:=e
 obtain⟨l,rfl⟩:=f
 exact add_str (λl n=>⟨.str (i++j),H,I.tok _,⟨_,Λ⟩,q⟩) g
theorem jD(r:τ [x] us):∃u,us=[u]/\RelV x u:=by
 cases r with
 |cons d e=>cases e;exact⟨_,Λ,d⟩
theorem vals2(r:τ [x,y] us):∃u d,us=[u,d]/\RelV x u/\RelV y d:=by
 cases r with
 | cons e f =>
  cases f with
  |cons g h=>cases h;exact⟨_,_,Λ,e,g⟩
theorem Ay:F5 X (.builtin "abs") (λxs H Q=>∃i,xs=[.int i]/\Q (.int (if i<0 then -i else i)) H):=by
 intro d s e H xs us Q I r h
 obtain⟨i,rfl,q⟩:=h
 obtain⟨u,rfl,t,rfl⟩:=jD r
 exact call_abs_int λu f=>⟨.int (if i<0 then -i else i),H,I.tok _,⟨_,Λ⟩,q⟩
theorem xv(f:X.calm=Δ):F5 X (.builtin "min") (λxs H Q=>∃i j,xs=[.int i,.int j]/\Q (.int (if j<i then j else i)) H):=by
 intro e s g H xs us Q I r h
 obtain⟨i,j,rfl,q⟩:=h
 obtain⟨u,l,rfl,⟨t,rfl⟩,⟨m,rfl⟩⟩:=vals2 r
 refine min_two_ints (I.ok.hd f) λn o k=>⟨_,H,I.kept k,?_,q⟩
 by_cases d:j<i
 ·rw[Ι d,Ι d];exact⟨_,Λ⟩
 ·rw[Θ d,Θ d];exact⟨_,Λ⟩
theorem Fz:F5 X (.type "str") (λxs H Q=>∃i,xs=[.int i]/\i.natAbs.log2<1920/\Q (.str (oh i)) H):=by
 intro d s f H xs us Q I r h
 obtain⟨i,rfl,e,q⟩:=h
 obtain⟨u,rfl,t,rfl⟩:=jD r
 exact PySem.P.str_of_int e ⟨.str _,H,I.tok _,⟨_,Λ⟩,q⟩
end
structure JV(h:ò)(x dx C:Ν)(mA:Str->Option Ο):Prop where
 obj:h.get? x=Α (PySem.W.instObj C dx)
 ns:h.Ns1 dx mA
 ne:dx≠x
theorem wW{h:ò}(n:h.Ns1 dx mA):∃b,h.get? dx=Α b/\∀name,PySem.W.lookIn name b=Α (mA name):=by
 obtain⟨o,c,p,d,f,g,_,i⟩:=n
 refine⟨o,d,λname=>?_⟩
 have e:=i name
 unfold nsFind findBy at e
 rw[←Rv]at e
 unfold PySem.W.lookIn
 rw[f]
 dsimp only
 split
 ·rename_i y q
  rw[q]at e
  exact congrArg Α e
 ·rename_i q
  rw[q]at e
  have a:c.toList.any (·.refKey)=Ε:=by
   rw[JY]
   intro y j
   obtain⟨z,t,l⟩:=g y (Array.mem_toList_iff.mp j)
   simp[DictEntry.refKey,l]
  have m:¬c.toList.any (·.refKey)=Δ:=by rw[a];exact Ϟ
  rw[Θ m]
  exact congrArg Α e
theorem JV.look(I:JV h x dx C mA):∃a,PySem.W.InstAt h x (PySem.W.instObj C dx) C (Α a)/\∀name,PySem.W.lookIn name a=Α (mA name):=
 let ⟨a,ho,hl⟩:=wW I.ns
 ⟨a,⟨I.obj,Λ,Λ,ho⟩,hl⟩
section
variable {prog:Program}{w:À}{A:é}{E:Ο->Ω->Prop}{s:Ω}{K:Ϣ}{x dx C f:Ν}{mA:Str->Option Ο}{name:Str}{v:Ο}
theorem Cc(X:K.In s.heap)(I:JV s.heap x dx C mA)(b:ś K C name=Δ)(c:ė K C=Δ)
  (d:ϯ K (.ref C) name=Α Β) (e:mA name=Α v) (g:PySem.W.handedIn v=Δ) (h:Q v {s with toks:=s.toks+1}):
  ϩ (Ϧ prog w) A (getAttr (.ref x) name expr) Q E s:=by
 obtain⟨j,J,i⟩:=I.look
 exact PySem.W.get_value X J (PySem.W.plainGet_of b).1 (PySem.W.findObj_own c d Λ (by rw[i,e])) g h
theorem Ad(X:K.In s.heap)(I:JV s.heap x dx C mA)(a:ś K C name=Δ)
  (b:ϯ K (.ref C) name=Α (Α (.ref f))) (c:isFn K (.ref f)=Δ) (d:mA name=Β) (h:Q (.ref f,[.ref x]) s):
  ϩ (Ϧ prog w) A (getMethod (.ref x) name pl) Q E s:=by
 obtain⟨e,J,g⟩:=I.look
 exact PySem.W.method_fn X J (PySem.W.plainGet_of a).1 (PySem.W.plainGet_of a).2 b (beq_iff_eq.mp c) (by show(PySem.W.lookIn name e).map (·.isSome)=Α Ε;rw[g,d];rfl) h
theorem Bb(X:K.In s.heap)(I:JV s.heap x dx C mA)
  (i:ϯ K (.ref C) "__setattr__"=Α (Α (.builtin "object.__setattr__"))) (j:ť K C=Δ) (l:PySem.W.takerIn K C name=Α Β) (m:ė K C=Δ)
  (n:PySem.Within mA ns) (o:ns.length<=Τ)
  (h:∀c,JV c x dx C (λy=>if y=name then Α v else mA y)->ŗ dx s.heap c->Q () {s with heap:=c,toks:=s.toks+2}):
  ϩ (Ϧ prog w) A (setAttr (.ref x) name v) Q E s:=by
 obtain⟨G,J,H⟩:=I.look
 refine PySem.W.set_plain X J i (PySem.W.osa_open (s:={s with toks:=s.toks+1}) (r:=Β) X J j l λb=>?_)
 obtain⟨L,p,q⟩:=PySem.W.any_some m
 have t:=I.obj
 refine Ρ (Ϥ (Ρ (Ρ (oo t (Ρ (PySem.W.Looks.here (s:={s with toks:=s.toks+1}) (PySem.W.looks_clsIn X p) ?_))))))
 rw[q]
 refine Ϥ (a:=Α dx) (Ρ (Ϥ (Ρ ?_)))
 refine Vz (s:={s with toks:=s.toks+1}) I.ns λc e g=>?_
 obtain⟨M,u,z,B,D,F⟩:=e.count (PySem.Within.cons name v n)
 refine Ρ (Lo B (by rw[D];exact Mp (ώ F (by rw[Ϛ];omega))) ?_)
 exact Ϥ (h _ ⟨(g.2 _ (ϧ I.ne)).trans I.obj,e,I.ne⟩ g)
theorem zK(X:K.In s.heap)(b:rk K C=Δ)
  (c:ϯ K (.ref C) "__init__"=Α (Α (.ref f))) (e:PySem.W.typeIn K (.ref f)=Α (.type "function"))
  (h:Š (Ϧ prog w) (A.under (.builtin "type.__call__" ⟨.ref C:: vs,kw⟩)) (.call (.ref f) ⟨.ref (s.heap.objs.size+1):: vs,kw⟩) (PySem.W.InitBack (s.heap.objs.size+1) R)
   {s with heap:=(s.heap.push PySem.W.emptyDict).push (PySem.W.instObj C s.heap.objs.size)}):
  Š (Ϧ prog w) A (.call (.ref C) ⟨vs,kw⟩) R s:=by
 obtain⟨i,g,d,t,j⟩:=s
 exact PySem.W.make_core (PySem.W.makes_of X b) (PySem.W.looks_findIn X c) (λself=>PySem.W.bind_fn X self e) (.inl Λ) h
end
noncomputable def aT(f:Str)(v:V):List (Str×V)->List (Str×V)
 |[]=>[(f,v)]
 |(g,x):: r=>if g=f then (g,v):: r else (g,x):: aT f v r
theorem iI(f g:Str)(v:V):∀fs:List (Str×V),(aT f v fs).lookup g=if g=f then Α v else fs.lookup g
 | []=>by
  show ď g [(f,v)]=_
  by_cases h:g=f
  ·have a:=beq_iff_eq.mpr h
   simp only[ď,a,Ι h]
  ·have a:=beq_eq_false_iff_ne.mpr h
   simp only[ď,a,Θ h]
 | (k,x):: r=>by
  have c:=iI f g v r
  rw[show aT f v ((k,x):: r)=(if k=f then (k,v):: r else (k,x):: aT f v r) from Λ]
  by_cases b:k=f
  ·rw[Ι b]
   by_cases h:g=k
   ·have a:=beq_iff_eq.mpr h
    simp only[ď,a,Ι (h.trans b)]
   ·have a:=beq_eq_false_iff_ne.mpr h
    simp only[ď,a,Θ (λe:g=f=>h (e.trans b.symm))]
  ·rw[Θ b]
   by_cases h:g=k
   ·have a:=beq_iff_eq.mpr h
    simp only[ď,a,Θ (λe:g=f=>b (h.symm.trans e))]
   ·have a:=beq_eq_false_iff_ne.mpr h
    simp only[ď,a]
    exact c
theorem lm(f:Str)(v:V):∀fs:List (Str×V),f∈(aT f v fs).map (·.1)/\∀g,g∈fs.map (·.1)->g∈(aT f v fs).map (·.1)
 |[]=>⟨by simp[aT],λg h=>by simp at h⟩
 | (k,x):: r=>by
  obtain⟨b,c⟩:=lm f v r
  rw[show aT f v ((k,x):: r)=(if k=f then (k,v):: r else (k,x):: aT f v r) from Λ]
  by_cases a:k=f
  ·rw[Ι a]
   subst a
   exact⟨by simp,λg h=>by simpa using h⟩
  ·rw[Θ a]
   refine⟨?_,λg h=>?_⟩
   ·rw[ϳ]
    exact ϊ _ b
   ·rw[ϳ]at h⊢
    rcases ύ.mp h with e|e
    ·exact ύ.mpr (.inl e)
    ·exact ϊ _ (c g e)
theorem lE(f:Str)(v:V):∀fs:List (Str×V),(aT f v fs).length<=fs.length+1
 |[]=>by simp[aT]
 | (k,x):: r=>by
  have b:=lE f v r
  rw[show aT f v ((k,x):: r)=(if k=f then (k,v):: r else (k,x):: aT f v r) from Λ]
  by_cases a:k=f
  ·rw[Ι a,Ϛ,Ϛ];omega
  ·rw[Θ a,Ϛ,Ϛ];omega
theorem GC.some_of(r:GC (Α v) o):∃u,o=Α u/\RelV v u:=by
 cases o with
 |none=>exact(r).elim
 |some u=>exact⟨u,Λ,r⟩
theorem GC.none_of(r:GC Β o):o=Β:=by
 cases o with
 |none=>rfl
 |some u=>exact(r).elim
theorem xm(r:RelV v u):PySem.W.handedIn u=Δ:=by
 cases v with
 |Fp=>cases (r);rfl
 |bl b=>cases (r);rfl
 |int i=>obtain⟨t,e⟩:=(r);cases e;rfl
 |str x=>obtain⟨t,e⟩:=(r);cases e;rfl
 |Kk b=>obtain⟨t,e⟩:=(r);cases e;rfl
 |Og b=>obtain⟨t,e⟩:=(r);cases e;rfl
 |ref a=>cases (r);rfl
 |ty n=>cases (r);rfl
section
variable {P:Program}{w:À}{H H':Hp}{h h':ò}{a C dx:Ν}{fs PL:List (Str×V)}
theorem lZ(c:GD P w H h)(e:H a=Α (.ρ C dx fs)):∃b,JV h a dx C b/\(∀f,GC (fs.lookup f) (b f))/\PySem.Within b (fs.map (·.1))/\fs.length<=1000/\H dx=Α (.own a):=by
 obtain⟨d,z,ne,g,b,n,r,q⟩:=(c a _ e)
 exact⟨b,⟨g,n,ne⟩,r,q,z,d⟩
end
structure IK(K:Ϣ)(C:Ν):Prop where
 pg:ś K C ű=Δ
 hd:ė K C=Δ
 po:ť K C=Δ
 sa:ϯ K (.ref C) "__setattr__"=Α (Α (.builtin "object.__setattr__"))
theorem IK.get{K:Ϣ}(c:IK K C)(f:Str):ś K C f=Δ:=c.pg
def Ft(K:Ϣ)(C:Ν)(f:Str):Prop:=ϯ K (.ref C) f=Α Β
theorem Ft.QX{K:Ϣ}(n:Ft K C f):PySem.W.takerIn K C f=Α Β:=by
 unfold PySem.W.takerIn
 rw[show ϯ K (.ref C) f=Α Β from n]
 rfl
structure ck(K:Ϣ)(C:Ν)(m:Str)(f:Ν):Prop where
 at_:ϯ K (.ref C) m=Α (Α (.ref f))
 fn:isFn K (.ref f)=Δ
 kp:Ϩ K (.ref f)=Δ
section
variable {X:Cx}{ν:List (Ν×Obj)}{σ:St}{H:Hp}{s:Ω}{a C dx:Ν}{fs:List (Str×V)}{f:Str}{v:V}{A:é}{E:Ο->Ω->Prop}
theorem oB(I:ς X ν σ H s)(e:H a=Α (.ρ C dx fs))(c:IK X.K C)(n:Ft X.K C f)(l:fs.lookup f=Α v)
  (h:∀u d,ς X ν σ H d->RelV v u->Q u d):ϩ (Ϧ X.prog X.w) A (getAttr (.ref a) f b) Q E s:=by
 obtain⟨i,O,r,_,_,_⟩:=lZ I.Fi e
 obtain⟨u,j,g⟩:=GC.some_of (v:=v) (o:=i f) (by rw[←l];exact r f)
 exact Cc I.FN O (c.get f) c.hd n j (xm g) (h u _ (I.tok _) g)
theorem j4(I:ς X ν σ H s)(e:H a=Α (.ρ C dx fs))(c:IK X.K C)(k:ck X.K C m g)(l:fs.lookup m=Β)
  (h:Q (.ref g,[.ref a]) s):ϩ (Ϧ X.prog X.w) A (getMethod (.ref a) m pl) Q E s:=by
 obtain⟨b,O,r,_,_,_⟩:=lZ I.Fi e
 have d:=GC.none_of (by rw[←l];exact r m)
 exact Ad I.FN O (c.get m) k.at_ k.fn d h
theorem nk(I:ς X ν σ H s)(e:H a=Α (.ρ C dx fs))(c:IK X.K C)(n:Ft X.K C f)(L:fs.length<1000)(p:RelV y u)
  (h:∀i,ς X ν σ (ο H a (.ρ C dx (aT f y fs))) i->Q () i):ϩ (Ϧ X.prog X.w) A (setAttr (.ref a) f u) Q E s:=by
 obtain⟨j,O,r,l,_,m⟩:=lZ I.Fi e
 have t:(fs.map (·.1)).length<=Τ:=by rw[Μ,Χ];omega
 refine Bb I.FN O c.sa c.po n.QX c.hd l t λB d D=>h _ ?_
 have F:∃o,B.get? dx=Α o:=let ⟨o,_,_,e',_⟩:=d.ns;⟨o,e'⟩
 refine I.write (x:=a) (e:=dx) (by rw[e];exact È) (.inr m) (λb q G z=>(D.2 b G).trans z) F ?_
 refine⟨by rw[af O.ne];exact m,?_,O.ne,d.obj,_,d.ns,λg=>?_,λg J=>?_⟩
 ·have:=lE f y fs;omega
 ·show GC ((aT f y fs).lookup g) (if g=f then Α u else j g)
  rw[iI]
  by_cases q:g=f
  ·rw[Ι q,Ι q];exact p
  ·rw[Θ q,Θ q];exact r g
 ·by_cases q:g=f
  ·rw[q];exact(lm f y fs).1
  ·refine(lm f y fs).2 g (l g λz=>J ?_)
   show(if g=f then Α u else j g)=Β
   rw[Θ q];exact z
theorem ς.made(I:ς X ν σ H s):ς X ν σ (ο (ο H s.heap.objs.size (.own (s.heap.objs.size+1))) (s.heap.objs.size+1) (.ρ C s.heap.objs.size []))
  {s with heap:=(s.heap.push PySem.W.emptyDict).push (PySem.W.instObj C s.heap.objs.size)}:=by
 have g:(s.heap.push PySem.W.emptyDict).get? s.heap.objs.size=Α PySem.W.emptyDict:=ϣ s.heap Λ
 have h:((s.heap.push PySem.W.emptyDict).push (PySem.W.instObj C s.heap.objs.size)).get? (s.heap.objs.size+1)=Α (PySem.W.instObj C s.heap.objs.size):=by
  have:=ϣ (s.heap.push PySem.W.emptyDict) (o:=PySem.W.instObj C s.heap.objs.size) Λ
  rwa [size_push]at this
 have i:(s.heap.push PySem.W.emptyDict).Ns s.heap.objs.size (λ_=>Β):=⟨PySem.W.emptyDict,#[],_,g,Λ,(λe j=>Κ j (by simp)),λ_=>rfl⟩
 have l:=I.laid (a:=s.heap.objs.size) (o:=.own (s.heap.objs.size+1)) (h':=s.heap.push PySem.W.emptyDict) (t':=s.toks) (λb u q=>Υ _ q) (ϛ _) ⟨_,g⟩
 refine l.laid (a:=s.heap.objs.size+1) (o:=.ρ C s.heap.objs.size []) (t':=s.toks) (λb u q=>Υ _ q) (Yj (size_push _ _)) ?_
 have ne:s.heap.objs.size≠s.heap.objs.size+1:=Þ (Nat.lt_succ_self _)
 refine⟨by rw[af ne,ET],Ä _,ne,h,λ_=>Β,(P0 i).at λo q=>Υ _ q,λ_=>È,λy m=>Κ Λ m⟩
theorem Ck(c:ŕ e f env (eval e env)=eval e env)
  (h:ϩ (Ϧ prog w) A (eval e env) (λo b=>ϩ (Ϧ prog w) A (getAttr o f Δ) Q E b) E s):ϩ (Ϧ prog w) A (eval (.Attribute e f pos) env) Q E s:=
 Attribute_any_ h (by rw[arm_eval_Attribute,c])
end
inductive Uai(K:Ϣ)(f:Str)(Q:VK)(x:V)(H1:Hp):Prop
 |mk (a C dx fs v)(_:x=.ref a)(_:H1 a=Α (.ρ C dx fs))(_:IK K C)(_:Ft K C f)(_:fs.lookup f=Α v)(_:Q v H1)
def xS(K:Ϣ)(ta:TE)(f:Str):TE:=λσ H Q=>ta σ H λx H1=>Uai K f Q x H1
inductive Uaj(K:Ϣ)(f:Str)(D:iP)(σ:St)(y:V)(x:V)(H2:Hp):Prop
 |mk (a C dx fs)(_:x=.ref a)(_:H2 a=Α (.ρ C dx fs))(_:IK K C)(_:Ft K C f)(_:fs.length<1000)(_:D.nx σ (ο H2 a (.ρ C dx (aT f y fs))))
def X5(K:Ϣ)(ta tv:TE)(f:Str):TS:=λD σ H=>tv σ H λy H1=>ta σ H1 λx H2=>Uaj K f D σ y x H2
def X6(X:Cx)(op:Operator)(rd:V->V->Hp->VK->Prop):Prop:=
 ∀(ν:List (Ν×Obj))(s:Ω)(σ:St)(H:Hp)(x y:V)(u v:Ο)(Q:VK),ς X ν σ H s->RelV x u->RelV y v->rd x y H Q->ϩ (Ϧ X.prog X.w) X.A (inplaceOp op u v) (EP X ν σ Q) X.xe s
inductive Uak(K:Ϣ)(tv:TE)(rd:V->V->Hp->VK->Prop)(f:Str)(D:iP)(σ:St)(x:V)(H1:Hp):Prop
 |mk (a C dx fs v)(_:x=.ref a)(_:H1 a=Α (.ρ C dx fs))(_:IK K C)(_:Ft K C f)(_:fs.lookup f=Α v)(_:tv σ H1 λy H2=>rd v y H2 λz H3=>∃K6 PL,H3 a=Α (.ρ C K6 PL)/\PL.length<1000/\D.nx σ (ο H3 a (.ρ C K6 (aT f z PL))))
def Bi(K:Ϣ)(ta tv:TE)(rd:V->V->Hp->VK->Prop)(f:Str):TS:=λD σ H=>ta σ H λx H1=>Uak K tv rd f D σ x H1
section
variable {X:Cx}{o e value:Expr}{f:Str}{pos pos' IB:Pos}{ta tv:TE}
theorem ao(d:PE X e ta)(g:ŕ e f X.env (eval e X.env)=eval e X.env):PE X (.Attribute e f pos) (xS X.K ta f):=by
 intro b s i H Q I h
 refine Ck g (bq (d b s i H _ I h) λu z j=>?_)
 obtain⟨x,m,p,r,a,C,A,fs,v,ex,t,c,n,l,q⟩:=j
 subst ex
 obtain rfl:u=ϭ a:=r
 exact oB p t c n l λB D w y=>⟨v,m,w,y,q⟩
theorem bE(g:PE X o ta)(i:PE X value tv)(j:ĺ value (Α (.Attribute o f pos')) pos.line X.env=pure Ε):PS X (.Assign [.Attribute o f pos'] value pos) (X5 X.K ta tv f):=by
 intro b s d H D I h
 refine ġ (bq (i b s d H _ I h) λu m ⟨y,p,r,t,q⟩=>bq (g b m d p _ r q) λv G w=>?_) j
 obtain⟨x,J,z,A,a,C,L,fs,ex,B,c,n,l,E⟩:=w
 subst ex
 obtain rfl:v=ϭ a:=A
 exact nk z B c n l t λM F=>⟨d,_,F,E⟩
theorem gE(j:PE X o ta)(m:PE X value tv)(p:X6 X op rd):PS X (.AugAssign (.Attribute o f IB) op value pos) (Bi X.K ta tv rd f):=by
 intro b s d H D I h
 refine wpAny_AugAssign_AttributeAny (bq (j b s d H _ I h) λr Y g=>?_)
 obtain⟨x,t,w,A,a,C,Z,fs,v,ex,B,c,n,l,q⟩:=g
 subst ex
 obtain rfl:r=ϭ a:=A
 refine oB w B c n l λu E F G=>bq (m b E d t _ F q) λJ L ⟨y,M,N,O,P⟩=>bq (p b L d M v y u J _ N G O P) λw4 s4 g=>?_
 obtain⟨z,H3,Q,R,K6,PL,i,S,T⟩:=g
 exact nk Q i c n S R λs5 U=>⟨d,_,U,T⟩
end
section
variable {X:Cx}{ν:List (Ν×Obj)}{σ:St}{H:Hp}{s:Ω}{A:é}{E:Ο->Ω->Prop}{Q:Ο->Ω->Prop}{c:Ο}{b:Bool}
inductive jl(K:Ϣ)(H:Hp):V->Ο->Prop where
 |Fp:jl K H .Fp (.type "NoneType")
 |bl (x:Bool):jl K H (.bl x) (.type "bool")
 |int (i:Int):jl K H (.int i) (.type "int")
 |str (x:Str):jl K H (.str x) (.type "str")
 |Og (x:UInt64):jl K H (.Og x) (.type "float")
 |π {a:Ν} {xs:List V} (e:H a=Α (.π xs)):jl K H (.ref a) (.type "list")
 |JU {a:Ν} {o:Obj} {xs:List V} (e:H a=Α (.JU o (.π xs))):jl K H (.ref a) (.type "list")
 |tup {a:Ν} {xs:List V} (e:H a=Α (.tup xs)):jl K H (.ref a) (.type "tuple")
 |dK {a:Ν} {EZ:List (Key×V)} (e:H a=Α (.dK EZ)):jl K H (.ref a) (.type "dict")
 |dT {a:Ν} {EZ:List (List Key×V)} (e:H a=Α (.dT EZ)):jl K H (.ref a) (.type "dict")
 | ρ {a C dx:Ν} {fs:List (Str×V)} (e:H a=Α (.ρ C dx fs)) (cl:IK K C) (ha:ϯ K (.ref C) "__class__"=Α (Α (.builtin "object.__class__")))
   (hn:PySem.W.specialIn K (.builtin "object.__class__") "__get__"=Α (Α (.builtin "getset_descriptor.__get__"))) (HC:PySem.W.takesIn K (.builtin "object.__class__")=Α Δ)
   (hm:PySem.W.mroIn K C (.type "object")=Α Δ):jl K H (.ref a) (.ref C)
theorem xg(I:ς X ν σ H s)(d:RelV x u)(l:jl X.K H x t)(e:ü X.K t c=Α b)(h:∀m,Q (.bool b) {s with toks:=m}):
  ϩ (Ϧ X.prog X.w) A (call (.builtin "isinstance") [u,c]) Q E s:=by
 cases l with
 |Fp=>cases (d);exact PySem.W.kia_one PySem.W.kitx_none I.FN È e (λz=>nomatch z) h
 |bl y=>cases (d);exact PySem.W.kia_one PySem.W.kitx_bool I.FN È e (λz=>nomatch z) h
 |int i=>obtain⟨t,q⟩:=(d);cases q;exact PySem.W.kia_one PySem.W.kitx_int I.FN È e (λz=>nomatch z) h
 |str y=>obtain⟨t,q⟩:=(d);cases q;exact PySem.W.kia_one PySem.W.kitx_str I.FN È e (λz=>nomatch z) h
 |Og y=>obtain⟨t,q⟩:=(d);cases q;exact PySem.W.kia_one PySem.W.kitx_float I.FN È e (λz=>nomatch z) h
 | @π a xs ea =>
  cases (d)
  obtain⟨_,_,n,_,f⟩:=(I.Fi a _ ea)
  exact PySem.W.kia_one PySem.W.kitx_list I.FN ⟨_,f,Λ⟩ e (λz=>nomatch z) h
 | @JU a ob xs ea =>
  cases (d)
  obtain⟨_,_,_,n,_,f⟩:=(I.Fi a _ ea)
  exact PySem.W.kia_one PySem.W.kitx_list I.FN ⟨_,f,Λ⟩ e (λz=>nomatch z) h
 | @tup a xs ea =>
  cases (d)
  obtain⟨_,_,_,p⟩:=(I.Fi a _ ea)
  obtain⟨o,f,⟨g,_⟩,_⟩:=p
  exact PySem.W.kia_one PySem.W.kitx_tuple I.FN ⟨o,f,g⟩ e (λz=>nomatch z) h
 | @dK a EZ ea =>
  cases (d)
  obtain⟨_,_,B,_,p⟩:=(I.Fi a _ ea)
  obtain⟨o,r,v,f,g,_⟩:=p
  exact PySem.W.kia_one PySem.W.kitx_dict I.FN ⟨o,f,g.1⟩ e (λz=>nomatch z) h
 | @dT a EZ ea =>
  cases (d)
  obtain⟨_,_,xs,_,o,r,v,f,g,_⟩:=(I.Fi a _ ea)
  exact PySem.W.kia_one PySem.W.kitx_dict I.FN ⟨o,f,g.1⟩ e (λz=>nomatch z) h
 | @ρ a C dx fs ea cl ha hn HC hm =>
  cases (d)
  obtain⟨D,O,_⟩:=lZ I.Fi ea
  obtain⟨F,J,_⟩:=O.look
  exact PySem.W.kia_one (PySem.W.kitx_own (cl.get _) cl.hd ha hn HC hm) I.FN J e (λz=>nomatch z) h
end
structure Fj(k:Nat)(A:é):Prop where
 hd:A.handled=Β
 dp:A.depth+3* k+5<recursionLimit
 un:A.units+16* k+200<ŷ
theorem Fj.mono(r:Fj k A)(h:j<=k):Fj j A:=⟨r.hd,by have:=r.dp;omega,by have:=r.un;omega⟩
theorem Fj.deeper(r:Fj (k+1) A)(a:Env):Fj k (A.deeper a):=
 ⟨r.hd,by have:=r.dp;show A.depth+1+3* k+5<_;omega,by have:=r.un;show A.units+3+16* k+200<_;omega⟩
theorem uP{A:é}:(A.under (.builtin "type.__call__" ⟨.ref C:: us,kw⟩)).depth=A.depth+1:=by
 first|rfl|simp[N3,Code.weight,Code.isCreation,Code.isGuard,Code.isCaller,Code.frames,OJ,guardIds]
theorem uO{A:é}:(A.under (.builtin "type.__call__" ⟨.ref C:: us,kw⟩)).units=A.units+1:=by
 first|rfl|simp[N3,Code.cUnits,Code.frames,OJ]
theorem Fj.make(r:Fj (k+1) A)(C:Ν)(us:List Ο)(a:List (Str×Ο)):Fj k (A.under (.builtin "type.__call__" ⟨.ref C:: us,a⟩)):=
 ⟨r.hd,by have:=r.dp;rw[uP];omega,by have:=r.un;rw[uO];omega⟩
theorem Fj.depth(r:Fj k A):A.depth<recursionLimit:=by have:=r.dp;omega
theorem Fj.units(r:Fj k A):A.units+64<ŷ:=by have:=r.un;omega
def xP:TA:=λ_ H Q=>Q [] H
def vg(ta:TE)(tr:TA):TA:=λσ H Q=>ta σ H λx H1=>tr σ H1 λxs H2=>Q (x:: xs) H2
section
variable {X:Cx}{e:Expr}{es:List Expr}{te:TE}{t:TA}{pos:Pos}
theorem ac:PA X [] xP:=λ_ _ _ _ H Q I h=>Tq ⟨[],H,I,.nil,h⟩
theorem aa(d:PE X e te)(f:PA X es t)(g:autoParam (Ϭ (e:: es) X.env=(Ε,eval e X.env):: Ϭ es X.env) η):PA X (e:: es) (vg te t):=by
 intro pos a s c H Q I h
 rw[g]
 refine mu (bq (d a s c H _ I h) λu i b=>?_)
 obtain⟨x,j,l,m,n⟩:=b
 exact bq (f pos a i c j _ l n) λus v b=>by obtain⟨xs,o,p,q,r⟩:=b;exact⟨x:: xs,o,p,.cons m q,r⟩
def X7(t:TA):TE:=λσ H Q=>t σ H λxs H1=>xs.length<=Τ/\∀p,H1 p=Β->Q (.ref p) (ο H1 p (.tup xs))
def Di(t:TA):TE:=λσ H Q=>t σ H λxs H1=>xs.length<=Τ/\∀p,H1 p=Β->Q (.ref p) (ο H1 p (.π xs))
theorem bF(h:PA X es t):PE X (.Tuple es x1 pos) (X7 t):=by
 intro a s g H Q I i
 refine wpAny_Tuple_spliced (bq (h pos a s g H _ I i) λus c ⟨xs,d,f,r,z,q⟩=>⟨by rw[←r.length];exact z,?_⟩)
 have j:=f.Fi.fresh (ϛ _)
 refine⟨.ref c.heap.objs.size,ο d c.heap.objs.size (.tup xs),f.laid (t':=c.toks) (λb u e=>Υ _ e) (ϛ _) ?_,Λ,q _ j⟩
 exact⟨z,us,r,⟨_,ϣ _ Λ,⟨Λ,_,Λ⟩,Λ⟩⟩
theorem aP(h:PA X es t):PE X (.List es pos) (Di t):=by
 intro a s g H Q I i
 refine wpAny_List_spliced (bq (h pos a s g H _ I i) λus c ⟨xs,d,f,r,z,q⟩=>⟨by rw[←r.length];exact z,?_⟩)
 have j:=f.Fi.fresh (ϛ _)
 refine⟨.ref c.heap.objs.size,ο d c.heap.objs.size (.π xs),f.laid (t':=c.toks) (λb u e=>Υ _ e) (ϛ _) ?_,Λ,q _ j⟩
 exact⟨z,us,0,r,ϣ _ Λ⟩
end
abbrev Sp:=List V->Hp->VK->XK->Prop
abbrev tF:=List Env->Hp->Ω->XK->Ο->Ω->Prop
structure JW(P:Program)(w:À)(K:Ϣ)(mg:Str->Option Ο)(μ:ò)(A:é)(outer:List Env)(s:Ω)(H:Hp):Prop where
 frames:A.frames=Α outer
 mod:Mod K mg μ
 bs:∀b o,μ.get? b=Α o->s.heap.get? b=Α o/\H b=Β
 LV:μ.objs.size<=s.heap.objs.size
 Hs:s.heap.FunFrames μ outer
 Nq:∀b∈oE outer,H b=Β
 Fi:GD P w H s.heap
 bare:Ÿ s.gens
def CE(outer:List Env)(P:Program)(w:À)(H:Hp)(s:Ω)(Q:VK)(u:Ο)(s':Ω):Prop:=
 ∃v H',s'.os=s.os/\Ÿ s'.gens/\Un (oE outer) [] H H' s.heap s'.heap/\GD P w H' s'.heap/\RelV v u/\Q v H'
def CR(CX:tF)(outer:List Env)(P:Program)(w:À)(H:Hp)(s:Ω)(Q:VK)(E:XK)(r:Result)(s':Ω):Prop:=
 match r with
 |.ok (.ret u)=>CE outer P w H s Q u s'
 |.ok _=>False
 |.error e=>CX outer H s E e s'
structure EW(P:Program)(w:À)(K:Ϣ)(mg:Str->Option Ο)(μ:ò)(CX:tF)(k:Nat)(f:Ν)(fd:ë)(ps:List Str)(sp:Sp):Prop where
 len:∀vs H Q E,sp vs H Q E->vs.length=ps.length
 run:∀(A:é)(outer:List Env)(s:Ω)(H:Hp)(args:Args)(us:List Ο)(vs:List V)(Q:VK)(E:XK),Fj k A->JW P w K mg μ A outer s H->OL s fd args (ps.zip us)->τ vs us->sp vs H Q E->
  Š (Ϧ P w) A (.call (.ref f) args) (CR CX outer P w H s Q E) s
theorem EW.imp{K:Ϣ}(F:EW P w K mg μ CX k f fd ps sp)
  (h:∀b H Q E,sp' b H Q E->sp b H Q E):EW P w K mg μ CX k f fd ps sp':=
 ⟨λb H Q E q=>F.len b H Q E (h _ _ _ _ q),λA a s H args us b Q E c d e g i=>F.run A a s H args us b Q E c d e g (h _ _ _ _ i)⟩
theorem JW.make{K:Ϣ}(e:JW P w K mg μ A outer s H)(C:Ν)(us:List Ο)(a:List (Str×Ο)):
  JW P w K mg μ (A.under (.builtin "type.__call__" ⟨.ref C:: us,a⟩)) outer s H:=⟨by first|exact e.frames|(simpa [N3,Code.envs,OJ,pushEnvs] using e.frames),e.mod,e.bs,e.LV,e.Hs,e.Nq,e.Fi,e.bare⟩
section
variable {X:Cx}{ν:List (Ν×Obj)}{σ:St}{H:Hp}{s s':Ω}
theorem ς.Mu(I:ς X ν σ H s):JW X.prog X.w X.K X.mg X.μ X.A X.stack s H:=
 ⟨I.ok.frames,I.ok.mod,I.bs,ώ I.ok.LV I.sz,I.stack,I.IT,I.Fi,I.bare⟩
theorem ς.after(I:ς X ν σ H s)(h:CE X.stack X.prog X.w H s Q u s'):EP X ν σ Q u s':=by
 obtain⟨v,e,f,a,un,i,r,q⟩:=h
 obtain⟨j,g,d,t,c⟩:=s'
 obtain rfl:c=s.os:=f
 exact⟨v,e,I.call (h':=j) (g':=g) (d':=d) (t':=t) (ch:=[]) un i a (λb z=>Κ z (by simp)),r,q⟩
end
def C2(sp:Sp)(FW:List V)(E:XK)(t:TA):TE:=λσ H Q=>t σ H λvs H1=>sp (vs++FW) H1 Q E
inductive Ual(C:Ν)(m:Str)(sp:Sp)(FW:List V)(E:XK)(t:TA)(σ:St)(Q:VK)(x:V)(H1:Hp):Prop
 |mk (a dx fs)(_:x=.ref a)(_:H1 a=Α (.ρ C dx fs))(_:fs.lookup m=Β)(_:t σ H1 λvs H2=>sp (x:: (vs++FW)) H2 Q E)
def xQ(C:Ν)(m:Str)(sp:Sp)(FW:List V)(E:XK)(ta:TE)(t:TA):TE:=λσ H Q=>ta σ H λx H1=>Ual C m sp FW E t σ Q x H1
def QZ(C:Ν)(sp:Sp)(FW:List V)(E:XK)(t:TA):TE:=λσ H Q=>t σ H λvs H1=>∀x dx,H1 x=Β->H1 dx=Β->dx≠x->
 sp (.ref x:: (vs++FW)) (ο (ο H1 dx (.own x)) x (.ρ C dx [])) (λv H2=>v=.Fp/\Q (.ref x) H2) E
def Binds(K:Ϣ)(fd:ë)(ps:List Str)(ds:List Ο):Prop:=
 ∀(s:Ω)(us:List Ο),K.In s.heap->(us++ds).length=ps.length->OL s fd ⟨us,[]⟩ (ps.zip (us++ds))
theorem Binds.all{K:Ϣ}(h:∀us:List Ο,us.length=ps.length->XF fd ⟨us,[]⟩=pure (ps.zip us)):Binds K fd ps []:=λs us _ a=>by
 rw[ķ]at a⊢
 exact .of_eq (h us a)
def gm(CX:tF)(X:Cx)(E:XK):Prop:=∀(ν:List (Ν×Obj))(σ:St)(H:Hp)(s:Ω)(e:Ο)(s':Ω),ς X ν σ H s->CX X.stack H s E e s'->X.xe e s'
section
variable {X:Cx}{CX:tF}{k:Nat}{f C:Ν}{fd:ë}{ps:List Str}{sp:Sp}{FW:List V}{ds:List Ο}{E:XK}{x m:Str}{p pos apos:Pos}{e o:Expr}{es:List Expr}{ta:TE}{t:TA}
theorem qG{b:St}(F:EW X.prog X.w X.K X.mg X.μ CX k f fd ps sp)(d:Fj k X.A)(g:Binds X.K fd ps ds)(i:τ FW ds)(j:gm CX X E)
  (I:ς X ν b H s) (r:τ vs us) (h:sp (vs++FW) H Q E):ϩ (Ϧ X.prog X.w) X.A (call (.ref f) us) (EP X ν b Q) X.xe s:=by
 have c:=r.append i
 have l:(us++ds).length=ps.length:=by rw[←c.length];exact F.len _ _ _ _ h
 refine ũ (ş (F.run X.A X.stack s H ⟨us,[]⟩ (us++ds) (vs++FW) Q E d I.Mu (g s us I.FN l) c h) λr n a=>?_)
 cases r with
 |error e=>exact j ν b H s e n I a
 | ok q =>
  cases q with
  |ret u=>exact I.after a
  |next=>exact Ö a
  |brk=>exact Ö a
  |cont=>exact Ö a
theorem au(F:EW X.prog X.w X.K X.mg X.μ CX k f fd ps sp)(c:Fj k X.A)(d:Gl X x)(g:X.mg x=Α (.ref f))(i:Ϩ X.K (.ref f)=Δ)(j:Binds X.K fd ps ds)(l:τ FW ds)(n:gm CX X E)
  (u:PA X (e:: es) t) (v:autoParam ((x == ("__debug__":Str))=Ε) θ) (y:autoParam (Ϭ (e:: es) X.env=(Ε,eval e X.env):: Ϭ es X.env) η) (z:autoParam ((Ė pos (Ϭ es X.env)).any (·.1)=Ε) η):
  PE X (.Call (.Name x p) (e:: es) [] pos) (C2 sp FW E t):=by
 intro a s B H Q I h
 refine ē (fK I d g ?_ v)
 refine PySem.W.callWith_K (h₀:=X.μ) I.ok.mod.Kl i (bq (u pos a s B H _ I h) λus D ⟨G,J,b,r,q⟩=>⟨b.FN,?_⟩) y z
 exact qG F c j l n b r q
theorem aM(y:PE X o ta)(c:IK X.K C)(d:ck X.K C m f)(F:EW X.prog X.w X.K X.mg X.μ CX k f fd ps sp)(z:Fj k X.A)(B:Binds X.K fd ps ds)(D:τ FW ds)(G:gm CX X E)(J:PA X (e:: es) t)
  (L:autoParam (Ϭ (e:: es) X.env=(Ε,eval e X.env):: Ϭ es X.env) η) (M:autoParam ((Ė pos (Ϭ es X.env)).any (·.1)=Ε) η)
  (N:eval (.Call (.Attribute o m apos) (e:: es) [] pos) X.env=(do
   let g ← eval o X.env
   G7 apos.atName
   let (f,first) ← ŵ [g] (getMethod g m pl)
   callWith pos f first (Ė pos (Ϭ (e:: es) X.env)) (pM pos (Ś [] X.env))):=by rfl):
  PE X (.Call (.Attribute o m apos) (e:: es) [] pos) (xQ C m sp FW E ta t):=by
 intro b s i H Q I h
 refine PySem.W.methodCall_KW (pl:=pl) (bq (y b s i H _ I h) λu O P=>?_) N
 obtain⟨x,R,j,S,a,Y,fs,ex,T,l,q⟩:=P
 subst ex
 obtain rfl:u=ϭ a:=S
 refine j4 j T c d l ?_
 refine PySem.W.callWith_K (first:=[.ref a]) (h₀:=X.μ) I.ok.mod.Kl d.kp (bq (J pos b O i R _ j q) λus Z ⟨vs,H2,v,r,U⟩=>⟨v.FN,?_⟩) L M
 exact qG (us:=.ref a:: us) (vs:=.ref a:: vs) F z B D G v (.cons Λ r) U
theorem bY(j:PE X o ta)(c:IK X.K C)(g:ck X.K C m f)(F:EW X.prog X.w X.K X.mg X.μ CX k f fd ps sp)(n:Fj k X.A)(r:Binds X.K fd ps ds)(v:τ FW ds)(y:gm CX X E)
  (z:eval (.Call (.Attribute o m apos) [] [] pos) X.env=(do
   let i ← eval o X.env
   G7 apos.atName
   let (f,first) ← ŵ [i] (getMethod i m pl)
   callWith pos f first (Ė pos (Ϭ [] X.env)) (pM pos (Ś [] X.env))):=by rfl):
  PE X (.Call (.Attribute o m apos) [] [] pos) (xQ C m sp FW E ta xP):=by
 intro b s B H Q I h
 refine PySem.W.methodCall_KW (pl:=pl) (bq (j b s B H _ I h) λu L D=>?_) z
 obtain⟨x,M,d,G,a,N,fs,ex,J,l,q⟩:=D
 subst ex
 obtain rfl:u=ϭ a:=G
 refine j4 d J c g l ?_
 exact PySem.W.callWith_K0 (first:=[.ref a]) d.FN g.kp (qG (us:=[.ref a]) (vs:=[.ref a]) F n r v y d (.cons Λ .nil) q)
structure Mk(K:Ϣ)(C f:Ν):Prop where
 makes:rk K C=Δ
 init:ϯ K (.ref C) "__init__"=Α (Α (.ref f))
 fn:isFn K (.ref f)=Δ
 kp:Ϩ K (.ref C)=Δ
theorem yH{d:St}(M:Mk X.K C f)(F:EW X.prog X.w X.K X.mg X.μ CX k f fd ps sp)(j:Fj (k+1) X.A)(l:Binds X.K fd ps ds)(n:τ FW ds)
  (q:gm CX X E) (I:ς X ν d H s) (r:τ vs us)
  (h:∀x b,H x=Β->H b=Β->b≠x->sp (.ref x:: (vs++FW)) (ο (ο H b (.own x)) x (.ρ C b [])) (λv y=>v=.Fp/\Q (.ref x) y) E):
  ϩ (Ϧ X.prog X.w) X.A (call (.ref C) us) (EP X ν d Q) X.xe s:=by
 have g:=h (s.heap.objs.size+1) s.heap.objs.size (I.Fi.fresh (Wb _)) (I.Fi.fresh (ϛ _)) (Þ (Nat.lt_succ_self _))
 have c:=ς.made (C:=C) I
 have i:τ (V.ref (s.heap.objs.size+1):: (vs++FW)) (ϭ (s.heap.objs.size+1):: (us++ds)):=.cons Λ (r.append n)
 have z:(ϭ (s.heap.objs.size+1):: us++ds).length=ps.length:=by
  have e:=i.length
  rw[F.len _ _ _ _ g]at e
  exact e.symm
 refine ũ (zK (f:=f) I.FN M.makes M.init (beq_iff_eq.mp M.fn) (ş (F.run _ X.stack _ _ ⟨ϭ (s.heap.objs.size+1):: us,[]⟩ (ϭ (s.heap.objs.size+1):: (us++ds)) _ _ E (j.make C us [])
  (c.Mu.make C us []) (l _ (ϭ (s.heap.objs.size+1):: us) c.FN z) i g) λr B a=>?_))
 cases r with
 |error e=>exact q ν d _ _ e B c a
 | ok D =>
  cases D with
  | ret u =>
   obtain⟨v,G,J,L,N,O⟩:=c.after a
   subst N
   exact⟨L,⟨V.ref (s.heap.objs.size+1),G,J,Λ,O⟩⟩
  |next=>exact Ö a
  |brk=>exact Ö a
  |cont=>exact Ö a
theorem eO(M:Mk X.K C f)(F:EW X.prog X.w X.K X.mg X.μ CX k f fd ps sp)(c:Fj (k+1) X.A)(d:Gl X x)(g:X.mg x=Α (.ref C))(i:Binds X.K fd ps ds)(j:τ FW ds)(l:gm CX X E)
  (n:PA X (e:: es) t) (u:autoParam ((x == ("__debug__":Str))=Ε) θ) (v:autoParam (Ϭ (e:: es) X.env=(Ε,eval e X.env):: Ϭ es X.env) η) (y:autoParam ((Ė pos (Ϭ es X.env)).any (·.1)=Ε) η):
  PE X (.Call (.Name x p) (e:: es) [] pos) (QZ C sp FW E t):=by
 intro a s z H Q I h
 refine ē (fK I d g ?_ u)
 refine PySem.W.callWith_K (h₀:=X.μ) I.ok.mod.Kl M.kp (bq (n pos a s z H _ I h) λus B ⟨D,G,b,r,q⟩=>⟨b.FN,?_⟩) v y
 exact yH M F c i j l b r q
end
section
variable {X:Cx}{CX:tF}{k:Nat}{f C:Ν}{fd:ë}{ps ks:List Str}{sp:Sp}{E:XK}{x m:Str}{p pos apos kpos:Pos}{e o:Expr}{es:List Expr}{kws:List IC}{te ta:TE}{t tk:TA}{nm:Option Str}
variable {g:List Ο->List Ο->List Ο}{gV:List V->List V->List V}
end
structure ap(N P:List Str)(sc:Scope):Prop where
 kind:sc.kind=.function
 co:sc.isCoroutine=Ε
 gen:sc.isGenerator=Ε
 nd:N.Nodup
 pre:N.take P.length=P
 par:∀x∈P,sc.names.lookup x=Α .local∨sc.names.lookup x=Α .cell
 Om:∀y∈sc.names,y.2≠.free
theorem pX{a:Str->Option Ľ}:∀{binds:List (Str×Ο)}{m:Str->Option Ο},(∀v,(x,v)∉binds)->X4 a binds m x=m x
 |[],_,_=>rfl
 | (n,v):: r,m,h=>by
  unfold X4
  rw[pX λw b=>h w (ϊ _ b)]
  split
  ·have:x≠n:=by rintro rfl;exact h v ϙ
   simp[this]
  ·rfl
theorem pZ{a:Str->Option Ľ}:∀{binds:List (Str×Ο)}{m:Str->Option Ο},(∀v,(x,v)∉binds)->X8 a binds m x=m x
 |[],_,_=>rfl
 | (n,v):: r,m,h=>by
  unfold X8
  rw[pZ λw b=>h w (ϊ _ b)]
  split
  ·rfl
  ·have:x≠n:=by rintro rfl;exact h v ϙ
   simp[this]
theorem pY{a:Str->Option Ľ}:∀{P:List Str}{b:List Ο}{i:Nat}{m:Str->Option Ο},P.Nodup->P[i]?=Α x->b[i]?=Α v->a x=Α .local->
  X4 a (P.zip b) m x=Α v
 |[],_,_,_,_,h,_,_=>by simp at h
 |_:: _,[],_,_,_,_,h,_=>by simp at h
 | p:: P,w:: b,0,m,nd,h1,h2,hk=>by
  simp at h1 h2;subst h1;subst h2
  show X4 a ((p,w):: P.zip b) m p=_
  unfold X4
  rw[pX λv c=>(č.mp nd).1 (of_mem_zip c).1,Ι hk]
  simp
 | p:: P,w:: b,i+1,m,nd,h1,h2,hk=>by
  unfold X4
  exact pY (i:=i) (č.mp nd).2 (by simpa using h1) (by simpa using h2) hk
theorem qb{a:Str->Option Ľ}:∀{P:List Str}{b:List Ο}{i:Nat}{m:Str->Option Ο},P.Nodup->P[i]?=Α x->b[i]?=Α v->a x≠Α .local->
  X8 a (P.zip b) m x=Α v
 |[],_,_,_,_,h,_,_=>by simp at h
 |_:: _,[],_,_,_,_,h,_=>by simp at h
 | p:: P,w:: b,0,m,nd,h1,h2,hk=>by
  simp at h1 h2;subst h1;subst h2
  show X8 a ((p,w):: P.zip b) m p=_
  unfold X8
  rw[pZ λv c=>(č.mp nd).1 (of_mem_zip c).1,Θ hk]
  simp
 | p:: P,w:: b,i+1,m,nd,h1,h2,hk=>by
  unfold X8
  exact qb (i:=i) (č.mp nd).2 (by simpa using h1) (by simpa using h2) hk
noncomputable def start(N:List Str)(vs:List V):St:=vs.map Α++è (N.length - vs.length) Β
noncomputable def jk(CX:tF)(P:Program)(w:À)(K:Ϣ)(mg:Str->Option Ο)(μ:ò)(N:List Str)(qual:Str)(scope:Scope)(f:Ν)(cd:Ο)(A:é)(outer:List Env)(s:Ω)(H:Hp)(E:XK):Cx where
 prog:=P
 w:=w
 K:=K
 mg:=mg
 μ:=μ
 A:=A.deeper (gw qual scope s.heap.objs.size f cd)
 N:=N
 s₀:=s
 H₀:=H
 env:=gw qual scope s.heap.objs.size f cd
 outer:=outer
 stack:=gw qual scope s.heap.objs.size f cd:: outer
 ex:=[]
 calm:=Δ
 fn:=λ_=>Δ
 pn:=[]
 xe:=λe s'=>ϩ (Ϧ P w) (A.deeper (gw qual scope s.heap.objs.size f cd)) (leaving (gw qual scope s.heap.objs.size f cd) e) (λ_ Lm=>CX outer H s E e Lm) (λe' Lm=>CX outer H s E e' Lm) s'
theorem sY{a:Scope}(h:a.names.lookup x=Α .cell):∃c,(cellsFrom n a.names []).lookup x=Α c:=by
 have q:=PySem.W.cellsFrom_some a.names n [] (.inl h)
 exact Kp.mp q
theorem xh{K:Ϣ}
  (S:ap N ps scope) (F:A.handled=Β) (g:JW P w K mg μ A outer s H) (J:vs.length=ps.length) (r:τ vs us)
  (x:InCallC s s.heap.objs.size (X4 (gw qual scope s.heap.objs.size f cd).kindOf (ps.zip us) λ_=>Β) (cellsFrom (s.heap.objs.size+1) scope.names []) (X8 (gw qual scope s.heap.objs.size f cd).kindOf (ps.zip us) λ_=>Β) s1):
  ς (jk CX P w K mg μ N qual scope f cd A outer s H E) [] (start N vs) H s1:=by
 have L:ps.length<=N.length:=by have:=congrArg ê S.pre;rw[Ñ]at this;omega
 obtain⟨o,M,rfl,C⟩:=x.done
 have B:∀b:Ν,b∉(jk CX P w K mg μ N qual scope f cd A outer s H E).ex:=λb z=>Κ (show b∈([]:List Ν) from z) (by simp)
 refine⟨⟨g.mod,S.kind,Λ,Λ,ϛ _,λy z c o d=>?_,λy j=>?_,λy c _ h=>?_,λ_=>F,é.frames_deeper g.frames,.inr ⟨Λ,Λ⟩,λb z=>Κ z (B b),g.bs,g.LV,λb _ _=>B b,λb z=>Κ z (B b),g.Hs,g.Nq⟩,
  rfl,g.bare,Un.kept C,⟨_,x.toInCall.ns,λi y v o d O=>?_⟩,λy c h=>⟨_,x.cell y c h⟩,g.Fi.fresh (ϛ _),λy c h=>?_,λp l=>Κ (show p∈([]:List (Ν×Obj)) from l) (by simp),g.Fi.kept C,?_⟩
 ·exact name_of_addr x.apart (PySem.mem_of_lookup o) (PySem.mem_of_lookup d)
 ·have j:=j
  rcases j with j|j
  ·exact sY j
  ·exact Κ Λ (S.Om _ (PySem.mem_of_lookup j))
 ·exact Yi (x.above y c (PySem.mem_of_lookup h))
 ·have t:i<vs.length:=by
   unfold start at d
   by_cases t:i<vs.length
   ·exact t
   ·rw[â (by simpa using t)]at d
    rw[Ow]at d
    split at d<;>cases d
  have G:vs[i]?=Α v:=by
   unfold start at d
   rw[Õ (by simpa using t),Ç]at d
   cases e:vs[i]? with
   |none=>rw[e]at d;cases d
   |some a=>rw[e]at d;cases d;rfl
  obtain⟨u,D,I⟩:=r.get G
  have l:ps[i]?=Α y:=by
   rw[←S.pre,List.getElem?_take_of_lt (by omega)];exact o
  have m:ps.Nodup:=by rw[←S.pre];exact S.nd.sublist (Wj _ _)
  refine⟨u,I,?_⟩
  rcases S.par y (Ϫ l) with k|k
  ·exact .inl ⟨k,pY m l D k⟩
  ·obtain⟨c,e⟩:=sY (n:=s.heap.objs.size+1) k
   refine .inr ⟨.inl k,c,e,?_⟩
   have q:=x.cell y c e
   rw[qb m l D (by show scope.names.lookup y≠_;rw[k];decide)]at q
   exact q
 ·exact g.Fi.fresh (Yi (x.above y c (PySem.mem_of_lookup h)))
 ·unfold start
  show _=N.length
  rw[Ξ,Μ,Ŕ]
  omega
theorem Ae{K:Ϣ}{dV kV doc pm cdv ct D:Ο}
  (lk:K.lookup f=Α ⟨D,od,.func (xi name qual params body scope dV kV doc pm an cdv ct),JM⟩) (F:x4 K cdv qual=Δ) (S:ap N ps scope)
  (len:∀c H Q E,sp c H Q E->c.length=ps.length)
  (G:∀(A:é)(a:List Env)(s:Ω)(H:Hp)(c:List V)(Q:VK)(E:XK),Fj k (A.deeper (gw qual scope s.heap.objs.size f cdv))->sp c H Q E->
   ∃t,Ib (jk CX P w K mg μ N qual scope f cdv A a s H E) body t/\t {nx:=λ_ g=>Q .Fp g,rt:=Q} (start N c) H):
  EW P w K mg μ CX (k+1) f (xi name qual params body scope dV kV doc pm an cdv ct) ps sp:=by
 refine⟨len,λA a s H args us c Q E j i L r z=>?_⟩
 have M:=len _ _ _ _ z
 have B:=i.mod.Kl.keeps λb o e=>(i.bs b o e).1
 have l:=i.mod.nolimit.keeps λb o e=>(i.bs b o e).1
 have O:∀y∈ps.zip us,scope.names.lookup y.1=Α .local∨(scope.names.lookup y.1=Α .cell/\((cellsFrom (s.heap.objs.size+1) scope.names []).lookup y.1).isSome=Δ):=fun⟨n,v⟩ hy=>by
  rcases S.par n (of_mem_zip hy).1 with q|q
  ·exact .inl q
  ·exact .inr ⟨q,PySem.W.cellsFrom_some _ _ _ (.inl q)⟩
 refine codeAny_call_function j.depth (B _ _ lk) Λ S.co S.gen Λ (PySem.W.codeRec_of B F) (L _ _ _ _ ?_)
 refine wpAny_newFunctionEnv_cells S.kind O λR T C x=>?_
 subst T
 refine⟨l.keeps x.toInCall.keep,codeAny_func ?_⟩
 obtain⟨t,U,X⟩:=G A a s H c Q E (j.deeper _) z
 have I:ς (jk CX P w K mg μ N qual scope f cdv A a s H E) [] (start N c) H C:=xh S j.hd i M r x
 refine Ë (U [] C (start N c) H _ I X) (λY m h=>?_) λe m h=>h
 have fin:∀{d:St}{g:Hp}{v:V}{u:Ο},ς (jk CX P w K mg μ N qual scope f cdv A a s H E) [] d g m->RelV v u->Q v g->CE a P w H s Q u m:=
  λ{d g v u} J p q=>⟨v,g,J.os,J.bare,J.μ,J.Fi,p,q⟩
 cases Y with
 | ret u =>
  obtain⟨v,d,g,J,p,q⟩:=h
  exact fin J p q
 | next =>
  obtain⟨d,g,J,q⟩:=h
  exact fin (v:=V.Fp) (u:=Û) J Λ q
 | brk =>
  obtain⟨_,_,_,q⟩:=h
  exact Ö q
 | cont =>
  obtain⟨_,_,_,q⟩:=h
  exact Ö q
section
variable {X:Cx}{x:Str}{p pos:Pos}{e:Expr}{es:List Expr}{t:TA}{id T:String}{r:List V->Hp->VK->Prop}
def tCB(r:List V->Hp->VK->Prop)(t:TA):TE:=λσ H Q=>t σ H λvs H1=>r vs H1 Q
theorem aF(c:F5 X (.builtin id) r)(d:Gl X x)(f:X.mg x=Β)(g:š x=Α (.builtin id))(i:PA X (e:: es) t)(j:autoParam (x≠ "__name__") θ)(l:autoParam ((x == ("__debug__":Str))=Ε) θ)
  (m:autoParam (Ϭ (e:: es) X.env=(Ε,eval e X.env):: Ϭ es X.env) η) (n:autoParam ((Ė pos (Ϭ es X.env)).any (·.1)=Ε) η):PE X (.Call (.Name x p) (e:: es) [] pos) (tCB r t):=by
 intro a s b H Q I h
 refine ē (lj I d f g ?_ j l)
 exact PyProof.Rows.callWith_builtin1 (bq (i pos a s b H _ I h) λus o q=>by obtain⟨u,v,w,y,z⟩:=q;exact c a o b v u us Q w y z) m n
theorem aS(c:F5 X (.type T) r)(d:Gl X x)(f:X.mg x=Β)(g:š x=Α (.type T))(i:PA X (e:: es) t)(j:autoParam (x≠ "__name__") θ)(l:autoParam ((x == ("__debug__":Str))=Ε) θ)
  (m:autoParam (Ϭ (e:: es) X.env=(Ε,eval e X.env):: Ϭ es X.env) η) (n:autoParam ((Ė pos (Ϭ es X.env)).any (·.1)=Ε) η):PE X (.Call (.Name x p) (e:: es) [] pos) (tCB r t):=by
 intro a s b H Q I h
 refine ē (lj I d f g ?_ j l)
 exact Ġ (bq (i pos a s b H _ I h) λus o q=>by obtain⟨u,v,w,y,z⟩:=q;exact c a o b v u us Q w y z) m n
end
end L2
namespace HT
open PySem PyProof.Rows
section
open PySem.SeqAt
open PySem.AutoSeq1 (wpAny_loadPart')
open PySem.MeetsSeq PySem.MeetsSeq2 PySem.MeetsSeq3
end
section
variable {prog:Program}{w:À}{A:é}{E:Ο->Ω->Prop}{s:Ω}
theorem Mw(x:IsTup s.heap t vs.toArray)(y:IsTup s.heap b ws.toArray)(i:vs≠[])
  (z:ws=[]->Q (.ref t) s) (B:ws≠[]->Q (.ref s.heap.objs.size) {s with heap:=s.heap.push {cls:=.type "tuple",data:=.seq (vs++ws).toArray}})
  (g:vs.length+ws.length<=Τ):ϩ (Ϧ prog w) A (binaryOp .Add (.ref t) (.ref b)) Q E s:=by
 obtain⟨⟨cls,l,data,m⟩,c,o,n,p⟩:=id x
 obtain⟨⟨C,q,h,r⟩,d,u,v,a⟩:=id y
 simp only at o p u a
 subst o p u a
 have e:vs.toArray++ws.toArray=(vs++ws).toArray:=by simp
 by_cases f:ws=[]
 ·exact V6 ⟨_,c,Λ⟩ ⟨_,d,Λ⟩ M3 Rj slot_tuple_add entry_tuple_add (args_tuple_add_2 _ _)
   (tuple_addW1 t b vs.toArray ws.toArray n v l q m r (by simpa using i) (by simp[f])) ⟨c,d,z f⟩
 ·refine V6 ⟨_,c,Λ⟩ ⟨_,d,Λ⟩ M3 Rj slot_tuple_add entry_tuple_add (args_tuple_add_2 _ _)
   (tuple_addW2 t b vs.toArray ws.toArray n v l q m r (by simpa using i) (by simpa using f) (by rw[Ϯ,Ϯ];exact g)) ⟨c,d,?_⟩
  rw[e]
  exact B f
noncomputable def HK(n d:Nat):Option Int->Nat
 |none=>d
 |some v=>if v<0 then (v+(n:Int)).toNat else min v.toNat n
theorem Jp(n d:Nat):HK n d Β=d:=rfl
theorem Hw(n d k:Nat):HK n d (Α (k:Int))=min k n:=by
 show(if (k:Int)<0 then ((k:Int)+(n:Int)).toNat else min (k:Int).toNat n)=min k n
 rw[Θ (by omega),Ϙ]
end
end HT
namespace L2
open PySem PySem.Spec PyProof.Rows
abbrev TO:=St->Hp->(Option Int->Hp->Prop)->Prop
def PO(X:Cx)(e:Option Expr)(t:TO):Prop:=
 ∀(ν:List (Ν×Obj))(s:Ω)(σ:St)(H:Hp)(Q:Option Int->Hp->Prop),ς X ν σ H s->t σ H Q->
  ϩ (Ϧ X.prog X.w) X.A (evalPart e X.env) (λu s'=>∃o H',ς X ν σ H' s'/\IsPart u o/\Q o H') X.xe s
def qj:TO:=λ_ H Q=>Q Β H
inductive Uam(Q:Option Int->Hp->Prop)(x:V)(H1:Hp):Prop
 |mk (i)(_:x=.int i)(_:Q (Α i) H1)
def xO(t:TE):TO:=λσ H Q=>t σ H λx H1=>Uam Q x H1
theorem o0:∀{us:List Ο},τ (a.map V.int) us->OM us a:=by
 induction a with
 |nil=>intro us r;rw[gM]at r;cases r;exact .nil
 | cons n a b =>
  intro us r
  rw[ϳ]at r
  cases r with
  | cons c d =>
   obtain⟨t,e⟩:=c
   subst e
   exact .cons n t (b d)
section
variable {X:Cx}{e:Expr}{te:TE}{lo hi:Option Expr}{tl th:TO}{pos p2:Pos}
theorem bC:PO X Β qj:=by
 intro a s b H Q I h
 rw[evalPart_none]
 exact Ϥ ⟨Β,H,I,.none,h⟩
theorem bz(h:PE X e te):PO X (Α e) (xO te):=by
 intro a s b H Q I c
 rw[evalPart_some]
 refine bq (h a s b H _ I c) λu m d=>?_
 obtain⟨x,f,g,j,l⟩:=d
 obtain⟨i,rfl,q⟩:=l
 obtain⟨t,rfl⟩:=j
 exact⟨Α i,f,g,.int i t,q⟩
def Rc(X:Cx)(r:V->Option Int->Option Int->Hp->VK->Prop):Prop:=
 ∀(ν:List (Ν×Obj))(s:Ω)(σ:St)(H:Hp)(x:V)(v vl vu:Ο)(lo hi:Option Int)(sl:Ν)(Q:VK),ς X ν σ H s->RelV x v->s.heap.IsSliceOf sl vl vu .none->IsPart vl lo->IsPart vu hi->r x lo hi H Q->
  ∃T id,typeLookup (.type T) "__getitem__"=pure (Α (.builtin id))/\s.TypeIs v T/\ϩ (Ϧ X.prog X.w) X.A (getItem v (.ref sl)) (EP X ν σ Q) X.xe s
def X9(r:V->Option Int->Option Int->Hp->VK->Prop)(te:TE)(tl th:TO):TE:=λσ H Q=>te σ H λx H1=>tl σ H1 λl H2=>th σ H2 λu H3=>r x l u H3 Q
theorem aX(n:Rc X r)(o:PE X e te)(p:PO X lo tl)(t:PO X hi th):PE X (.Subscript e (.Slice lo hi Β p2) pos) (X9 r te tl th):=by
 intro a s f H Q I h
 refine Subscript_ (bq (o a s f H _ I h) λv y j=>?_)
 obtain⟨x,z,B,C,D⟩:=j
 refine wpAny_Slice (bq (p a y f z _ B D) λg E ⟨l,F,G,J,K⟩=>bq (t a E f F _ G K) λi c j=>?_)
 obtain⟨u,m,L,M,N⟩:=j
 rw[evalPart_none]
 refine Ϥ ?_
 have O:ς X a f m {c with heap:=c.heap.push {cls:=.type "slice",data:=.fields #[g,i,.none]}}:=L.kept (t':=c.toks) λb U q=>Υ _ q
 obtain⟨T,Y,P,R,S⟩:=n a {c with heap:=c.heap.push {cls:=.type "slice",data:=.fields #[g,i,.none]}} f m x v g i l u c.heap.objs.size Q O C (ò.IsSliceOf.new ..) J M N
 exact tail_any (ops:=[.ref c.heap.objs.size,v]) R P S (by with_unfolding_all rfl)
noncomputable def dH(xs:List V)(lo hi:Option Int):List V:=(xs.drop (HT.HK xs.length 0 lo)).take (HT.HK xs.length xs.length hi - HT.HK xs.length 0 lo)
theorem sS(xs:List V)(lo hi:Option Int):(dH xs lo hi).length<=xs.length:=by
 unfold dH
 rw[Ñ,ą]
 omega
inductive Rg(K:Ϣ)(x:V)(y:V)(H:Hp)(Q:VK):Prop
 |mk (a b xs ys)(_:x=.ref a)(_:y=.ref b)(_:Fn K H a xs)(_:Fn K H b ys)(_:xs≠[])(_:xs.length+ys.length<=Τ)(_:(ys=[]->Q (.ref a) H)/\(ys≠[]->∀p,H p=Β->Q (.ref p) (ο H p (.tup (xs++ys)))))
theorem τ.Ic(r:τ xs us):us=[]↔xs=[]:=by
 cases r with
 |nil=>simp
 |cons _ _=>simp
theorem v6:fW X (binaryOp .Add) (Rg X.K):=by
 intro f s B H x y v u Q I i j h
 obtain⟨a,b,xs,l,rfl,rfl,m,n,p,g,r,t⟩:=h
 cases i
 cases j
 obtain⟨C,d,A,_⟩:=I.tuple m
 obtain⟨D,c,p2,_⟩:=I.tuple n
 refine HT.Mw A p2 (λz=>p (d.Ic.mp z)) (λz=>⟨.ref a,H,I,Λ,r (c.Ic.mp z)⟩) (λz=>?_) (by rw[←d.length,←c.length];exact g)
 refine⟨.ref s.heap.objs.size,_,I.laid (t':=s.toks) (o:=.tup (xs++l)) (λb E q=>Υ _ q) (ϛ _) ?_,Λ,t (λw=>z (c.Ic.mpr w)) _ (I.Fi.fresh (ϛ _))⟩
 exact⟨by rw[Ξ];exact g,_,d.append c,GF.new _ _⟩
end
noncomputable def xf(n:Nat)(i:Int):Option Nat:=if 0<=i then (if i<n then Α i.toNat else Β) else if -(n:Int)<=i then Α (i+n).toNat else Β
noncomputable def rq{α:Type}(xs:List α)(i:Int):Option α:=(xf xs.length i).bind λj=>xs[j]?
theorem vG(h:xf n i=Α j):LP i n=Α j/\j<n/\-(n:Int)<=i/\i<n:=by
 unfold xf at h
 by_cases b:0<=i
 ·rw[Ι b]at h
  by_cases a:i<n
  ·rw[Ι a]at h
   have e:=ϥ h
   exact⟨by rw[oD b a,e],by omega,by omega,a⟩
  ·rw[Θ a]at h;cases h
 ·rw[Θ b]at h
  by_cases a:-(n:Int)<=i
  ·rw[Ι a]at h
   have e:=ϥ h
   exact⟨by rw[seqIndex_neg (by omega) a,e],by omega,a,by omega⟩
  ·rw[Θ a]at h;cases h
theorem vZ(h:rq xs i=Α v):∃j,LP i xs.length=Α j/\xs[j]?=Α v/\j<xs.length/\-(xs.length:Int)<=i/\i<xs.length:=by
 unfold rq at h
 cases e:xf xs.length i with
 |none=>rw[e]at h;cases h
 | some j =>
  rw[e]at h
  obtain⟨a,b,c,d⟩:=vG e
  exact⟨j,a,h,b,c,d⟩
theorem aj{j:Nat}{v:α}(h:xs[j]?=Α v):rq xs (j:Int)=Α v:=by
 have a:=(gQ0 h)
 have e:xf xs.length (j:Int)=Α j:=by
  unfold xf
  rw[Ι (by omega),Ι (by omega)];simp
 unfold rq;rw[e];exact h
theorem kC(xs:List α)(v:α):rq (xs++[v]) (-1)=Α v:=by
 have a:(xs++[v]).length=xs.length+1:=by simp
 have e:xf (xs++[v]).length (-1)=Α xs.length:=by
  unfold xf
  rw[a,Θ (by decide),Ι (by omega)]
  congr 1
  omega
 unfold rq
 rw[e]
 show(xs++[v])[xs.length]?=Α v
 simp
def wg(b:Expr):Prop:=∀o i,subscripted b Ε o i=operate [o,i] (getItem o i)
def oS(X:Cx)(r:R2):Prop:=
 ∀(value slice:Expr)(ν:List (Ν×Obj))(s:Ω)(σ:St)(H:Hp)(x y:V)(v u:Ο)(Q:VK),ς X ν σ H s->RelV x v->RelV y u->r x y H Q->
  subscripted slice Ε v u=operate [v,u] (getItem v u)->ϩ (Ϧ X.prog X.w) X.A (subscriptTail value slice v u) (EP X ν σ Q) X.xe s
def Vu(X:Cx)(id:String)(r:V->List V->Hp->VK->Prop):Prop:=
 ∀(ν:List (Ν×Obj))(s:Ω)(σ:St)(H:Hp)(x:V)(xs:List V)(v:Ο)(us:List Ο)(Q:VK),ς X ν σ H s->RelV x v->τ xs us->r x xs H Q->
  ϩ (Ϧ X.prog X.w) X.A (call (.builtin id) (v:: us)) (EP X ν σ Q) X.xe s
section
variable {X:Cx}{a b:Expr}{ta tb:TE}{pos:Pos}
theorem ay(d:oS X r)(e:PE X a ta)(f:PE X b tb)(g:wg b):PE X (.Subscript a b pos) (AG r ta tb):=by
 intro c s i H Q I h
 exact Subscript_ (EH e f I h λv u j x y l m n o q=>d a b c j i l x y v u Q m n o q (g _ _))
inductive nN(K:Ϣ)(x:V)(y:V)(H:Hp)(Q:VK):Prop
 |mk (p xs i v)(_:x=.ref p)(_:y=.int i)(_:EX K H p xs)(_:rq xs i=Α v)(_:Q v H)
inductive nM(K:Ϣ)(x:V)(y:V)(H:Hp)(Q:VK):Prop
 |mk (p xs i v)(_:x=.ref p)(_:y=.int i)(_:Fn K H p xs)(_:rq xs i=Α v)(_:Q v H)
theorem aB:oS X (nN X.K):=by
 intro value slice c s g H x y v u Q I o A h l
 obtain⟨p,xs,i,z,rfl,rfl,B,C,q⟩:=h
 cases o
 obtain⟨t,rfl⟩:=A
 obtain⟨D,r,e,N⟩:=I.list B
 obtain⟨j,d,E,O,F,G⟩:=vZ C
 obtain⟨w,m,J⟩:=r.get E
 have L:=r.length
 have P:=lh
 have fin:EP X c g Q w s:=⟨z,H,I,J,q⟩
 by_cases n:0<=i
 ·have f:i.toNat=j:=by
   rw[oD n G]at d
   exact ϥ d
  exact item_listR e.isList n (by omega) (by rw[f];simpa using m) fin l
 ·have f:(i+(D.toArray.size:Int)).toNat=j:=by
   rw[seqIndex_neg (by omega) F]at d
   rw[Ϯ,←L]
   exact ϥ d
  exact VF (x:=w) e.isList.typeIs slot_list_getitem.lookup
   (wpAny_getItem_list_neg (Q:=λr M=>r=w/\EP X c g Q r M) e.isList (by omega) (by rw[Ϯ]<;>omega) (by omega) (by rw[f];simpa using m) ⟨Λ,fin⟩) l
theorem aK:oS X (nM X.K):=by
 intro value slice c s d H x y v u Q I f g h l
 obtain⟨p,xs,i,z,rfl,rfl,m,n,q⟩:=h
 cases f
 obtain⟨t,rfl⟩:=g
 obtain⟨F,r,e,G⟩:=I.tuple m
 obtain⟨j,o,A,J,L,M⟩:=vZ n
 obtain⟨w,B,C⟩:=r.get A
 have D:=r.length
 have N:=lh
 have fin:EP X c d Q w s:=⟨z,H,I,C,q⟩
 exact VF (x:=w) e.typeIs slot_tuple_getitem.lookup
  (getItem_tuple (j:=j) (Q:=λr E=>r=w/\EP X c d Q r E) e (by omega) (by omega) (by rw[Ϯ,←D];exact o) (by simpa using B) ⟨Λ,fin⟩) l
theorem uN(c:List Ο)(n j:Nat)(u:Ο):MA (·.setIfInBounds j u) {cls:=.type "list",data:=.seq c.toArray n}={cls:=.type "list",data:=.seq (c.set j u).toArray n}:=by
 simp[MA]
theorem ς.π{d:St}{H:Hp}{s:Ω}{p:Ν}{xs:List V}(I:ς X ν d H s)(h:H p=Α (.π xs)):
  ∃(c:List Ο)(n:Nat),τ xs c/\s.heap.get? p=Α {cls:=.type "list",data:=.seq c.toArray n}/\xs.length<=Τ:=by
 obtain⟨z,c,n,r,e⟩:=I.Fi p _ h
 exact⟨c,n,r,e,z⟩
theorem ς.Oo{d:St}{g c:List Ο}(I:ς X ν d H s)(h:H p=Α (.π xs))
  (l:s.heap.get? p=Α {cls:=.type "list",data:=.seq g.toArray n}) (i:f {cls:=.type "list",data:=.seq g.toArray n}={cls:=.type "list",data:=.seq c.toArray n'}) (r:τ ys c) (m:ys.length<=Τ) (t:Nat):
  ς X ν d (ο H p (.π ys)) {s with heap:=s.heap.update p f,toks:=t}:=by
 have e:(s.heap.update p f).get? p=Α {cls:=.type "list",data:=.seq c.toArray n'}:=by
  rw[á f l (by rw[i]<;>rfl),i]
 refine I.write (x:=p) (e:=p) (by rw[h];trivial) (.inl Λ) (λb u o q=>(Î _ _ (ϧ o)).trans q) ⟨_,e⟩ ?_
 exact⟨m,c,n',r,e⟩
inductive Rh(o:V)(i:V)(v:V)(H:Hp)(Q:Hp->Prop):Prop
 |mk (p xs k j)(_:o=.ref p)(_:i=.int k)(_:H p=Α (.π xs))(_:xf xs.length k=Α j)(_:Q (ο H p (.π (xs.set j v))))
theorem gy:QM X Rh:=by
 intro c s B H o i v J K u Q I C D E h
 obtain⟨p,xs,k,j,rfl,rfl,l,F,q⟩:=h
 cases C
 obtain⟨t,rfl⟩:=D
 obtain⟨m,n,r,e,G⟩:=I.π l
 obtain⟨d,L,w,x⟩:=vG F
 have f:=r.length
 have M:=lh
 have y:=
  I.Oo l e (uN m n j u) (r.set E j) (by rw[Ĵ];exact G) s.toks
 by_cases A:0<=k
 ·have g:k.toNat=j:=by
   rw[oD A x]at d
   exact ϥ d
  exact PySem.W.ki_setAt e A (by omega) (by rw[Ϯ,←f];exact x) (by rw[g];exact⟨_,y,q⟩)
 ·have g:(k+(m.toArray.size:Int)).toNat=j:=by
   rw[seqIndex_neg (by omega) w]at d
   rw[Ϯ,←f]
   exact ϥ d
  exact PySem.W.ki_setBack e (by omega) (by rw[Ϯ,←f];exact w) (by omega) (by rw[g];exact⟨_,y,q⟩)
theorem qz(c d:Option Int)(n:Nat):(ř c d Β n).1=((HT.HK n 0 c:Nat):Int)/\(ř c d Β n).2.1=((HT.HK n n d:Nat):Int)/\(ř c d Β n).2.2=1:=by
 refine⟨?_,?_,Λ⟩
 ·cases c with
  |none=>simp[ř,HT.HK]
  | some i =>
   simp only[ř,HT.HK,Option.getD_none,show (1:Int) > 0 by decide,if_true]
   by_cases h:i<0
   ·simp only[h,if_true]<;>omega
   ·simp only[h,if_false]<;>omega
 ·cases d with
  |none=>simp[ř,HT.HK]
  | some i =>
   simp only[ř,HT.HK,Option.getD_none,show (1:Int) > 0 by decide,if_true]
   by_cases h:i<0
   ·simp only[h,if_true]<;>omega
   ·simp only[h,if_false]<;>omega
theorem pc(c:List Ο)(d e:Option Int):slicePick c.toArray d e Β=((c.drop (HT.HK c.length 0 d)).take (HT.HK c.length c.length e - HT.HK c.length 0 d)).toArray:=by
 obtain⟨f,g,h⟩:=qz d e c.toArray.size
 unfold slicePick
 rw[f,g,h]
 simp only[sliceRange_one,pick_run,Ϯ]<;>rfl
inductive Bl(K:Ϣ)(x:V)(lo:Option Int)(hi:Option Int)(H:Hp)(Q:VK):Prop
 |mk (a xs)(_:x=.ref a)(_:EX K H a xs)(_:∀p,H p=Β->Q (.ref p) (ο H p (.π (dH xs lo hi))))
theorem bJ:Rc X (Bl X.K):=by
 intro f s t H x v u w d e y Q I i j l m h
 obtain⟨a,xs,rfl,n,q⟩:=h
 cases i
 obtain⟨z,r,g,p⟩:=I.list n
 have c:=r.length
 refine⟨"list",_,slot_list_getitem.lookup,g.isList.typeIs,?_⟩
 refine wpAny_getItem_list_slice g.isList j l m .none (by simp) ?_ (by rw[Ϯ]<;>omega)
 rw[pc,←c]
 refine⟨.ref s.heap.objs.size,_,I.laid (t':=s.toks) (o:=.π (dH xs d e)) (λb A q=>Υ _ q) (ϛ _) ?_,Λ,q _ (I.Fi.fresh (ϛ _))⟩
 exact⟨ώ (sS xs d e) p,_,0,(r.drop (HT.HK xs.length 0 d)).take (HT.HK xs.length xs.length e - HT.HK xs.length 0 d),ϣ _ Λ⟩
noncomputable def jq:V->Bool
 |.Fp=>Δ
 |.bl _=>Δ
 |.int _=>Δ
 |.str _=>Δ
 |_=>Ε
noncomputable def CL:V->V->Bool
 |.Fp,.Fp=>Δ
 |.bl a,.bl b=>a == b
 |.bl a,.int b=>(if a then 1 else 0) == b
 |.int a,.bl b=>a == (if b then 1 else 0)
 |.int a,.int b=>a == b
 |.str a,.str b=>a == b
 |_,_=>Ε
theorem E9(e:RelV y u)(c:RelV x v)(g:jq y=Δ)(f:jq x=Δ):ù A s u v (CL y x):=by
 cases y with
 | Fp =>
  cases e
  cases x with
  |Fp=>cases c;exact ù.same _
  |bl b=>cases c;exact ù.none_bool b
  |int b=>obtain⟨t,rfl⟩:=c;exact ù.none_int b t
  |str b=>obtain⟨t,rfl⟩:=c;exact ù.none_str b t
  |_=>exact Κ (f) Ϟ
 | bl a =>
  cases e
  cases x with
  |Fp=>cases c;exact ù.bool_none a
  |bl b=>cases c;exact ù.bool_bool a b
  |int b=>obtain⟨t,rfl⟩:=c;exact ù.bool_int a b t
  |str b=>obtain⟨t,rfl⟩:=c;exact ù.bool_str a b t
  |_=>exact Κ (f) Ϟ
 | int a =>
  obtain⟨d,rfl⟩:=e
  cases x with
  |Fp=>cases c;exact ù.int_none a d
  |bl b=>cases c;exact ù.int_bool a d b
  |int b=>obtain⟨t,rfl⟩:=c;exact ù.int_int a d b t
  |str b=>obtain⟨t,rfl⟩:=c;exact N0 a d b t
  |_=>exact Κ (f) Ϟ
 | str a =>
  obtain⟨d,rfl⟩:=e
  cases x with
  |Fp=>cases c;exact ù.str_none a d
  |bl b=>cases c;exact ù.str_bool a d b
  |int b=>obtain⟨t,rfl⟩:=c;exact Ny a d b t
  |str b=>obtain⟨t,rfl⟩:=c;exact ù.str_str a d b t
  |_=>exact Κ (f) Ϟ
 |_=>exact Κ (g) Ϟ
noncomputable def uV(x:V)(u:Ο):Bool:=match u with
 |.none=>CL .Fp x
 |.bool b=>CL (.bl b) x
 |.int i _=>CL (.int i) x
 |.str z _=>CL (.str z) x
 |_=>Ε
theorem Ai(r:RelV y u)(f:jq y=Δ):uV x u=CL y x:=by
 cases y with
 |Fp=>cases r;rfl
 |bl b=>cases r;rfl
 |int i=>obtain⟨t,rfl⟩:=r;rfl
 |str z=>obtain⟨t,rfl⟩:=r;rfl
 |_=>exact Κ (f) Ϟ
theorem kD:∀{xs:List V}{us:List Ο},τ xs us->xs.all jq=Δ->us.any (uV x)=xs.any λy=>CL y x
 |_,_,.nil,_=>rfl
 | y:: xs,u:: us,.cons r t,f=>by
  rw[rg,ϫ]at f
  rw[q7,q7,Ai r f.1,kD t f.2]
theorem iH(d:RelV x v)(e:jq x=Δ):∀{xs:List V}{us:List Ο},τ xs us->xs.all jq=Δ->∀u∈us,ù A s u v (uV x u)
 |_,_,.nil,_=>λu c=>by cases c
 | y:: xs,u:: us,.cons r t,f=>λg c=>by
  rw[rg,ϫ]at f
  rcases ύ.mp c with rfl|c
  ·rw[Ai r f.1];exact E9 r d f.1 e
  ·exact iH d e t f.2 g c
noncomputable def Ca(x:V)(xs:List V):Bool:=xs.any λy=>CL y x
inductive XA(K:Ϣ)(neg:Bool)(x:V)(y:V)(H:Hp)(Q:VK):Prop
 |mk (p xs)(_:y=.ref p)(_:(EX K H p xs∨Fn K H p xs)/\jq x=Δ/\xs.all jq=Δ/\Q (.bl (if neg then !Ca x xs else Ca x xs)) H)
theorem pC:fW X (compareOp .In) (XA X.K Ε):=by
 intro g s n H x y v u Q I i l h
 obtain⟨p,xs,rfl,c,j,fs,q⟩:=h
 cases l
 rcases c with c|c
 ·obtain⟨d,r,e,m⟩:=I.list c
  refine SeqAt.in_listAt (uV x) e.isList (λw f=>iH i j r fs w (by simpa using f)) ⟨.bl _,H,I,Λ,?_⟩
  rw[show d.toArray.any (uV x)=d.any (uV x) by simp,kD r fs]
  exact q
 ·obtain⟨d,r,e,m⟩:=I.tuple c
  refine SeqAt.in_tupleAt (uV x) e (λw f=>iH i j r fs w (by simpa using f)) ⟨.bl _,H,I,Λ,?_⟩
  rw[show d.toArray.any (uV x)=d.any (uV x) by simp,kD r fs]
  exact q
theorem qL:fW X (compareOp .NotIn) (XA X.K Δ):=by
 intro g s n H x y v u Q I i l h
 obtain⟨p,xs,rfl,c,j,fs,q⟩:=h
 cases l
 rcases c with c|c
 ·obtain⟨d,r,e,m⟩:=I.list c
  refine SeqAt.notIn_listAt (uV x) e.isList (λw f=>iH i j r fs w (by simpa using f)) ⟨.bl _,H,I,Λ,?_⟩
  rw[show d.toArray.any (uV x)=d.any (uV x) by simp,kD r fs]
  exact q
 ·obtain⟨d,r,e,m⟩:=I.tuple c
  refine SeqAt.notIn_tupleAt (uV x) e (λw f=>iH i j r fs w (by simpa using f)) ⟨.bl _,H,I,Λ,?_⟩
  rw[show d.toArray.any (uV x)=d.any (uV x) by simp,kD r fs]
  exact q
theorem aC:F5 X (.builtin "len") (λxs H Q=>∃p d,xs=[.ref p]/\(EX X.K H p d∨Fn X.K H p d)/\Q (.int d.length) H):=by
 intro i s n H xs us Q I r h
 obtain⟨p,d,rfl,e,q⟩:=h
 obtain⟨u,rfl,j⟩:=jD r
 cases j
 have o:=lh
 rcases e with e|e
 ·obtain⟨l,f,g,m⟩:=I.list e
  have c:=f.length
  exact Calls.call_len_list g.isList (by simp only[Ϯ]<;>omega) ⟨.int d.length,H,I.tok _,⟨s.toks+1,by rw[Ϯ,c]⟩,q⟩
 ·obtain⟨l,f,g,m⟩:=I.tuple e
  have c:=f.length
  exact len_tuple g (by simp only[Ϯ]<;>omega) ⟨.int d.length,H,I.tok _,⟨s.toks+1,by rw[Ϯ,c]⟩,q⟩
theorem kA:F5 X (.builtin "len") (λxs H Q=>∃z,xs=[.str z]/\z.length<=Τ/\Q (.int z.length) H):=by
 intro c s d H xs us Q I r h
 obtain⟨z,rfl,e,q⟩:=h
 obtain⟨u,rfl,t,rfl⟩:=jD r
 have f:=lh
 exact len_str (by omega) ⟨.int z.length,H,I.tok _,⟨_,Λ⟩,q⟩
theorem F5.or(h:F5 X f r)(g:F5 X f r'):F5 X f (λxs H Q=>r xs H Q∨r' xs H Q):=by
 intro c s d H xs us Q I e q
 rcases q with q|q
 ·exact h c s d H xs us Q I e q
 ·exact g c s d H xs us Q I e q
theorem dX:F5 X (.type "list") (λxs H Q=>∃p f,xs=[.ref p]/\(EX X.K H p f∨Fn X.K H p f)/\∀l,H l=Β->Q (.ref l) (ο H l (.π f))):=by
 intro j s E H xs us Q I r h
 obtain⟨p,f,rfl,m,q⟩:=h
 obtain⟨u,rfl,F⟩:=jD r
 cases F
 have fin:∀(d:List Ο),τ f d->f.length<=Τ->∀(c:ò)(g:Nat),(∀b C,s.heap.get? b=Α C->c.get? b=Α C)->
   c.get? s.heap.objs.size=Α {cls:=.type "list",dict:=Β,data:=.seq d.toArray g,slots:=#[]}->EP X j E Q (.ref s.heap.objs.size) {s with heap:=c}:=λd i t c g v e =>
  ⟨.ref s.heap.objs.size,_,I.laid (t':=s.toks) v (ϛ _) (show Fv X.prog X.w _ c _ (.π f) from ⟨t,d,g,i,e⟩),Λ,q _ (I.Fi.fresh (ϛ _))⟩
 rcases m with m|m
 ·obtain⟨d,i,y,t⟩:=I.list m
  have x:=i.length
  obtain⟨o,z,A,n,B⟩:=y.isList
  exact call_list_seq p (.inl Λ) z A B (λc g v e=>fin d i t c g v e) (by simp only[Ϯ]<;>omega)
 ·obtain⟨d,i,y,t⟩:=I.tuple m
  have x:=i.length
  obtain⟨o,z,A,n,B⟩:=y
  exact call_list_seq p (.inr Λ) z A B (λc g v e=>fin d i t c g v e) (by simp only[Ϯ]<;>omega)
theorem dJ:F5 X (.type "tuple") (λxs H Q=>∃p d,xs=[.ref p]/\((EX X.K H p d/\∀l,H l=Β->Q (.ref l) (ο H l (.tup d)))∨(Fn X.K H p d/\Q (.ref p) H))):=by
 intro c s t H xs us Q I r h
 obtain⟨p,d,rfl,h⟩:=h
 obtain⟨u,rfl,z⟩:=jD r
 cases z
 rcases h with ⟨i,q⟩|⟨i,q⟩
 ·obtain⟨j,m,n,v⟩:=I.list i
  have x:=m.length
  refine call_tuple_list n.isList (λg A=>?_) (by simp only[Ϯ]<;>omega)
  have y:=I.kept (t':=s.toks) A
  have B:=
   y.laid (t':=s.toks) (λb o e=>Υ _ e) (ϛ _) (show Fv X.prog X.w _ _ _ (.tup d) from ⟨v,j,m,GF.new _ _⟩)
  exact⟨.ref g.objs.size,_,B,Λ,q _ (y.Fi.fresh (ϛ _))⟩
 ·obtain⟨j,m,n,v⟩:=I.tuple i
  exact call_tuple_same n ⟨.ref p,H,I,Λ,q⟩
def XB(K:Ϣ)(T:String)(x:V)(H:Hp):Prop:=match x with
 |.str _=>T="str"
 |.int _=>T="int"
 | .ref p=>(T="list"/\∃xs,EX K H p xs)∨(T="tuple"/\∃o,K.lookup p=Α o/\o.cls=.type "tuple"/\o.dict=Β)∨
   (T="dict"/\((∃EZ,H p=Α (.dK EZ))∨∃EZ,H p=Α (.dT EZ)))∨(T="set"/\∃S n,H p=Α (.set S n))
 |_=>False
theorem xI{m:St}(I:ς X ν m H s)(r:RelV x v)(f:XB X.K T x H):
  s.TypeIs v T/\∀a,v=.ref a->∃j,s.heap.get? a=Α j/\j.dict=Β:=by
 cases x with
 | str z =>
  obtain⟨t,rfl⟩:=r
  cases (f)
  exact⟨et s z t,λ_ e=>nomatch e⟩
 | int i =>
  obtain⟨t,rfl⟩:=r
  cases (f)
  exact⟨typeIs_int s i t,λ_ e=>nomatch e⟩
 | ref p =>
  cases r
  rcases f with ⟨rfl,xs,q⟩|⟨rfl,o,d,u,g⟩|⟨rfl,d⟩|⟨rfl,S,n,d⟩
  ·obtain⟨y,_,l,_⟩:=I.list q
   refine⟨l.isList.typeIs,λa e=>?_⟩
   cases e
   obtain⟨o,n,e,c,g,_⟩:=l
   exact⟨o,e,g⟩
  ·refine⟨⟨o,I.FN p o d,u⟩,λa e=>?_⟩
   cases e
   exact⟨o,I.FN _ o d,g⟩
  ·have z:∃o,s.heap.get? p=Α o/\o.ExactDict:=by
    rcases d with ⟨w,d⟩|⟨w,d⟩
    ·obtain⟨_,_,_,_,o,_,_,e,ex,_⟩:=I.Fi p _ d
     exact⟨o,e,ex⟩
    ·obtain⟨_,_,_,_,o,_,_,e,ex,_⟩:=I.Fi p _ d
     exact⟨o,e,ex⟩
   obtain⟨o,e,ex⟩:=z
   refine⟨⟨o,e,ex.1⟩,λa h=>?_⟩
   cases h
   exact⟨o,e,ex.2.1⟩
  ·obtain⟨o,_,_,_,e,ex,_⟩:=I.Fi p _ d
   refine⟨⟨o,e,ex.1⟩,λa h=>?_⟩
   cases h
   exact⟨o,e,ex.2.1⟩
 |_=>exact Ö f
def XC(K:Ϣ)(T:String)(r:V->List V->Hp->VK->Prop)(to:TE):TE:=λσ H Q=>to σ H λx H1=>XB K T x H1/\r x [] H1 Q
def tBM(K:Ϣ)(T:String)(r:V->List V->Hp->VK->Prop)(to:TE)(t:TA):TE:=λσ H Q=>to σ H λx H1=>XB K T x H1/\t σ H1 λxs H2=>r x xs H2 Q
variable {o e:Expr}{es:List Expr}{to:TE}{t:TA}{name:Str}{apos FE:Pos}{T id:String}{r:V->List V->Hp->VK->Prop}
theorem DP(j:PlainAttrs T)(d:Slot T name id)(l:ZN (.builtin id)=pure (.type "method_descriptor"))(m:Vu X id r)(n:PE X o to)
  (p:autoParam (ŕ o name X.env (eval o X.env)=eval o X.env) η) (q:autoParam ((apos.endLine == FE.line)=Δ) η):PE X (.Call (.Attribute o name apos) [] [] FE) (XC X.K T r to):=by
 intro c s f H Q I h
 refine wpAny_Call_method0_late p q (bq (n c s f H _ I h) λv u w=>?_)
 obtain⟨x,y,g,i,z,A⟩:=w
 obtain⟨B,C⟩:=xI g i z
 exact⟨T,id,j,d,l,B,C,ľ Λ (PySem.evalArgs_none (m c u f y x [] v [] Q g i .nil A))⟩
theorem aZ(m:PlainAttrs T)(d:Slot T name id)(n:ZN (.builtin id)=pure (.type "method_descriptor"))(p:Vu X id r)(q:PE X o to)(u:PA X (e:: es) t)
  (w:autoParam (ŕ o name X.env (eval o X.env)=eval o X.env) η)
  (y:((Ė FE (Ϭ (e:: es) X.env)).all (λx=>!x.1)&& (pM FE (Ś [] X.env)).all (λx=>x.1.isSome)
   && decide ((e:: es).length+([]:List IC).length+(if ([]:List IC).isEmpty then 0 else 1)<30))=Δ:=by rfl)
  (z:autoParam ((apos.endLine == FE.line)=Δ) η) (A:autoParam (Ϭ (e:: es) X.env=(Ε,eval e X.env):: Ϭ es X.env) η) (B:autoParam ((Ė FE (Ϭ es X.env)).any (·.1)=Ε) η):
  PE X (.Call (.Attribute o name apos) (e:: es) [] FE) (tBM X.K T r to t):=by
 intro c s f H Q I h
 refine V5 w y z Λ (bq (q c s f H _ I h) λv C g=>?_)
 obtain⟨x,D,i,j,E,F⟩:=g
 obtain⟨G,J⟩:=xI i j E
 refine⟨T,id,m,d,n,G,J,?_⟩
 have l:=u FE c C f D _ i F
 rw[A]at l⊢
 refine ľ (by show(Ε||(Ė FE (Ϭ es X.env)).any (·.1))=Ε;rw[B]<;>rfl) (c0 ?_)
 exact bq l λus L g=>by obtain⟨M,N,O,P,R⟩:=g;exact p c L f N x M v us Q O j P R
end
def EQ(X:Cx)(id:String)(r:V->List V->Hp->VK->Prop):Prop:=
 ∀(ν:List (Ν×Obj))(s:Ω)(σ:St)(H:Hp)(x:V)(xs:List V)(v:Ο)(us:List Ο)(Q:VK),ς X ν σ H s->RelV x v->τ xs us->r x xs H Q->
  ϩ (Ϧ X.prog X.w) X.A (call (.builtin id) (v:: us)) (EP X ν σ Q) X.xe s
theorem τ.one:∀{x:V}{us:List Ο},τ [x] us->∃u,us=[u]/\RelV x u:=by
 intro x us h
 cases h with
 |cons r t=>cases t;exact⟨_,Λ,r⟩
theorem τ.eraseIdx:∀{xs:List V}{us:List Ο}(i:Nat),τ xs us->τ (xs.eraseIdx i) (us.eraseIdx i)
 |_,_,_,.nil =>.nil
 |_,_,0,.cons _ t=>t
 |_,_,i+1,.cons r t =>.cons r (τ.eraseIdx i t)
theorem pL{a:Type}:∀(l:List a)(i:Nat),(l.eraseIdx i).length<=l.length
 |[],_=>ϛ _
 |_:: _,0=>Wb _
 |_:: r,i+1=>Nat.succ_le_succ (pL r i)
section
variable {X:Cx}{ν:List (Ν×Obj)}{σ:St}{H:Hp}{s:Ω}{l b:Ν}{xs ys zs:List V}
theorem ς.M0{a its':List Ο}(I:ς X ν σ H s)(d:H l=Α (.π xs))
  (e:s.heap.get? l=Α {cls:=.type "list",data:=.seq a.toArray n}) (g:f a.toArray=its'.toArray) (h:τ ys its') (i:ys.length<=Τ):
  ς X ν σ (ο H l (.π ys)) {s with heap:=s.heap.update l (MA f),toks:=t'}:=by
 have q:=PySem.IsL.update e f
 rw[g]at q
 refine I.write (x:=l) (e:=l) (by rw[d];exact trivial) (.inl Λ) (λo u j m=>(Î s.heap (MA f) (ϧ j)).trans m) ⟨_,q⟩ ?_
 exact⟨i,its',_,h,q⟩
theorem ς.XD(I:ς X ν σ H s)(c:τ ys Fe)(d:ys.length<=Τ):
  ς X ν σ (ο H s.heap.objs.size (.π ys)) {s with heap:=s.heap.push {cls:=.type "list",data:=.seq Fe.toArray},toks:=t'}:=
 I.laid (λ_ _ q=>Υ _ q) (ϛ _) ⟨d,Fe,0,c,ϣ _ Λ⟩
theorem ς.fresh(I:ς X ν σ H s):H s.heap.objs.size=Β:=I.Fi.fresh (ϛ _)
theorem ς.Jq(I:ς X ν σ H s)(c:H l=Α (.π xs)):xs.length<=Τ/\∃(a:List Ο)(n:Nat),τ xs a/\xs.length=a.length/\s.heap.get? l=Α {cls:=.type "list",data:=.seq a.toArray n}:=by
 obtain⟨z,a,n,r,e⟩:=I.Fi l _ c
 exact⟨z,a,n,r,r.length,e⟩
theorem zA(h:n<=Τ):ō n=Ε:=by
 unfold ō
 exact Η (by omega)
end
section
variable {X:Cx}
inductive Bq(x:V)(vs:List V)(H:Hp)(Q:VK):Prop
 |mk (l xs y)(_:x=.ref l)(_:vs=[y])(_:H l=Α (.π xs))(_:xs.length<Τ)(_:Q .Fp (ο H l (.π (xs++[y]))))
theorem cy:EQ X "list.append" Bq:=by
 intro a s i H x j v us Q I d f h
 obtain⟨l,xs,y,rfl,rfl,b,m,q⟩:=h
 cases d
 obtain⟨u,rfl,g⟩:=f.one
 obtain⟨z,c,n,r,o,e⟩:=I.Jq b
 refine ŏ F.slot_list_append ⟨_,e,Λ⟩ F.entry_list_append (F.args_list_append_2 _ _) (PySem.list_append l c.toArray n u (by rw[Ϯ];omega)) ⟨e,?_⟩
 refine⟨.Fp,_,I.M0 (its':=c++[u]) b e (by simp) (r.append (.cons g .nil)) ?_,Λ,q⟩
 rw[Ξ,ú]
 omega
inductive Bn(x:V)(vs:List V)(H:Hp)(Q:VK):Prop
 |mk (l b xs zs)(_:x=.ref l)(_:vs=[.ref b])(_:H l=Α (.π xs))(_:H b=Α (.π zs))(_:xs.length+zs.length<=Τ)(_:Q .Fp (ο H l (.π (xs++zs))))
theorem eE:EQ X "list.extend" Bn:=by
 intro f s A H x B v us Q I i j h
 obtain⟨l,b,xs,C,rfl,rfl,g,m,D,q⟩:=h
 cases i
 obtain⟨u,rfl,o⟩:=j.one
 cases o
 obtain⟨z,Fe,n,r,E,e⟩:=I.Jq g
 obtain⟨G,c,p,t,J,w⟩:=I.Jq m
 have d:Fe.toArray.size+c.toArray.size<=Τ:=by rw[Ϯ,Ϯ];omega
 have y:¬(!Fe.toArray.isEmpty&& ō (Fe.toArray.size+c.toArray.size))=Δ:=by
  rw[zA d,Bool.and_false]
  exact Ϟ
 refine ŏ F.slot_list_extend ⟨_,e,Λ⟩ F.entry_list_extend (F.args_list_extend_2 _ _)
  (AutoSeq1.list_extend_list_list_0 l Fe.toArray n b c.toArray p y (by rw[Ϯ];omega) (by omega)) ⟨e,w,?_⟩
 refine⟨.Fp,_,I.M0 (its':=Fe++c) g e (by simp) (r.append t) ?_,Λ,q⟩
 rw[Ξ]
 omega
inductive DH(x:V)(vs:List V)(H:Hp)(Q:VK):Prop
 |mk (l xs i k y)(_:x=.ref l)(_:vs=[.int i])(_:H l=Α (.π xs))(_:-(2^63)<=i)(_:i<2^63)(_:LP i xs.length=Α k)(_:xs[k]?=Α y)(_:Q y (ο H l (.π (xs.eraseIdx k))))
theorem om:EQ X "list.pop" DH:=by
 intro b s D H x E v us Q I d f h
 obtain⟨l,xs,i,k,y,rfl,rfl,c,g,j,m,o,q⟩:=h
 cases d
 obtain⟨u,rfl,p⟩:=f.one
 obtain⟨t,rfl⟩:=p
 obtain⟨z,a,n,r,A,e⟩:=I.Jq c
 obtain⟨w,B,C⟩:=r.get o
 refine ŏ F.slot_list_pop ⟨_,e,Λ⟩ F.entry_list_pop (F.args_list_pop_2 _ _)
  (MeetsSeq.list_pop_at l a.toArray n i t k w (fitsIndex_both g j) (by rw[Ϯ,←A];exact m) (by rw[←Ż];exact B) (by rw[Ϯ];omega)) ⟨e,?_⟩
 refine⟨y,_,I.M0 (its':=a.eraseIdx k) c e ?_ (r.eraseIdx k) ?_,C,q⟩
 ·show a.toArray.eraseIdxIfInBounds k=(a.eraseIdx k).toArray
  rw[List.eraseIdxIfInBounds_toArray]
 ·have:=pL xs k
  omega
inductive Bp(x:V)(y:V)(H:Hp)(Q:VK):Prop
 |mk (l b xs zs)(_:x=.ref l)(_:y=.ref b)(_:H l=Α (.π xs))(_:H b=Α (.π zs))(_:xs.length+zs.length<=Τ)(_:∀p,H p=Β->Q (.ref p) (ο H p (.π (xs++zs))))
theorem bP:fW X (binaryOp .Add) Bp:=by
 intro a s t H x y v u Q I f g h
 obtain⟨l,b,xs,w,rfl,rfl,i,j,A,q⟩:=h
 cases f
 cases g
 obtain⟨z,c,n,r,B,e⟩:=I.Jq i
 obtain⟨C,d,D,m,E,o⟩:=I.Jq j
 refine PySem.P.add_list e o ?_ (by rw[Ϯ,Ϯ];omega)
 have p:c.toArray++d.toArray=(c++d).toArray:=by simp
 rw[p]
 exact⟨.ref _,_,I.XD (t':=s.toks) (r.append m) (by rw[Ξ];omega),Λ,q _ I.fresh⟩
end
section
variable {prog:Program}{w:À}{A:é}{E:Ο->Ω->Prop}{s:Ω}
set_option maxRecDepth 100000 in
end
section
variable {X:Cx}
end
end L2
namespace Att
open PySem PySem.W PySem.Calls PyProof.Rows
theorem lI:∀(c:List Int)(d:List Ο),WellAll P h d (c.map WData.int)->OM d c:=by
 intro c
 induction c with
 | nil =>
  intro d w
  rw[gM]at w
  cases w
  exact .nil
 | cons n c e =>
  intro d w
  rw[ϳ]at w
  cases w with
  | cons a b =>
   cases a
   exact .cons _ _ (e _ b)
theorem wA{l:OpenLaw}(o:l.most=Α n)
  (i:l.row.toRowW.claim.pre args=Δ) (p:WellAll P h vals args):
  ∃a j b,vals=[ϭ a]/\args=[WData.list (b.map WData.int)]/\h.get? a=Α {cls:=.type "list",data:=.seq j.toArray}/\OM j b/\b.length<=n:=by
 have g:=(pre_splitW i).1
 have m:l.pre.holds [] {args:=args}=Δ:=(pre_splitW i).2
 obtain⟨d,r,rfl,s,t⟩:=hasAllW_cons g
 obtain rfl:=hasAllW_nil t
 obtain⟨xs,rfl,u⟩:=hasW_list s
 obtain⟨b,rfl⟩:=items_int u
 have c:b.length<=n:=by
  unfold OpenLaw.pre at m
  have e:(WTm.not (.lt (.lit (.int (n:Int))) (.len (.arg 0)))).holds [] {args:=[.list (b.map .int)]}=Δ:=by
   have e:=(holds_andW m).1
   rw[o]at e
   exact e
  have f:=condW_of e (w_not (w_lt w_lit (w_len_list (w_arg Λ))))
  rw[Μ]at f
  refine Nat.le_of_not_lt λq=>?_
  have v:(n:Int)<((b.length:Nat):Int):=by omega
  first
   |(rw[Ζ v]at f;exact Κ f (by decide))
   |(simp at f;omega)
 cases p with
 | cons w x =>
  cases x
  cases w with
  |list y z=>exact⟨_,_,b,Λ,Λ,y,lI b _ z,c⟩
theorem wF(l:OpenLaw)(args:List WData):l.row.toRowW.claim.post args (.bool Δ) args=Δ:=
 postW_of (r:=l.row.toRowW) (X:=(Δ == Δ))
  (show WShape.has [] (.bool Δ) .bool=Δ by first|rfl|decide|simp[WShape.has,WShape.arms,WShape.armsAll])
  (show(WTm.eq .res (.lit (.bool Δ))).value [] {args:=args,res:=Α (.bool Δ),after:=args}=Α (.bool (Δ == Δ)) from w_eq_bool (w_res Λ) w_lit) Λ
theorem Jr{l:OpenLaw}
  (z:l.most=Α n) (A:d.params.defaults=[])
  (call:∀(w:À)(c b:Ω)(j t:Str->Option Ο)(h:Ν)(o:Obj)(pm m doc:Ο)(a:Ν)(g:List Ο)(p:List Int),
   Ground q loose [] XP w c j t b.heap->YP w b.heap->
   b.heap.get? h=Α o->o.data=.func (docDef d.name d.params d.body d.scope pm m doc)->b.heap.CodeRec m d.name->j d.name=Α (.ref h)->
   b.heap.get? a=Α {cls:=.type "list",data:=.seq g.toArray}->OM g p->p.length<=n->b.gens=#[]->
   Š (Ϧ l.prog w) I0 (.call (.ref h) ⟨[.ref a],[]⟩) (λr s=>r=.ok (.ret (.bool Δ))/\OldK b.heap s.heap/\s.os=b.os/\Ÿ s.gens) b):
  WalkO q loose XP YP l.row.toRowW d [] (λf g=>PySem.call f g):=by
 intro w c b j t G Y h o pm m doc dV kV B C D v u E args x as F y O H P
 obtain rfl:dV=.none:=Dflts.none v A
 obtain rfl:kV=.none:=Dflts.noKw v
 obtain⟨a,g,p,rfl,rfl,I,e,i⟩:=wA z F H
 refine enter_call (ş (call w c b j t h o pm m doc a g p G Y B (fd_plain C) D u I e i E) λr s J=>?_)
 obtain⟨rfl,K,L,M⟩:=J
 exact⟨.inl ⟨.bool Δ,.bool Δ,[],Λ,λ_=>rfl,.bool Δ,wF l _,λ_=>⟨List.Pairwise.nil,λ_ N=>(nomatch N)⟩⟩,K,L,M⟩
section
variable {prog:Program}{w:À}{A:é}{E:Ο->Ω->Prop}{s:Ω}{K:Ϣ}
end
end Att
namespace L2
open PySem PySem.Spec PyProof.Rows
theorem pw:∀{a:List Ο}{b:List Int},OM a b->τ (b.map V.int) a
 |_,_,.nil =>.nil
 |_,_,.cons n t h =>.cons ⟨t,Λ⟩ (pw h)
def EO(H:Hp):Prop:=∀b,H b=Β∨∃o xs,H b=Α (.JU o (.π xs))
theorem zO{K:Ϣ}
  (E:K.In s₁.heap) (G:s₁.heap.Ns Ϡ mg) (c:s₁.heap.Ns za1 mb) (B:∀x:Str,x≠ "__name__"->mb x=š x) (R:s₁.heap.NoLimit) (S:s₁.gens=#[])
  (y:s₁.heap.get? a=Α {cls:=.type "list",data:=.seq vs.toArray}) (I:OM vs ns) (J:ns.length<=Τ) (T:Fj k I0)
  (F:∀μ:ò,K.In μ->μ.Ns Ϡ mg->EW P w K mg μ CX k fa fd [x] sp) (U:∀(s:Ω)(u:Ο),OL s fd ⟨[u],[]⟩ [(x,u)])
  (X:∀H:Hp,EO H->EX K H a (ns.map V.int)->sp [.ref a] H (λv _=>v=.bl Δ) λ_ _ _=>False)
  (Y:∀H e f,CX [] H s₁ (λ_ _ _=>False) e f->False):
  Š (Ϧ P w) I0 (.call (.ref fa) ⟨[.ref a],[]⟩) (λr f=>r=.ok (.ret (.bool Δ))/\OldK s₁.heap f.heap/\f.os=s₁.os/\Ÿ f.gens) s₁:=by
 have L:=pw I
 have Z:=I.length
 have g:∀H:Hp,EO H->EX K H a (ns.map V.int)->GD P w H s₁.heap->(∀b,H b≠Β->b=a)->(H a≠Β->K.lookup a=Β)->
   Š (Ϧ P w) I0 (.call (.ref fa) ⟨[.ref a],[]⟩) (λr f=>r=.ok (.ret (.bool Δ))/\OldK s₁.heap f.heap/\f.os=s₁.os/\Ÿ f.gens) s₁:=by
  intro H M hS N O hK
  have base_of:∀{b:Ν}{o:Obj},s₁.heap.get? b=Α o->H b=Β->(qU s₁.heap H).get? b=Α o:=λe n=>Aa e n
  have Ra:∀{b:Ν}{o:Obj}{i:Array DictEntry}{j:Nat},s₁.heap.get? b=Α o->o.data=.dict i j->H b=Β:=λ{b o i j} e d=>by
   cases q:H b with
   |none=>rfl
   | some u =>
    have C:=O b (by rw[q];simp)
    subst C
    rw[y]at e;cases e
    have d':=d
    cases d'
  have A:∀{b:Ν}{m:Str->Option Ο},s₁.heap.Ns b m->(qU s₁.heap H).Ns b m:=λ{b m} ⟨o,i,j,e,d,r⟩=>⟨o,i,j,base_of e (Ra e d),d,r⟩
  have l:=λb o e=>base_of (E b o e) (by
   cases q:H b with
   |none=>rfl
   | some u =>
    have C:=O b (by rw[q];simp)
    subst C
    rw[hK (by rw[q];simp)]at e;cases e)
  have hM:Mod K mg (qU s₁.heap H):=⟨l,A G,⟨mb,A c,B⟩,let ⟨mc,h1,h2⟩:=R;⟨mc,A h1,h2⟩⟩
  have e0:JW P w K mg (qU s₁.heap H) I0 [] s₁ H:=⟨Λ,hM,λb o e=>BP e,Yj (xj _ _),trivial,λb c=>Κ (show b∈([]:List Ν) from c) (by simp),N,.of_eq S⟩
  refine ş ((F _ l (A G)).run I0 [] s₁ H ⟨[.ref a],[]⟩ [.ref a] [.ref a] _ _ T e0 (U s₁ (.ref a)) (.cons Λ .nil) (X H M hS)) λr f h=>?_
  cases r with
  |error e=>exact(Y H e f h).elim
  | ok fl =>
   cases fl with
   |next=>exact Ö h
   |brk=>exact Ö h
   |cont=>exact Ö h
   | ret u =>
    obtain⟨v,H',os,p,un,Ov,r',q⟩:=h
    have q':=q
    subst q'
    obtain rfl:u=lr Δ:=r'
    refine⟨Λ,OldK.of_keep λb o e=>?_,os,p⟩
    cases q:H b with
    |none=>exact un.keep b o e q (by intro z;exact Κ (show b∈([]:List Ν) from z) (by simp)) (by simp)
    | some u =>
     rcases M b with z|⟨ob,xs,z⟩
     ·rw[q]at z;cases z
     ·have z2:=un.HF b ob _ z
      obtain⟨Q,_⟩:=N b _ z
      obtain⟨e2,_⟩:=Ov b _ z2
      rw[e]at Q;cases Q
      exact e2
 cases D:K.lookup a with
 | some o =>
  have e:=E a o D
  rw[y]at e
  cases e
  refine g (λ_=>Β) (λ_ =>.inl Λ) (.inr ⟨_,vs.toArray,_,D,Λ,Λ,Λ,by rw[Ϯ,Z];exact J,by simpa using L⟩) (λb u z=>by have t:=z;cases t) (λb z=>Κ Λ z) λz=>Κ Λ z
 | none =>
  refine g (λb=>if b=a then Α (.JU {cls:=.type "list",data:=.seq vs.toArray} (.π (ns.map V.int))) else Β) (λb=>?_) (.inl (.inr ⟨{cls:=.type "list",data:=.seq vs.toArray},Ι Λ⟩)) (λb u z=>?_) (λb z=>?_) λ_=>D
  ·by_cases c:b=a
   ·exact .inr ⟨_,_,Ι c⟩
   ·exact .inl (Θ c)
  ·by_cases c:b=a
   ·have t:=(Ι c).symm.trans z
    cases t
    subst c
    exact⟨y,by rw[Μ];exact J,vs,_,L,y⟩
   ·have t:=(Θ c).symm.trans z
    cases t
  ·by_cases c:b=a
   ·exact c
   ·exact Κ (Θ c) z
theorem M4{l:PySem.W.OpenLaw}{K:Params->Ϣ}{CX:À->tF}{sp:À->Sp}
  (D:l.most=Α n) (E:n<=Τ) (I:d.params.defaults=[]) (J:Fj k I0)
  (L:∀(w:À)(h:ò),YP w h->(K w.params).In h)
  (F:∀(w:À)(j:Str->Option Ο)(p:Ν)(h:ò),(K w.params).In h->h.Ns Ϡ j->j d.name=Α (.ref p)->
   ∃t:ë,(∀(s:Ω)(u:Ο),OL s t ⟨[u],[]⟩ [(x,u)])/\
    ∀μ:ò,(K w.params).In μ->μ.Ns Ϡ j->EW l.prog w (K w.params) j μ (CX w) k p t [x] (sp w))
  (M:∀(w:À)(H:Hp)(a:Ν)(r:List Int),r.length<=n->EO H->EX (K w.params) H a (r.map V.int)->sp w [.ref a] H (λv _=>v=.bl Δ) λ_ _ _=>False)
  (N:∀(w:À)(H:Hp)(s:Ω)(e:Ο)(y:Ω),CX w [] H s (λ_ _ _=>False) e y->False):
  PySem.W.WalkO q loose XP YP l.row.toRowW d [] (λf A=>PySem.call f A):=by
 refine Att.Jr D I λw B m j X p o pm Z doc a A r G Y ho hd Jf z O i c P=>?_
 have C:=L w _ Y
 obtain⟨t,Q,R⟩:=F w j p _ C G.T.g z
 exact zO C G.T.g G.T.b G.T.builtins G.T.nolimit P O i (ώ c E) J R Q (λH S U=>M w H a r c S U) λH e y=>N w H m e y
noncomputable def aO(s:Ã)(j:Nat):Ã:=match s with
 |.ClassDef _ _ _ body _ _ _ _ _ _ _=>body.getD j (.Pass ⟨0,0,0,0⟩)
 |_ =>.Pass ⟨0,0,0,0⟩
noncomputable def cp(s:Ã):Arguments:=match s with
 |.FunctionDef _ a _ _ _ _ _ _ _ _=>a
 |_=>{posonlyargs:=[],args:=[],vararg:=Β,kwonlyargs:=[],kw_defaults:=[],kwarg:=Β,defaults:=[]}
noncomputable def aJ(s:Ã):List Ã:=match s with
 |.FunctionDef _ _ b _ _ _ _ _ _ _=>b
 |_=>[]
noncomputable def ag(s:Ã):Scope:=match s with
 |.FunctionDef _ _ _ _ _ _ sc _ _ _=>sc
 |_=>zQ0
abbrev aL:tF:=λ_ _ _ _ _ _=>False
abbrev E0:XK:=λ_ _ _=>False
theorem aw:gm aL X E0:=λ_ _ _ _ _ _ _ h=>h.elim
structure F0(K:Ϣ)(x qual:Str)(st:Ã)(f:Ν)(fd:ë):Prop where
 ex:∃(oc:Ο)(od:Option Ν)(kV doc pm:Ο)(an:Option Ν)(cdv ct:Ο)(JM:Array (Option Ο)),
  fd=xi x qual (cp st) (aJ st) (ag st) .none kV doc pm an cdv ct/\K.lookup f=Α ⟨oc,od,.func fd,JM⟩/\x4 K cdv qual=Δ
 kp:Ϩ K (.ref f)=Δ
section
variable {P:Program}{w:À}{K:Ϣ}{mg:Str->Option Ο}{μ:ò}
theorem F0.ok{c:Ã}(F:F0 K x qual c f fd)(S:ap N ps (ag c))
  (d:∀(cdv:Ο)(A:é)(a:List Env)(s:Ω)(H:Hp)(b:List V)(Q:VK)(E:XK),Fj k (A.deeper (gw qual (ag c) s.heap.objs.size f cdv))->sp b H Q E->
   ∃t,Ib (jk aL P w K mg μ N qual (ag c) f cdv A a s H E).KY (aJ c) t/\t {nx:=λ_ e=>Q .Fp e,rt:=Q} (start N b) H)(len:∀b H Q E,sp b H Q E->b.length=ps.length:=by intro _ _ _ _ h;repeat first|(subst_vars;rfl)|obtain⟨_,h⟩:=h):EW P w K mg μ aL (k+1) f fd ps sp:=by
 obtain⟨l,m,kV,doc,pm,an,cdv,ct,n,rfl,lk,g⟩:=F.ex
 refine Ae lk g S len λA a s H b Q E i j=>?_
 obtain⟨t,h,q⟩:=d cdv A a s H b Q E i j
 exact⟨t,h.KY,q⟩
theorem F0.binds{a:Ã}(F:F0 K x qual a f fd)
  (h:∀(kV doc pm:Ο)(an:Option Ν)(cdv ct:Ο)(us:List Ο),us.length=ps.length->XF (xi x qual (cp a) (aJ a) (ag a) .none kV doc pm an cdv ct) ⟨us,[]⟩=pure (ps.zip us)):Binds K fd ps []:=by
 obtain⟨b,c,kV,doc,pm,an,cdv,ct,d,rfl,lk,e⟩:=F.ex
 exact .all (h kV doc pm an cdv ct)
theorem oC{st:Ã}{kV doc pm cdv ct:Ο}(l:K.lookup f=Α ⟨oc,od,.func (xi x qual (cp st) (aJ st) (ag st) .none kV doc pm an cdv ct),JM⟩)
  (c:x4 K cdv qual=Δ) (k:Ϩ K (.ref f)=Δ):F0 K x qual st f (xi x qual (cp st) (aJ st) (ag st) .none kV doc pm an cdv ct):=⟨⟨oc,od,kV,doc,pm,an,cdv,ct,JM,Λ,l,c⟩,k⟩
end
theorem CJ(a:Fj k A):A.units+1<ŷ:=ß (T3 (by decide:1<=64) _) a.units
section
variable {X:Cx}
theorem pv(i:Nat)(a:autoParam (X.N[i]?=Α x) η)(b:Xi X.env.scope x:=by first|exact ό Λ|exact Ř (ό Λ)|exact Ř (Ř Λ))(c:autoParam ((x == ("__debug__":Str))=Ε) θ)
  (d:autoParam ((x == ("__classdict__":Str))=Ε) θ):PE X (.Name x pos) (jh i):=DO a b c d
end
theorem aH{A B:Prop}(h:B):if Ε=Δ then A else B:=by
 rw[Θ Ϟ]
 exact h
theorem aI{A B:Prop}(h:A):if Δ=Δ then A else B:=by
 rw[Ι Λ]
 exact h
theorem iq{c A B:Prop}[Decidable c](a:c->A)(b:¬c->B):if c then A else B:=by
 by_cases h:c
 ·rw[Ι h]
  exact a h
 ·rw[Θ h]
  exact b h
theorem zY{c A B:Prop}[Decidable c](a:c)(h:B):if (!decide c)=Δ then A else B:=by
 rw[Ζ a]
 exact aH h
def EU(H H':Hp):Prop:=∀b o,H b=Α o->H' b=Α o
theorem EU.refl(H:Hp):EU H H:=λ_ _ h=>h
theorem EU.trans(a:EU H H1)(b:EU H1 H2):EU H H2:=λc o h=>b c o (a c o h)
theorem EU.free(e:EU H H')(h:H' l=Option.none):H l=Option.none:=by
 cases q:H l with
 |none=>rfl
 | some o =>
  rw[e l o q]at h
  cases h
theorem EU.seq{K:Ϣ}(e:EU H H')(h:EX K H a xs):EX K H' a xs:=by
 rcases h with (h|⟨o,h⟩)|h
 ·exact .inl (.inl (e _ _ h))
 ·exact .inl (.inr ⟨o,e _ _ h⟩)
 ·exact .inr h
noncomputable def dE(cells:List (Str×Ν)):List (Str×Ľ)->List (Str×Ν)->List (Str×Ν)
 |[],acc=>acc
 |(n,k):: r,acc=>if k == .free then dE cells r ((n,(cells.lookup n).getD 0):: acc) else dE cells r acc
theorem js(h:∀y∈scope.names,y.2=.free->∃c,env.cells.lookup y.1=Α c):
  closureFor scope env=pure (dE env.cells scope.names []):=by
 unfold closureFor
 have j:∀(b:List (Str×Ľ))(acc:List (Str×Ν)),(∀y∈b,y.2=.free->∃c,env.cells.lookup y.1=Α c)->
   (forIn b acc λ(x:Str×Ľ)(p:List (Str×Ν))=>(match x with
    | (name,kind)=>if (kind == ģ)=Δ then do
      let c ← cellOf env name
      pure (ŧ ((name,c):: p))
     else pure (ŧ p):Sem (ForInStep (List (Str×Ν)))))=(pure (dE env.cells b acc):Sem (List (Str×Ν))):=by
  intro b
  induction b with
  |nil=>intro acc _;rfl
  | cons y r q =>
   intro acc l
   obtain⟨n,k⟩:=y
   rw[forIn_cons]
   by_cases g:(k == ģ)=Δ
   ·obtain⟨c,i⟩:=l (n,k) ϙ (by simpa using g)
    have s:cellOf env n=pure c:=by
     unfold cellOf
     simp only[]at i
     rw[i]
    simp only[g,if_true,s,pure_bind]
    rw[q _ λz o=>l z (ϊ _ o)]
    unfold dE
    simp only[]at i
    rw[Ι g,i]
    conv=>rhs;unfold dE
    rfl
   ·simp only[g,nF,if_false,pure_bind]
    rw[q _ λz o=>l z (ϊ _ o)]
    conv=>rhs;unfold dE
    rw[Θ g]
 exact(congrArg (λ(m:Sem (List (Str×Ν)))=>m >>=λz=>pure z) (j scope.names [] h)).trans (pure_bind _ _)
theorem gl:∀(a:List (Str×Ľ))(acc:List (Str×Ν)),(∀y∈a,y.2=.free->∃c,cells.lookup y.1=Α c)->
  (∀c,acc.lookup x=Α c->cells.lookup x=Α c)->(dE cells a acc).lookup x=Α c->cells.lookup x=Α c
 |[],acc,_,ha,e=>ha c e
 | (n,k):: r,acc,hn,ha,e=>by
  unfold dE at e
  have d:=λz g=>hn z (ϊ _ g)
  split at e
  ·rename_i hk
   refine gl r _ d (λh b=>?_) e
   rw[Ē]at b
   split at b
   ·rename_i hx
    have i:x=n:=by simpa using hx
    subst i
    obtain⟨j,f⟩:=hn (x,k) ϙ (by simpa using hk)
    simp only[]at f
    rw[f]at b⊢
    exact b
   ·exact ha h b
  ·exact gl r acc d ha e
theorem ik:∀(a:List (Str×Ľ))(acc:List (Str×Ν)),((x,ģ)∈a∨∃c,acc.lookup x=Α c)->
  ∃c,(dE cells a acc).lookup x=Α c
 | [],acc,h=>by
  rcases h with h|h
  ·cases h
  ·exact h
 | (n,k):: r,acc,h=>by
  unfold dE
  split
  ·rename_i hk
   refine ik r _ ?_
   rcases h with h|⟨c,h⟩
   ·rcases ύ.mp h with h|h
    ·refine .inr ⟨(cells.lookup n).getD 0,?_⟩
     injection h with b d
     rw[Ē,b]
     simp
    ·exact .inl h
   ·refine .inr ?_
    rw[Ē]
    split
    ·exact⟨_,Λ⟩
    ·exact⟨c,h⟩
  ·rename_i hk
   refine ik r _ ?_
   rcases h with h|h
   ·rcases ύ.mp h with h|h
    ·injection h with b d
     subst d
     exact Κ Λ hk
    ·exact .inl h
   ·exact .inr h
theorem jQ{b:Env}{x:Str}:∀{a:List (Str×Ľ)},a.lookup x=Α .free->
  (a.map λ(n,k)=>if (k == ģ&& b.scope.kind == .function&& b.kindOf n == Α .cell) then (n,E2) else (n,k)).lookup x=Α .cell∨
  (a.map λ(n,k)=>if (k == ģ&& b.scope.kind == .function&& b.kindOf n == Α .cell) then (n,E2) else (n,k)).lookup x=Α .free
 |[],h=>by simp at h
 | (n,k):: r,h=>by
  have d:=@jQ b x r
  rw[ϳ]
  cases c:x == n with
  | true =>
   rw[Ē,c]at h
   cases h
   simp only[]
   split
   ·left;rw[Ē,c]
   ·right;rw[Ē,c]
  | false =>
   rw[Ē,c]at h
   simp only[]
   split
   ·rw[Ē,c];exact d h
   ·rw[Ē,c];exact d h
theorem i8{b:Env}{x:Str}{k:Ľ}(d:k=.cell∨k=.free):∀{a:List (Str×Ľ)},(∀y∈a,y.2≠.cell)->
  (a.map λ(n,k)=>if (k == ģ&& b.scope.kind == .function&& b.kindOf n == Α .cell) then (n,E2) else (n,k)).lookup x=Α k->(x,ģ)∈a
 |[],_,h=>by simp at h
 | (n,k'):: r,hc,h=>by
  have f:=@i8 b x k d r λy i=>hc y (ϊ _ i)
  rw[ϳ]at h
  simp only[]at h
  cases c:x == n with
  | true =>
   have e:x=n:=by simpa using c
   subst e
   split at h
   ·rename_i q
    have j:k'=.free:=by
     have:=(ϫ _ _▸q:_/\_).1
     have:=(ϫ _ _▸this:_/\_).1
     simpa using this
    rw[j]
    exact ϙ
   ·rw[Ē,c]at h
    have g:=ϥ h
    rcases d with z|z
    ·exact Κ (g.trans z) (hc (x,k') ϙ)
    ·rw[g,z];exact ϙ
  | false =>
   split at h
   ·rw[Ē,c]at h;exact ϊ _ (f h)
   ·rw[Ē,c]at h;exact ϊ _ (f h)
section
variable {prog:Program}{w:À}{A:é}{R:Result->Ω->Prop}{s:Ω}
abbrev qi(ifs:List Expr)(env:Env):Sem Bool:=
 forIn ifs Δ λc r=>if r=Δ then do let ok ← isTrue c env (eval c env);pure (ŧ ok) else pure (ŧ r)
theorem sX(I:Nat->Ω->Prop)
  (a:∀n s,I n s->ϩ (Ϧ prog w) A (pyNext it) (λr b=>match r with
   |none=>R (.ok .next) b
   | some v=>ϩ (Ϧ prog w) A (Ń tg it v) (λ_ d=>ϩ (Ϧ prog w) A (assign tg env v) (λ_ f =>
     ϩ (Ϧ prog w) A (qi ifs env) (λok c =>
      if ok=Δ then ϩ (Ϧ prog w) A (eval elt env) (λx g =>
       ϩ (Ϧ prog w) A (call (.builtin "list.append") [acc,x]) (λ_ i=>∃m,m<n/\I m i) (λ_ _=>False) g) (λ_ _=>False) c
      else ∃m,m<n/\I m c) (λ_ _=>False) f) (λ_ _=>False) d) (λ_ _=>False) b) (λ_ _=>False) s)
  (n:Nat) (h:I n s):Š (Ϧ prog w) A (.compLoop (.ListComp elt [⟨tg,iter,ifs,0⟩] scope pos) 0 it acc env) R s:=by
 refine codeAny_loop Λ I (λn s o=>?_) n h
 have no:∀{p:Ο->Ω->Prop}(e:Ο)(q:Ω),False->p e q:=λ_ _ z=>z.elim
 show ϩ _ A (Sem.onRaise (compTurn (.ListComp elt [⟨tg,iter,ifs,0⟩] scope pos) 0 it acc env) λx=>do
  noteFrame x env
  theTreesLotGoes x) _ _ s
 refine wpAny_noted ?_
 rw[compTurn_list]
 refine Ρ (Đ (Ρ (Ë (a n s o) (λr b j=>?_) no)))
 cases r with
 |none=>exact Ϥ j
 | some v =>
  refine Ρ (Ë j (λ_ d t=>?_) no)
  refine Ρ (Ë t (λ_ f u=>?_) no)
  refine Ρ (Ë u (λok c l=>?_) no)
  cases ok with
  |false=>exact Ϥ ⟨Λ,l⟩
  | true =>
   refine Ρ (Ρ (Ë l (λx g y=>?_) no))
   exact Ρ (Ë y (λ_ i B=>Ϥ (Ϥ ⟨Λ,B⟩)) no)
end
def Rm(X:Cx)(ifs:List Expr)(t:TT):Prop:=
 ∀(ν:List (Ν×Obj))(s:Ω)(σ:St)(H:Hp)(Q:Bool->Hp->Prop),ς X ν σ H s->t σ H Q->ϩ (Ϧ X.prog X.w) X.A (qi ifs X.env) (TP X ν σ Q) X.xe s
def tU:TT:=λ_ H Q=>Q Δ H
theorem bB:Rm X [] tU:=λ_ _ _ H _ I h=>Ϥ ⟨H,I,h⟩
theorem cU(h:PT X c t):Rm X [c] t:=λa s d H Q I e=>by
 simp only[qi,forIn_cons,List.forIn_nil,if_true]
 exact Ρ (Ρ (bq (h a s d H Q I e) λb g f=>Ϥ (Ϥ f)))
structure FQ(N:List Str)(sc scope:Scope)(capN:List Str)(cap:List Nat):Prop where
 kind:scope.kind=.function
 JX:∀y∈scope.names,y.2≠.cell
 loc:∀y∈scope.names,y.2=.local->scope.names.lookup y.1=Α .local
 free:∀y∈scope.names,y.2=.free->sc.names.lookup y.1=Α .cell∨sc.names.lookup y.1=Α .free
 len:cap.length=capN.length
 cap:∀p∈capN.zip cap,scope.names.lookup p.1=Α .free/\N[p.2]?=Α p.1
abbrev cS(X:Cx)(scope:Scope)(N:List Str)(C:Ν)(s:Ω)(H:Hp)(fp:List Ν):Cx:=
 {X with N:=N,s₀:=s,H₀:=H,env:=compEnvC scope (dE X.env.cells scope.names []) C X.env,outer:=X.stack,stack:=X.stack,ex:=fp,fn:=λ_=>Ε,pn:=[],xe:=λ_ _=>False}
noncomputable def lz(n:Nat)(cap:List Nat)(σ:St):St:=è n Β++cap.map λj=>(σ[j]?).join
theorem tf(n:Nat)(a:List Nat)(b:St):(lz n a b).length=n+a.length:=by simp[lz]
section
variable {X:Cx}{ν:List (Ν×Obj)}{σ:St}{H:Hp}{s:Ω}{scope:Scope}{own capN:List Str}{cap:List Nat}{fp:List Ν}
theorem FQ.Ox(B:FQ X.N X.env.scope scope capN cap)(ok:X.Ok):∀y∈scope.names,y.2=.free->∃c,X.env.cells.lookup y.1=Α c:=λy a b=>ok.has y.1 (B.free y a b)
theorem FQ.cell(B:FQ X.N X.env.scope scope capN cap)(ok:X.Ok)(h:(dE X.env.cells scope.names []).lookup x=Α c):X.env.cells.lookup x=Α c:=
 gl scope.names [] (B.Ox ok) (λ_ e=>by cases e) h
theorem FQ.locs(I:ς X ν σ H s)(B:FQ X.N X.env.scope scope capN cap)(k:∀x c v,X.env.cells.lookup x=Α c->s.heap.IsCell c v->h'.IsCell c v)(C:Ν)(t:Str->Option Ο):
  ∀(i:Nat)(x:Str)(v:V),(own++capN)[i]?=Α x->(lz own.length cap σ)[i]?=Α (Α v)->∃u,RelV v u/\Look (compEnvC scope (dE X.env.cells scope.names []) C X.env) h' t x u:=by
 intro i x v w a
 have n:own.length<=i:=by
  by_cases q:own.length<=i
  ·exact q
  ·unfold lz at a
   rw[Õ (by simp;omega),Ow,Ι (by omega)]at a
   cases a
 have g:capN[i - own.length]?=Α x:=by
  rwa [â n]at w
 unfold lz at a
 rw[â (by simpa using n),Ŕ,Ç]at a
 cases h:cap[i - own.length]? with
 |none=>rw[h]at a;cases a
 | some j =>
  rw[h]at a
  have e:(σ[j]?).join=Α v:=ϥ a
  have l:σ[j]?=Α (Α v):=by
   cases q:σ[j]? with
   |none=>rw[q]at e;cases e
   |some u=>rw[q]at e;exact congrArg Α e
  have y:(x,j)∈capN.zip cap:=by
   refine Qd.mpr ⟨i - own.length,?_⟩
   rw[List.getElem?_zip_eq_some]
   exact⟨g,h⟩
  obtain⟨o,A⟩:=B.cap (x,j) y
  have b:=PySem.mem_of_lookup o
  have p:=B.free _ b Λ
  obtain⟨m,G,D⟩:=I.loc
  obtain⟨u,E,lk⟩:=D j x v A l (p.elim (λz =>.inr (.inl z)) λz =>.inr (.inr z))
  refine⟨u,E,.inr ⟨jQ o,?_⟩⟩
  rcases lk with ⟨q,_⟩|⟨_,c,r,F⟩
  ·have f:X.env.scope.names.lookup x=Α .local:=q
   rcases p with z|z
   ·rw[z]at f;cases f
   ·rw[z]at f;cases f
  ·obtain⟨J,d⟩:=ik (cells:=X.env.cells) (x:=x) scope.names [] (.inl b)
   have:=B.cell I.ok d
   rw[r]at this
   cases this
   exact⟨c,d,k x c _ r F⟩
theorem ς.blk{C:Ν}(I:ς X ν σ H s)(B:FQ X.N X.env.scope scope capN cap)(f:s.heap.objs.size<=C)(k:∀b o,s.heap.get? b=Α o->h4.get? b=Α o)
  (l:h4.Ns C m0) (g:∀b∈fp,jm X ν H b) (m:∀b∈fp,b<s.heap.objs.size):
  ς (cS X scope (own++capN) C s H fp) [] (lz own.length cap σ) H {s with heap:=h4,toks:=tk}:=by
 have n:∀b∈fp,b∉oE X.stack:=λb a z=>by
  obtain⟨_,r,t,_⟩:=g b a
  rcases ύ.mp (I.HG b z) with e|e
  ·exact r e
  ·exact t e
 have d:∀x,((relabel scope X.env).names.lookup x=Α .cell∨(relabel scope X.env).names.lookup x=Α .free)->(x,ģ)∈scope.names:=λx h=>by
  rcases h with q|q
  ·exact i8 (.inl Λ) B.JX q
  ·exact i8 (.inr Λ) B.JX q
 refine⟨⟨I.ok.mod,B.kind,I.ok.glob,I.ok.blt,f,λx y c u w=>I.ok.inj x y c (B.cell I.ok u) (B.cell I.ok w),λx h=>ik scope.names [] (.inl (d x h)),λ_ _ z=>Κ z Ϟ,I.ok.hd,I.ok.frames,.inl Λ,
  λb a=>⟨Þ (Ϗ (m b a) f),λx c e=>(g b a).2.2.2.2.1 x c (B.cell I.ok e)⟩,I.bs,ώ I.ok.LV I.sz,λb o e a=>?_,λb a=>n b a,I.stack,I.IT⟩,
  rfl,I.bare,Un.kept k,⟨m0,l,λi x v A D _=>B.locs I (λ_ _ _ _ q=>q.keeps k) C m0 i x v A D⟩,λx c e=>?_,I.Fi.fresh f,λx c e=>I.FC x c (B.cell I.ok e),λp E=>Κ (E) (by simp),I.Fi.kept k,?_⟩
 ·rcases (g b a).2.2.2.1 with z|z
  ·exact I.ok.K1 b o e z
  ·exact Κ (Ϗ (lt_size e) (ώ I.ok.LV z)) (Ŧ _)
 ·obtain⟨v,q⟩:=I.cell x c (B.cell I.ok e)
  exact⟨v,q.keeps k⟩
 ·show(lz own.length cap σ).length=(own++capN).length
  rw[tf,Ξ,B.len]
theorem ς.reset{a:St}(I:ς X ν σ H s)(B:FQ X.N X.env.scope scope capN cap)(f:∀b∈fp,jm X ν H b)(J:ς (cS X scope (own++capN) C s H fp) Jm a H' s'):
  ς (cS X scope (own++capN) C s H fp) Jm (lz own.length cap σ) H' s':=by
 obtain⟨m,g,_⟩:=J.loc
 refine⟨J.ok,J.os,J.bare,J.μ,⟨m,g,λi x v h j _=>?_⟩,J.cell,J.free,J.FC,J.pin,J.Fi,?_⟩
 ·refine B.locs I (λy c r d l=>?_) C m i x v h j
  obtain⟨o,n,p⟩:=l
  have q:=λz=>(f c z).2.2.2.2.1 y c d Λ
  obtain⟨t,e⟩:=J.μ.any n (I.FC y c d) q
  exact⟨_,e,p⟩
 ·show(lz own.length cap σ).length=(own++capN).length
  rw[tf,Ξ,B.len]
theorem ς.adopt(I:ς X ν σ H s)(g:H D=Β)(h:X.s₀.heap.objs.size<=D)(i:D≠X.env.locals)(j:∀x c,X.env.cells.lookup x=Α c->c≠D)(l:∀p∈X.pn++ν,p.1≠D)
  (new:Fv X.prog X.w (ο H D o) s.heap D o):ς X ν σ (ο H D o) s:=by
 have ne:∀b u,H b=Α u->b≠D:=λb u e=>ai e g
 refine⟨I.ok,I.os,I.bare,⟨I.μ.keep,I.μ.slot,λb a e n m=>?_,I.μ.there,λb xs e=>?_,λb a u e=>?_,λb t e=>?_⟩,I.loc,I.cell,?_,λx c e=>?_,λp d=>?_,λb u e=>?_,I.len⟩
 ·rw[af (Þ (Ϗ (lt_size e) h))]
  exact I.μ.free b a e n m
 ·have q:=I.μ.HQ b xs e
  rw[af (ne b _ q)];exact q
 ·have q:=I.μ.HF b a u e
  rw[af (ne b _ q)];exact q
 ·obtain⟨more,q⟩:=I.μ.HR b t e
  exact⟨more,by rw[af (ne b _ q)];exact q⟩
 ·rw[af (ϧ i)];exact I.free
 ·rw[af (j x c e)];exact I.FC x c e
 ·obtain⟨e,n,r⟩:=I.pin p d
  exact⟨e,by rw[af (l p d)];exact n,r⟩
 ·by_cases f:b=D
  ·subst f;rw[ET]at e;cases e;exact new
  ·rw[af f]at e
   exact(I.Fi b u e).Ho (λ_ _ _ q=>q) (λc q=>by rw[af (ne c _ q)];exact q) λc xs q=>by rw[af (ne c _ q)];exact q
end
def ge(J:It)(g:TG)(tt:TT)(te:TE)(σ0:St)(Q:VK)(H1:Hp):Prop:=∃W:Nat->Nat->List V->Hp->Prop,(∃m,W 0 m [] H1)/\∀i m acc H,W i m acc H->
 acc.length<Τ/\((J.stop i H/\∀D,H D=Β->Q (.ref D) (ο H D (.π acc)))∨(J.go i H/\∃N:List V->Hp->Prop,(∀FR H',N FR H'->∃m',m'< m/\W (i+1) m' FR H')/\
  ∀x H',J.LW i H x H'->g x σ0 H' λσ2 H2=>tt σ2 H2 λb H3=>if b=Δ then te σ2 H3 λy H4=>N (acc++[y]) H4 else N acc H3))
def C1(wi:TI)(g:TG)(tt:TT)(te:TE)(n:Nat)(cap:List Nat):TE:=λσ H Q=>wi σ H λJ H1=>ge J g tt te (lz n cap σ) Q H1
section
variable {X:Cx}{tg iter elt:Expr}{ifs:List Expr}{scope:Scope}{pos:Pos}{wi:TI}{g:TG}{tt:TT}{te:TE}{own capN:List Str}{cap:List Nat}
abbrev qQ(Fe:List Ο)(k:Nat):Obj:={cls:=.type "list",data:=.seq Fe.toArray k}
theorem sU{O:St}{Q:VK}(B:FQ X.N X.env.scope scope capN cap)(hc:X.calm=Δ)
  (d:∀(C:Ν)(s:Ω)(H:Hp)(a:List Ν),PG (cS X scope (own++capN) C s H a) tg g/\Rm (cS X scope (own++capN) C s H a) ifs tt/\PE (cS X scope (own++capN) C s H a) elt te)
  (I:ς X ν O H s) (T:tw X.prog X.w X.K tg J a it tn) (st:tn 0 s.heap) (P:∀b∈a,jm X ν H b) {W:Nat->Nat->List V->Hp->Prop} (w0:W 0 m0 [] H)
  (turn:∀i m acc H,W i m acc H->acc.length<Τ/\((J.stop i H/\∀D,H D=Β->Q (.ref D) (ο H D (.π acc)))∨(J.go i H/\∃N:List V->Hp->Prop,(∀FR f,N FR f->∃Z,Z<m/\W (i+1) Z FR f)/\
   ∀x f,J.LW i H x f->g x (lz own.length cap O) f λσ2 j=>tt σ2 j λb H3=>if b=Δ then te σ2 H3 λy H4=>N (acc++[y]) H4 else N acc H3)))
  {RR:Ο->Ν->Result->Ω->Prop}
  (fin:∀(D C:Ν)(f:Hp)(s':Ω),Q (.ref D) f->ς X ν O f s'->(∃m,s'.heap.Ns C m)->f C=Β->C≠X.env.locals->X.s₀.heap.objs.size<=C->(∀x c,X.env.cells.lookup x=Α c->c≠C)->(∀p∈X.pn++ν,p.1≠C)->
   RR (.ref D) C (.ok .next) s'):
  ϩ (Ϧ X.prog X.w) X.A (newList []) (λacc s3=>ϩ (Ϧ X.prog X.w) X.A (newFunctionEnv scope X.env.globals (dE X.env.cells scope.names []) [] X.env.qual Β .none (Α X.env)) (λRn s4 =>
   Š (Ϧ X.prog X.w) X.A (.compStart (.ListComp elt [⟨tg,iter,ifs,0⟩] scope pos) 0 (.ref it) acc {Rn with scope:=relabel scope X.env}) (RR acc Rn.locals) s4) X.xe s3) X.xe s:=by
 refine Ŵ (wpAny_newFunctionEnv B.JX (by intro y hy;simp at hy) (λh1 Jg Nu=>?_) B.kind)
 dsimp only at Jg Nu⊢
 generalize Oy:s.heap.push {cls:=.type "list",dict:=Β,data:=.seq ([]:List Ο).toArray}=j at Jg Nu⊢
 have hCs:j.objs.size=s.heap.objs.size+1:=by rw[←Oy,size_push]
 have R:s.heap.objs.size<=j.objs.size:=by omega
 have M5:∀b∈a,b<s.heap.objs.size:=λb d=>by
  obtain⟨o,e,_⟩:=T.obj 0 s.heap st b d
  exact lt_size e
 have S:=λb o e =>
  Nu.extBut b o (Þ (Ϗ (lt_size e) R)) (Υ _ (Oy▸Υ _ e))
 have Vw:s.heap.objs.size≠j.objs.size:=by omega
 have XN:=Nu.extBut _ _ Vw (Υ _ (Oy▸ϣ _ Λ))
 have I4:ς (cS X scope (own++capN) j.objs.size s H a) [] (lz own.length cap O) H {s with heap:=h1,toks:=s.toks+([]:List (Str×Ο)).length}:=I.blk (own:=own) B R S Jg P M5
 have XJ:∀b∈a,b∉oE X.stack:=λb d z=>by
  obtain⟨_,f1,f2,_⟩:=P b d
  rcases ύ.mp (I.HG b z) with e|e
  ·exact f1 e
  ·exact f2 e
 have M6:∀b∈oE X.stack,b<s.heap.objs.size:=λb d=>by
  obtain⟨_,o,ho,_⟩:=I.stack.mem d
  exact lt_size ho
 have JZ:∀x c,X.env.cells.lookup x=Α c->c<s.heap.objs.size:=λx c e=>by
  obtain⟨v,q⟩:=I.cell x c e
  exact q.lt
 have Nv:∀(f:Hp)(h':ò)(h:List Ο)(k:Nat),f s.heap.objs.size=Β->h'.get? s.heap.objs.size=Α (qQ h k)->
   ∀p∈[(s.heap.objs.size,qQ h k)],h'.get? p.1=Α p.2/\f p.1=Β/\p.1≠(cS X scope (own++capN) j.objs.size s H a).env.locals/\p.1∉(cS X scope (own++capN) j.objs.size s H a).fs/\∀v,p.2.data≠.cell v:=λf h' h k hn he p l=>by
  have e:p=(s.heap.objs.size,qQ h k):=by simpa using l
  subst e
  exact⟨he,hn,Vw,λz=>Κ (M6 _ z) (Ŧ _),λv z=>by cases z⟩
 have F:∀(f:Hp)(h:List Ο)(k:Nat),(∀b∈a,f b=Β)->∀b∈a,jm (cS X scope (own++capN) j.objs.size s H a) [(s.heap.objs.size,qQ h k)] f b:=λf h k hn b d =>
  ⟨hn b d,Þ (Ϗ (M5 b d) R),XJ b d,.inl d,λx c e=>(P b d).2.2.2.2.1 x c (B.cell I.ok e),λp l=>by
   have e:p=(s.heap.objs.size,qQ h k):=by simpa using l
   subst e
   exact ŭ (M5 b d)⟩
 have M:∀s3:Ω,s3={s with heap:=h1,toks:=s.toks+([]:List (Str×Ο)).length}->
   Š (Ϧ X.prog X.w) X.A (.compLoop (.ListComp elt [⟨tg,iter,ifs,0⟩] scope pos) 0 (.ref it) (.ref s.heap.objs.size) (compEnvC scope (dE X.env.cells scope.names []) j.objs.size X.env))
    (RR (.ref s.heap.objs.size) j.objs.size) s3:=by
  rintro s3 rfl
  refine sX (λn s'=>∃i acc h k f,ς (cS X scope (own++capN) j.objs.size s H a) [(s.heap.objs.size,qQ h k)] (lz own.length cap O) f s'/\tn i s'.heap/\(∀b∈a,f b=Β)/\τ acc h/\W i n acc f) ?_ m0
   ⟨0,[],[],0,H,I4.GQ (Nv _ _ _ _ (I.Fi.fresh (ϛ _)) XN),T.keep 0 s.heap h1 st λb _ o e=>S b o e,λb d=>(P b d).1,.nil,w0⟩
  rintro n s5 ⟨i,acc,h,k,U,I5,PU,Vt,rv,w5⟩
  obtain⟨hsz,Lq⟩:=turn i n acc U w5
  obtain⟨hgt,Lr,XO⟩:=d j.objs.size s H a
  rcases Lq with ⟨stop,q⟩|⟨go,N,hN,step⟩
  ·refine bq (T.done (cS X scope (own++capN) j.objs.size s H a) Λ Λ Λ hc i _ s5 _ U _ I5 (F U h k Vt) PU stop) λr s6 G=>?_
   obtain⟨hr,Y⟩:=G
   subst hr
   obtain⟨hD,M7,_⟩:=Y.pin (s.heap.objs.size,qQ h k) (by simp)
   have J1:=I.Nt (s':=s6) (ch:=a) Y.os Y.μ Y.Fi Y.bare λb d=>by
    obtain⟨_,f1,_,f3,f4,f5⟩:=P b d
    exact⟨f3,f1,f4,f5⟩
   have J2:ς X ν O (ο U s.heap.objs.size (.π acc)) s6:=J1.adopt M7 I.sz (ŭ I.lt) (λx c e=>Þ (JZ x c e)) (λp l=>Þ (lt_size (I.pin p l).1)) ⟨Yi hsz,h,k,rv,hD⟩
   obtain⟨mC,Qb,_⟩:=Y.loc
   refine fin _ _ _ s6 (q _ M7) J2 ⟨mC,Qb⟩ (by rw[af (ϧ Vw)];exact Y.free) (ŭ (Ϗ I.lt R)) (ώ I.sz R) (λx c e=>Þ (Ϗ (JZ x c e) R)) λp l =>
    Þ (Ϗ (lt_size (I.pin p l).1) R)
  ·refine bq (T.item (cS X scope (own++capN) j.objs.size s H a) Λ Λ Λ hc i _ s5 _ U _ I5 (F U h k Vt) PU go) λr s6 G=>?_
   obtain⟨u,hr,h6⟩:=G
   subst hr
   refine bq h6 λ_ s7 G=>?_
   obtain⟨x,H7,I7,r7,y7,XS,fr7⟩:=G
   have I7':=I7.pinned (F H7 h k fr7) (T.obj _ _ XS)
   refine bq (hgt _ s7 _ H7 x u _ I7' r7 (step x H7 y7)) λ_ s8 G=>?_
   obtain⟨t,H8,I8,q8⟩:=G
   refine bq (Lr _ s8 t H8 _ I8 q8) λb s9 G=>?_
   obtain⟨H9,I9,q9⟩:=G
   have itk:∀{f:Hp}{s':Ω}{σ':St},ς (cS X scope (own++capN) j.objs.size s H a) (gY a s7.heap) σ' f s'->tn (i+1) s'.heap/\∀b∈a,f b=Β:=λ{f s' σ'} K=>by
    refine⟨T.keep _ _ _ XS λb d o e=>(K.pin (b,o) (ia d e)).1,λb d=>?_⟩
    obtain⟨o,e,_⟩:=T.obj _ _ XS b d
    exact(K.pin (b,o) (ia d e)).2.1
   cases b with
   | false =>
    rw[Θ Ϟ]
    obtain⟨Z,hm,w9⟩:=hN acc H9 (by simpa using q9)
    have K9:=I9.GQ λp l=>I9.pin p (Å _ (Å _ l))
    obtain⟨t9,f9⟩:=itk K9
    exact⟨Z,hm,i+1,acc,h,k,H9,I.reset B P I9.Ht,t9,f9,rv,w9⟩
   | true =>
    rw[Ι Λ]
    have q9':te t H9 λy H4=>N (acc++[y]) H4:=by simpa using q9
    refine bq (XO _ s9 t H9 _ I9 q9') λyv Kn G=>?_
    obtain⟨y,Ko,XT,r10,q10⟩:=G
    obtain⟨hD,M7,_⟩:=XT.pin (s.heap.objs.size,qQ h k) (by simp)
    have hlen:=rv.length
    refine wpAny_list_append_plain ⟨k,hD⟩ (λh' FJ Oz=>?_) (by rw[Ϯ];omega)
    obtain⟨k',hD'⟩:=FJ
    obtain⟨Z,hm,w10⟩:=hN (acc++[y]) Ko q10
    have K10:=XT.GQ λp l=>XT.pin p (Å _ (Å _ l))
    have K11:=K10.turned (t':=Kn.toks) (it:=s.heap.objs.size) (λb o d e=>(Oz.2 b d).trans e) M7 Vw (.inr (ϛ _))
     (λx c e=>Þ (JZ x c (B.cell I.ok e))) λp l=>by
      obtain⟨d,_⟩:=pD (l)
      exact Þ (M5 p.1 d)
    obtain⟨t11,Vx⟩:=itk K11
    refine⟨Z,hm,i+1,acc++[y],h++[yv],k',Ko,?_,t11,Vx,rv.append (.cons r10 .nil),w10⟩
    refine I.reset B P (K11.GQ (Nv _ _ _ _ M7 ?_))
    show h'.get? s.heap.objs.size=Α {cls:=.type "list",data:=.seq (h++[yv]).toArray k'}
    rw[show(h++[yv]).toArray=h.toArray.push yv by simp]
    exact hD'
 exact codeAny_compStart_list (M _ Λ) (T.self X.A 0 _ _ _ (T.keep 0 s.heap h1 st λb _ o e=>S b o e) (M _ Λ))
theorem aV(B:FQ X.N X.env.scope scope capN cap)(j:X.calm=Δ)(l:PI X tg iter wi)
  (f:∀(C:Ν)(s:Ω)(H:Hp)(d:List Ν),PG (cS X scope (own++capN) C s H d) tg g/\Rm (cS X scope (own++capN) C s H d) ifs tt/\PE (cS X scope (own++capN) C s H d) elt te)
  (m:autoParam (∀x,GI iter X.env x=pure x) ψ):PE X (.ListComp elt [⟨tg,iter,ifs,0⟩] scope pos) (C1 wi g tt te own.length cap):=by
 intro a s i H Q I h
 rw[eval_ListComp]
 refine Ri (use:=Β) Λ m (js (B.Ox I.ok)) B.kind B.loc (bq (l a s i H _ I h) λv U n=>bq n λY Z p=>?_)
 obtain⟨it,d,tn,J,H2,e,r,T,t,u,W,⟨m0,y⟩,c⟩:=p
 subst e
 refine sU (own:=own) B j f r T t u y c (RR:=λacc C=>compPost (Ϧ X.prog X.w) X.A X.xe Β (EP X a i Q) acc C) λD C z E q F ⟨G,K⟩ L M O P R=>?_
 refine⟨G,K,λh' S=>⟨.ref D,z,?_,Λ,q⟩⟩
 exact F.turned (t':=E.toks) (it:=C) (λb o f e=>(S.2 b f).trans e) L M (.inr O) P R
theorem dM(B:FQ X.N X.env.scope scope capN cap)(E:X.calm=Δ)(F:X.N.Nodup)(G:X.N[i]?=Α x)(r:X.env.scope.names.lookup x=Α .local)(K:PI X tg iter wi)
  (l:∀(C:Ν)(s:Ω)(H:Hp)(j:List Ν),PG (cS X scope (own++capN) C s H j) tg g/\Rm (cS X scope (own++capN) C s H j) ifs tt/\PE (cS X scope (own++capN) C s H j) elt te)
  (m:autoParam (ĺ (.ListComp elt [⟨tg,iter,ifs,0⟩] scope pos) (Α (.Name x px)) Rp.line X.env=pure Δ) η)
  (L:autoParam (∀x,GI iter X.env x=pure x) ψ):PS X (.Assign [.Name x px] (.ListComp elt [⟨tg,iter,ifs,0⟩] scope pos) Rp) (AW (C1 wi g tt te own.length cap) (ci i)):=by
 intro c s t H n I h
 rw[exec_Assign_Name_used _ _ _ _ m]
 refine Ρ (Đ (Ρ ?_))
 show ϩ _ X.A (do
  let _ ← comprehension (.ListComp elt [⟨tg,iter,ifs,0⟩] scope pos) scope X.env _ (newList []) Ε (eval iter X.env) (Α (assign (.Name x px) X.env))) _ _ s
 refine Ρ (Ë (Ri (use:=Α (assign (.Name x px) X.env)) (Q:=λ_ d=>SP X c n .next d) Λ L (js (B.Ox I.ok)) B.kind B.loc
  (bq (K c s t H _ I h) λv s1 M=>bq M λVr s2 O=>?_)) (λ_ d P=>Ϥ (Ϥ P)) λ_ _ e=>e)
 obtain⟨it,j,tn,J,H2,e,R,T,S,U,W,⟨m0,Y⟩,f⟩:=O
 subst e
 refine sU (own:=own) (Q:=λx Z=>ci i x t Z n.nx) B E l R T S U Y f (RR:=λacc C=>compPost (Ϧ X.prog X.w) X.A X.xe (Α (assign (.Name x px) X.env)) (λ_ d=>SP X c n .next d) acc C) λD C H' d q J2 ⟨mC,Qb⟩ fC u n2 y n4=>?_
 refine wpAny_assign_Name (p8 J2 F G (.inl r) (show RelV (.ref D) (.ref D) from Λ) (λLm J3 Fc=>?_) (.inr r))
 obtain⟨a,Nu,ha⟩:=Fc
 have p:C≠a:=by
  rcases ha with z|z
  ·rw[z];exact u
  ·exact(y x a z).symm
 refine⟨mC,Qb.sameBut Nu p,λh' Oz=>⟨_,H',?_,q⟩⟩
 exact J3.turned (t':=Lm.toks) (it:=C) (λb o l e=>(Oz.2 b l).trans e) fC u (.inr n2) y n4
end
end L2
namespace Yd
open PySem
theorem vb(a b:Nat):Ă (a:Int) (b:Int)=((a&&& b:Nat):Int):=by
 unfold Ă
 simp
theorem fN(x:Int):ļ x= -x - 1:=by
 unfold ļ
 omega
theorem K7(a b:Nat):ek (a:Int) (b:Int)=((a|||b:Nat):Int):=by
 unfold ek
 have c:ļ (a:Int)= -(a:Int) - 1:=fN _
 have d:ļ (b:Int)= -(b:Int) - 1:=fN _
 unfold Ă
 rw[c,d]
 have e:decide (0<= -(a:Int) - 1)=Ε:=Η (by omega)
 have f:decide (0<= -(b:Int) - 1)=Ε:=Η (by omega)
 rw[e,f]
 simp only[]
 have g:ļ (-(a:Int) - 1)=a:=by rw[fN];omega
 have h:ļ (-(b:Int) - 1)=b:=by rw[fN];omega
 rw[g,h]
 simp only[Ϙ]
 rw[fN,fN]
 omega
noncomputable def FU:List Nat->Nat->Nat
 |[],s=>s
 |n:: r,s=>FU r (s|||2^n)
theorem Gz(k:Nat):∀(l:List Nat)(s:Nat),(FU l s).testBit k=(s.testBit k||decide (k∈l))
 |[],s=>by simp[FU]
 | n:: r,s=>by
  unfold FU
  rw[Gz k r]
  rw[Nat.testBit_or,Nat.testBit_two_pow]
  by_cases h:n=k
  ·subst h;simp
  ·have:¬k=n:=λz=>h z.symm
   simp[h,this]
theorem Ls(l r:List Nat)(s:Nat):FU (l++r) s=FU r (FU l s):=by
 induction l generalizing s with
 |nil=>rfl
 |cons n t a=>exact a _
noncomputable def pi(l:List Nat):Nat->Nat
 |0=>0
 |n+1=>if n∈l then pi l n+2^n else pi l n
theorem IV(l:List Nat):∀n,pi l n<2^n
 |0=>by simp[pi]
 | n+1=>by
  have:=IV l n
  unfold pi
  rw[pow_succ]
  split<;>omega
theorem sO(l:List Nat)(k:Nat):∀n,(pi l n).testBit k=decide (k<n/\k∈l)
 |0=>by simp[pi]
 | n+1=>by
  have b:=sO l k n
  have c:=IV l n
  unfold pi
  by_cases a:n∈l
  ·rw[Ι a,Nat.add_comm]
   rcases Rl k n with h|h|h
   ·rw[Nat.testBit_two_pow_add_gt h,b]
    simp[h,Nat.lt_succ_of_lt h]
   ·subst h
    rw[Nat.testBit_two_pow_add_eq,A6 c]
    simp[a]
   ·have d:2^n+pi l n<2^k:=by
     have:2^(n+1)<=2^k:=Ĥ (by decide) h
     rw[pow_succ]at this
     omega
    rw[A6 d]
    have:¬k<n+1:=by omega
    simp[this]
  ·rw[Θ a,b]
   by_cases h:k=n
   ·subst h;simp[a]
   ·have:k<n↔k<n+1:=by omega
    simp[this]
theorem M8(h:∀k∈l,k<n):pi l n=FU l 0:=by
 apply Nat.eq_of_testBit_eq
 intro k
 rw[sO,Gz]
 by_cases a:k∈l
 ·simp[a,h k a]
 ·simp[a]
noncomputable def Js(m b:Nat):List Nat:=(Ϝ b).filter λk=>m.testBit k
theorem Il(h:m<2^b):k∈Js m b↔m.testBit k=Δ:=by
 unfold Js
 rw[Ì,î]
 constructor
 ·exact λz=>z.2
 ·intro z
  refine⟨?_,z⟩
  by_cases a:k<b
  ·exact a
  ·have:m<2^k:=Ϗ h (Ĥ (by decide) (by omega))
   rw[A6 this]at z
   cases z
theorem IP(m b:Nat):(Js m b).Pairwise (· < ·):=Ť _ Jx
theorem Jt:∀{l r:List Int},l.Pairwise (· < ·)->r.Pairwise (· < ·)->(∀k,k∈l↔k∈r)->l=r
 |[],[],_,_,_=>rfl
 | [],y:: r,_,_,h=>by
  have:=(h y).mpr ϙ
  cases this
 | x:: l,[],_,_,h=>by
  have:=(h x).mp ϙ
  cases this
 | x:: l,y:: r,hl,hr,h=>by
  obtain⟨b,d⟩:=Rt.mp hl
  obtain⟨c,f⟩:=Rt.mp hr
  have e:x=y:=by
   rcases ύ.mp ((h x).mp ϙ) with z|z
   ·exact z
   ·rcases ύ.mp ((h y).mpr ϙ) with a|a
    ·exact a.symm
    ·have:=b y a
     have:=c x z
     omega
  subst e
  congr 1
  refine Jt d f λk=>?_
  constructor
  ·intro z
   rcases ύ.mp ((h k).mp (ϊ _ z)) with q|q
   ·have:=b k z;omega
   ·exact q
  ·intro z
   rcases ύ.mp ((h k).mpr (ϊ _ z)) with q|q
   ·have:=c k z;omega
   ·exact q
theorem IW(m:Nat):m<2^(Ü (m:Int)):=by
 unfold Ü
 by_cases h:m=0
 ·subst h;simp
 ·have e:((m:Int) == 0)=Ε:=by simp[h]
  rw[e]
  simp only[nF,if_false,ó]
  exact Nat.lt_log2_self
theorem bits_le{m b:Nat}(h:m<2^b):Ü (m:Int)<=b:=by
 unfold Ü
 by_cases a:m=0
 ·subst a;simp
 ·have e:((m:Int) == 0)=Ε:=by simp[a]
  rw[e]
  simp only[nF,if_false,ó]
  have:=(Nat.log2_lt a).mpr h
  omega
theorem M9(m k:Nat):decide (Ă ((m:Int) / 2^k) 1=1)=m.testBit k:=by
 have e:((m:Int) / 2^k)=((m / 2^k:Nat):Int):=by
  rw[Int.natCast_ediv,Int.natCast_pow]
  rfl
 rw[e,show (1:Int)=((1:Nat):Int) from Λ,vb,Nat.testBit_eq_decide_div_mod_eq]
 rw[Nat.and_one_is_mod]
 congr 1
 exact propext ⟨λz=>by exact_mod_cast z,λz=>by exact_mod_cast z⟩
end Yd
namespace L2
open PySem PySem.Spec PyProof.Rows
mutual
inductive mF(K:Ϣ)(H:Hp):V->ĩ->Prop
 |Fp:mF K H .Fp .none
 |bl (b:Bool):mF K H (.bl b) (.bool b)
 |int (i:Int):mF K H (.int i) (.int i)
 |str (x:Str):mF K H (.str x) (.str x)
 |π {a:Ν} {xs:List V} {ds:List ĩ}:EX K H a xs->oW K H xs ds->mF K H (.ref a) (.list ds)
 |tup {a:Ν} {xs:List V} {ds:List ĩ}:Fn K H a xs->oW K H xs ds->mF K H (.ref a) (.tuple ds)
inductive oW(K:Ϣ)(H:Hp):List V->List ĩ->Prop
 |nil:oW K H [] []
 |cons {x:V} {d:ĩ} {xs:List V} {ds:List ĩ}:mF K H x d->oW K H xs ds->oW K H (x:: xs) (d:: ds)
end
section
variable {X:Cx}{ν:List (Ν×Obj)}{σ:St}{H:Hp}{s:Ω}
mutual
theorem ς.den(I:ς X ν σ H s):∀{x:V}{d:ĩ}{u:Ο},mF X.K H x d->RelV x u->∃as,Reads s.heap u d as
 |_,_,_,.Fp,r=>by cases r;exact⟨_,.none⟩
 |_,_,_,.bl b,r=>by cases r;exact⟨_,.bool b⟩
 |_,_,_,.int i,r=>by obtain⟨t,rfl⟩:=r;exact⟨_,.int i t⟩
 |_,_,_,.str x,r=>by obtain⟨t,rfl⟩:=r;exact⟨_,.str x t⟩
 | _,_,_,.π hq hd,r=>by
  cases r
  obtain⟨Fe,rv,⟨o,n,e,hc,_,Qc⟩,_⟩:=I.list hq
  obtain⟨as,q⟩:=I.O0 hd rv
  exact⟨_,.list e hc Qc (by simpa using q)⟩
 | _,_,_,.tup hq hd,r=>by
  cases r
  obtain⟨Fe,rv,⟨o,e,hc,n,Qc⟩,_⟩:=I.tuple hq
  obtain⟨as,q⟩:=I.O0 hd rv
  exact⟨_,.tuple e hc Qc (by simpa using q)⟩
theorem ς.O0(I:ς X ν σ H s):∀{xs:List V}{ds:List ĩ}{us:List Ο},oW X.K H xs ds->τ xs us->∃as,ReadsAll s.heap us ds as
 |_,_,_,.nil,.nil=>⟨_,.nil⟩
 | _,_,_,.cons hd hr,.cons r rr=>by
  obtain⟨as,q⟩:=I.den hd r
  obtain⟨bs,q'⟩:=I.O0 hr rr
  exact⟨_,.cons q q'⟩
end
inductive Bo(K:Ϣ)(x:V)(y:V)(H:Hp)(Q:VK):Prop
 |mk (da db)(_:mF K H x da)(_:mF K H y db)(_:Ő da=Δ)(_:Ő db=Δ)(_:Q (.bl (Ĕ da db)) H)
inductive DI(K:Ϣ)(x:V)(y:V)(H:Hp)(Q:VK):Prop
 |mk (da db)(_:mF K H x da)(_:mF K H y db)(_:Ő da=Δ)(_:Ő db=Δ)(_:Q (.bl (!Ĕ da db)) H)
end
section
variable {X:Cx}
theorem qN(b:X.A.units+64<ŷ):fW X (compareOp .Eq) (Bo X.K):=by
 intro a s m H x y v u Q I c d h
 obtain⟨n,o,e,f,g,i,q⟩:=h
 obtain⟨as,j⟩:=I.den e c
 obtain⟨bs,l⟩:=I.den f d
 exact SeqAt.compareEq_shaped j l g i b ⟨.bl _,H,I,Λ,q⟩
theorem qM(b:X.A.units+64<ŷ):fW X (compareOp .NotEq) (DI X.K):=by
 intro a s m H x y v u Q I c d h
 obtain⟨n,o,e,f,g,i,q⟩:=h
 obtain⟨as,j⟩:=I.den e c
 obtain⟨bs,l⟩:=I.den f d
 exact SeqAt.compareNe_shaped j l g i b ⟨.bl _,H,I,Λ,q⟩
theorem pV{K:Ϣ}:∀a:List Int,oW K H (a.map V.int) (a.map ĩ.int)
 |[] =>.nil
 |n:: r =>.cons (.int n) (pV r)
theorem k8{K:Ϣ}{b:List Int}(h:EX K H a (b.map V.int)):mF K H (.ref a) (.list (b.map ĩ.int)):=.π h (pV b)
inductive XU(K:Ϣ)(x:V)(y:V)(H:Hp)(Q:VK):Prop
 |mk (p q:Ν)(ns ms:List Int)(_:x=.ref p)(_:y=.ref q)(_:EX K H p (ns.map V.int))(_:EX K H q (ms.map V.int))(_:Q (.bl (decide (ns=ms))) H)
inductive XY(K:Ϣ)(x:V)(y:V)(H:Hp)(Q:VK):Prop
 |mk (p q:Ν)(ns ms:List Int)(_:x=.ref p)(_:y=.ref q)(_:EX K H p (ns.map V.int))(_:EX K H q (ms.map V.int))(_:Q (.bl (!decide (ns=ms))) H)
theorem DU(b:X.A.units+64<ŷ):fW X (compareOp .Eq) (XU X.K):=by
 intro a s c H x y v u Q I d e h
 obtain⟨p,q,f,g,rfl,rfl,i,j,q⟩:=h
 refine qN b a s c H _ _ v u Q I d e ⟨_,_,k8 i,k8 j,PySem.W.shaped_ints f,PySem.W.shaped_ints g,?_⟩
 simp only[Ĕ,PySem.W.ked_eqvAll]
 exact q
theorem zc(b:X.A.units+64<ŷ):fW X (compareOp .NotEq) (XY X.K):=by
 intro a s c H x y v u Q I d e h
 obtain⟨p,q,f,g,rfl,rfl,i,j,q⟩:=h
 refine qM b a s c H _ _ v u Q I d e ⟨_,_,k8 i,k8 j,PySem.W.shaped_ints f,PySem.W.shaped_ints g,?_⟩
 simp only[Ĕ,PySem.W.ked_eqvAll]
 exact q
theorem BT:Vu X "int.bit_length" (λx xs H Q=>∃i,x=.int i/\xs=[]/\Q (.int (Ü i:Nat)) H):=by
 intro a s d H x xs v us Q I b c h
 obtain⟨i,rfl,rfl,q⟩:=h
 obtain⟨t,rfl⟩:=b
 cases c
 exact call_int_bit_length ⟨.int _,H,I.tok _,⟨_,Λ⟩,q⟩
theorem ς.same{a:St}(I:ς X ν a H s)(k:∀b o,s.heap.get? b=Α o->s'.heap.get? b=Α o)(g:s'.gens=s.gens)(c:s'.os=s.os):ς X ν a H s':=by
 obtain⟨e,h,i,f,j⟩:=s'
 simp only at k g c
 subst g
 subst c
 have J:ς X ν a H {s with heap:=e,toks:=f}:=I.kept k
 exact⟨J.ok,J.os,J.bare,J.μ,J.loc,J.cell,J.free,J.FC,J.pin,J.Fi,J.len⟩
theorem kB(E:X.calm=Δ):F5 X (.builtin "all") (λxs H Q=>∃(p:Ν)(bs:List Bool),xs=[.ref p]/\EX X.K H p (bs.map V.bl)/\Q (.bl (bs.all id)) H):=by
 intro f s F H xs us Q I r h
 obtain⟨p,bs,rfl,y,q⟩:=h
 obtain⟨u,rfl,G⟩:=jD r
 cases G
 obtain⟨d,j,l,R⟩:=I.list y
 have c:=j.length
 rw[Μ]at c
 have J:p<s.heap.objs.size:=by obtain⟨o,n,e,_⟩:=l;exact lt_size e
 have g:∀(i:Nat)(v:Ο),d.toArray[i]?=Α v->v=lr (bs.getD i Ε):=λi v m=>by
  have z:d[i]?=Α v:=by simpa using m
  have B:i<bs.length:=by rw[c];exact(gQ0 z)
  obtain⟨u,C,L⟩:=j.get (i:=i) (x:=.bl bs[i]) (by simp[B])
  rw[z]at C
  cases C
  rw[Ò,Ψ B]
  exact L
 have t:X.A.in1.handled=Β:=I.ok.hd E
 refine call_all_walkS (wpAny_pyIter_list l.isList ⟨s.heap.objs.size,[s.heap.objs.size,p],[s.heap.objs.size],λa b=>b=a,d.toArray.size,λi v=>d.toArray[i]?=Α v,_,λi=>bs.getD i Ε,Λ,
  (Walks.list t _ p (Þ J) d.toArray).toS,⟨⟨_,ϣ _ Λ,Λ,Λ⟩,l.isList.push _⟩,λi v S T U m M=>?_,λY w=>?_⟩)
 ·rw[g i v m]
  exact ð M
 ·have Z:ς X f F H {s with heap:=s.heap.push {cls:=.type "list_iterator",data:=.fields #[.ref p,.int 0 0]}}:=I.kept (t':=s.toks) λb o e=>Υ _ e
  refine⟨.bl _,H,I.same (λb o e=>w.heap b o (λN=>?_) (Υ _ e)) w.gens w.os,Λ,?_⟩
  ·have O:b=s.heap.objs.size:=by simpa using N
   exact Κ (lt_size e) (by rw[O];exact Ŧ _)
  ·have e:((Ϝ d.toArray.size).all λi=>bs.getD i Ε)=bs.all id:=by
    rw[Ϯ,←c]
    clear g c y j q
    have:(Ϝ bs.length).map (λi=>bs.getD i Ε)=bs:=by
     apply List.ext_getElem
     ·simp
     ·intro i h1 P
      simp[P]
    conv=>rhs;rw[←this]
    rw[W3]
    rfl
   rw[e]
   exact q
end
end L2
namespace L2
open PySem PySem.Spec PyProof.Rows PySem.Builtin.Str
theorem vi:∀{a:List Str}{b:List Ο},τ (a.map V.str) b->StrsAre b a
 |[],_,.nil=>by constructor
 |_:: _,_,.cons ⟨_,e⟩ r=>by subst e;constructor;exact vi r
theorem pk:∀(l:List (Str×Tok)),τ ((l.map (·.1)).map V.str) (strValues l)
 |[] =>.nil
 |(x,t):: l =>.cons ⟨t,Λ⟩ (pk l)
section
variable {X:Cx}
inductive yL(K:Ϣ)(x:V)(vs:List V)(H:Hp)(Q:VK):Prop
 |mk (sep:Str)(D:Ν)(ys:List Str)(_:x=.str sep)(_:vs=[.ref D])(_:EX K H D (ys.map V.str))(_:(ys.map (·.length)).sum+ys.length* sep.length<=16777216)(_:Q (.str (Txt.join sep ys)) H)
theorem eV:EQ X "str.join" (yL X.K):=by
 intro b s i H x j v us Q I c a h
 obtain⟨d,D,l,rfl,rfl,e,f,q⟩:=h
 obtain⟨t,rfl⟩:=c
 obtain⟨u,rfl,g⟩:=a.one
 cases g
 obtain⟨m,a,p,_⟩:=I.list e
 exact join_list p.isList (vi a) f λn k=>⟨.str _,H,I.tok _,⟨_,Λ⟩,q⟩
inductive DG(x:V)(vs:List V)(H:Hp)(Q:VK):Prop
 |mk (z y:Str)(_:x=.str z)(_:vs=[.str y])(_:(y.length == 0)=Ε)(_:z.length<=4000000)(_:(Txt.split z y).length<=1000000)(_:∀D,H D=Β->Q (.ref D) (ο H D (.π ((Txt.split z y).map V.str))))
theorem gH:EQ X "str.split" DG:=by
 intro c s m H x C v us Q I n o h
 obtain⟨z,y,rfl,rfl,g,p,i,q⟩:=h
 obtain⟨t,rfl⟩:=n
 obtain⟨u,rfl,r⟩:=o.one
 obtain⟨f,rfl⟩:=r
 have A:z.length<=Τ:=ώ p (by decide)
 have fin:∀(l:List (Str×Tok))(k:Nat),l.map (·.1)=Txt.split z y->EP X c m Q (.ref s.heap.objs.size) {s with heap:=s.heap.push {cls:=.type "list",data:=.seq (strValues l).toArray},toks:=k}:=λl k e =>
  ⟨.ref s.heap.objs.size,_,I.laid (t':=k) (λb D B=>Υ _ B) (ϛ _) (show Fv X.prog X.w _ _ _ (.π ((Txt.split z y).map V.str)) from ⟨by rw[Μ];exact ώ i (by decide),strValues l,_,by rw[←e];exact pk l,ϣ _ Λ⟩),Λ,q _ (I.Fi.fresh (ϛ _))⟩
 cases a:(decide (z.length<y.length)||decide (strKind z<strKind y))
 ·cases d:(occurrences z y 0 z.length (z.length+1)).isEmpty
  ·have e:Txt.split z y=partsBetween z (occurrences z y 0 z.length (z.length+1)) y.length:=(Θ (ne_true_of_eq_false a)).trans (Θ (ne_true_of_eq_false d))
   refine ŏ Ju (et _ _ _) A2 (u6 _ _) (meets_str_split_sep z y t f a g d A (by rw[←e];exact ώ i (by decide))) ?_
   have:=fin (numbered s.toks (partsBetween z (occurrences z y 0 z.length (z.length+1)) y.length)) (s.toks+(partsBetween z (occurrences z y 0 z.length (z.length+1)) y.length).length) ((numbered_texts _ _).trans e.symm)
   rw[←strsFrom_eq]at this
   exact this
  ·exact ŏ Ju (et _ _ _) A2 (u6 _ _) (meets_str_split_not_found z y t f a g d) (fin [(z,t)] s.toks ((Θ (ne_true_of_eq_false a)).trans (Ι d)).symm)
 ·exact ŏ Ju (et _ _ _) A2 (u6 _ _) (meets_str_split_cannot_occur z y t f a) (fin [(z,t)] s.toks (Ι a).symm)
theorem eX:F5 X (.type "int") (λxs H Q=>∃(x:Str)(n:Int),xs=[.str x]/\PySem.intText? x=Α n/\x.length<=640/\Q (.int n) H):=by
 intro a s d H xs us Q I r h
 obtain⟨x,n,rfl,b,c,q⟩:=h
 obtain⟨u,rfl,t,rfl⟩:=jD r
 exact PySem.W.KIN.call_text b c ⟨.int n,H,I.tok _,⟨_,Λ⟩,q⟩
theorem jt:F5 X (.type "str") (λxs H Q=>∃x:Str,xs=[.str x]/\Q (.str x) H):=by
 intro a s b H xs us Q I r h
 obtain⟨x,rfl,q⟩:=h
 obtain⟨u,rfl,t,rfl⟩:=jD r
 exact PySem.P.str_of_str ⟨.str x,H,I,⟨_,Λ⟩,q⟩
end
noncomputable def Ya(x:Str):It:=⟨λi _=>i<x.cps.size,λi H v H'=>H'=H/\∃c,x.cps[i]?=Α c/\v=.str ⟨#[c]⟩,λi _=>x.cps.size<=i⟩
theorem xJ{K:Ϣ}(x:Str)(t:Tok)(it:Ν):tw P w K tg (Ya x) [it] it (λi h=>h.IsStrIter it (ħ x) x t i) where
 mem:=by simp
 obj:=λi h a b j=>by
  have e:b=it:=by simpa using j
  subst e
  obtain⟨o,e,c,d⟩:=a
  exact⟨o,e,λv z=>by rw[d]at z;cases z⟩
 keep:=λi h f a k=>by
  obtain⟨o,e,r⟩:=a
  exact⟨o,k it (by simp) o e,r⟩
 item:=by
  intro X J L M N i g s O H E I y a Q
  subst J L M
  have n:=Array.getElem?_eq_getElem Q
  obtain⟨B,C,Y,D,F,G⟩:=y it (by simp)
  have T:∀f,f.IsStrIter it (ħ x) x t (i+1)->ŗ it s.heap f->∃u,(Α (Ο.str ⟨#[x.cps[i]]⟩ s.toks):Option Ο)=Α u/\ϩ (Ϧ X.prog X.w) X.A (Ń tg (.ref it) u) (λ_ U=>∃v R,ς X g O R U/\RelV v u/\(Ya x).LW i H v R/\U.heap.IsStrIter it (ħ x) x t (i+1)/\∀b∈[it],R b=Β) E {s with heap:=f,toks:=s.toks+1}:=λf p q=>by
   have Z:=I.turned (t':=s.toks+1) (λb o j e=>(q.2 b j).trans e) B C D F G
   obtain⟨o,e,c,d⟩:=id p
   refine⟨_,Λ,vM (s:={s with heap:=f,toks:=s.toks+1}) e c d ?_ ⟨.str ⟨#[x.cps[i]]⟩,H,Z,⟨_,Λ⟩,⟨Λ,_,n,Λ⟩,p,λb j=>(y b j).1⟩⟩
   unfold ħ
   split<;>decide
  by_cases m:x.cps.all (· <128)=Δ
  ·have e:ħ x="str_ascii_iterator":=Ι m
   rw[e]at a
   exact wpAny_pyNext_ascii_item a n λf p q=>T f (by rw[e];exact p) q
  ·have e:ħ x="str_iterator":=Θ m
   rw[e]at a
   exact wpAny_pyNext_wide_item a n λf p q=>T f (by rw[e];exact p) q
 done:=by
  intro X J L M N i g s O H E I y a Q
  subst J L M
  have n:=Array.getElem?_eq_none Q
  obtain⟨B,C,Y,D,F,G⟩:=y it (by simp)
  by_cases m:x.cps.all (· <128)=Δ
  ·have e:ħ x="str_ascii_iterator":=Ι m
   rw[e]at a
   exact wpAny_pyNext_ascii_end (I.ok.hd N) a n λf S=>⟨Λ,I.turned (t':=s.toks) (λb o j e=>S b o j e) B C D F G⟩
  ·have e:ħ x="str_iterator":=Θ m
   rw[e]at a
   exact wpAny_pyNext_wide_end (I.ok.hd N) a n λf S=>⟨Λ,I.turned (t':=s.toks) (λb o j e=>S b o j e) B C D F G⟩
 self:=λ_ _ _ _ _ a h=>by
  by_cases m:x.cps.all (· <128)=Δ
  ·rw[show ħ x="str_ascii_iterator" from Ι m]at a
   exact wpAny_pyIter_striter_ascii a h
  ·rw[show ħ x="str_iterator" from Θ m]at a
   exact wpAny_pyIter_striter_wide a h
section
variable {X:Cx}{tg:Expr}
inductive Uan(R:It->Hp->Prop)(x:V)(H1:Hp):Prop
 |mk (z)(_:x=.str z)(_:R (Ya z) H1)
def Yb(tl:TE):TI:=λσ H R=>tl σ H λx H1=>Uan R x H1
theorem yU(f:PE X l tl):PI X tg l (Yb tl):=by
 intro a s g H R I h
 refine bq (f a s g H _ I h) λv c i=>?_
 obtain⟨x,j,d,m,n⟩:=i
 obtain⟨z,e,q⟩:=n
 subst e
 obtain⟨t,rfl⟩:=m
 refine wpAny_pyIter_strU ?_
 refine⟨c.heap.objs.size,[c.heap.objs.size],_,_,j,Λ,d.kept (t':=c.toks) λb o e=>Υ _ e,xJ z t _,⟨_,ϣ _ Λ,Λ,Λ⟩,λb p=>?_,q⟩
 have e:b=c.heap.objs.size:=by simpa using p
 subst e
 exact d.K3 (ϛ _) (d.Fi.fresh (ϛ _))
end
end L2
namespace L2
open PySem PySem.StrLaws PySem.Builtin PySem.Builtin.Str
noncomputable def iM(c:Nat):List Nat->List (List Nat)
 |[]=>[[]]
 | a:: l=>if a=c then []:: iM c l else match iM c l with
  |[]=>[[a]]
  |p:: r=>(a:: p):: r
noncomputable def dB(c:Nat):List (List Nat)->List Nat
 |[]=>[]
 |[p]=>p
 |p:: q:: r=>p++c:: dB c (q:: r)
theorem oN(c a:Nat)(l:List Nat):iM c (a:: l)=if a=c then []:: iM c l else match iM c l with
  |[]=>[[a]]
  |p:: r=>(a:: p):: r:=rfl
theorem oM:∀{p:List Nat},c∉p->iM c p=[p]
 |[],_=>rfl
 | a:: p,h=>by
  unfold iM
  rw[Θ (λe=>h (by rw[e];exact ϙ)),oM λz=>h (ϊ _ z)]
theorem vU(l:List Nat):∀{p:List Nat},c∉p->iM c (p++c:: l)=p:: iM c l
 | [],_=>by
  show iM c (c:: l)=_
  rw[oN,Ι Λ]
 | a:: p,h=>by
  show iM c (a:: (p++c:: l))=_
  rw[oN,Θ (λe=>h (by rw[e];exact ϙ)),vU l λz=>h (ϊ _ z)]
theorem sR:∀{a:List (List Nat)},a≠[]->(∀p∈a,c∉p)->iM c (dB c a)=a
 |[],h,_=>Κ Λ h
 |[p],_,h=>oM (h p ϙ)
 | p:: q:: r,_,h=>by
  show iM c (p++c:: dB c (q:: r))=_
  rw[vU _ (h p ϙ),sR (ň _ _) λx b=>h x (ϊ _ b)]
noncomputable def jT(x:Str)(c a:Nat):List Nat:=(QW a (x.length - a)).filter λi=>decide (x.cps.toList[i]?=Α c)
theorem qO(x:Str)(c b:Nat):∀(m a:Nat)(d:Array Nat×Nat),d.snd<=a->d.fst.size+m<=b->
  (forIn (QW a m) d (occBody x ⟨#[c]⟩ x.length b)).run.fst.toList=d.fst.toList++(QW a m).filter λi=>decide (x.cps.toList[i]?=Α c)
 |0,_,d,_,_=>by simp
 | m+1,a,d,hs,hl=>by
  rw[List.range'_succ,forIn_cons]
  unfold occBody
  by_cases h:x.cps.toList[a]?=Α c
  ·have f:=(subAt_one x c a).mpr h
   rw[Ι ⟨⟨⟨by omega,hs⟩,f.1⟩,f.2⟩,ï,Ι (Ζ h)]
   have:=qO x c b m (a+1) (d.fst.push a,a+(⟨#[c]⟩:Str).length) (ϛ _) (by rw[Array.size_push];omega)
   have e:(d.fst.push a).toList=d.fst.toList++[a]:=Array.toList_push
   rw[show((d.fst.push a,a+(⟨#[c]⟩:Str).length):Array Nat×Nat).fst.toList=d.fst.toList++[a] from e,Ù]at this
   exact this
  ·rw[Θ (λz=>h ((subAt_one x c a).mp ⟨z.1.2,z.2⟩)),ï,Θ (by rw[decide_eq_true_eq];exact h)]
   exact qO x c b m (a+1) (d.fst,d.snd) (Nat.le_succ_of_le hs) (by show d.fst.size+m<=b;omega)
theorem v7(x:Str)(c:Nat):occurrences x ⟨#[c]⟩ 0 x.length (x.length+1)=jT x c 0:=by
 rw[occ_eq,qO x c _ _ 0 (#[],0) (ϛ _) (by show 0+(x.length+1 - 0)<=_;omega)]
 unfold jT
 rw[nil_append,show x.length+1 - 0=x.length - 0+1 by omega,List.range'_concat,Ú]
 have:x.cps.toList[0+1* (x.length - 0)]?=Β:=ż (by rw[Â];rw[show 0+1* (x.length - 0)=x.cps.size by show 0+1* (x.cps.size - 0)=_;omega];exact ϛ _)
 rw[ï,Θ (by rw[this,decide_eq_true_eq];exact λz=>by cases z)]
 simp
theorem jE(x:Str)(a b:Nat):(strSub x a b).cps.toList=(x.cps.toList.take b).drop a:=by
 show(x.cps.extract a b).toList=_
 rw[Ō,List.extract_eq_drop_take,List.take_drop]
 by_cases h:a<=b
 ·rw[show a+(b - a)=b by omega]
 ·rw[show b - a=0 by omega,Nat.add_zero,ĉ (by rw[Ñ];omega),ĉ (by rw[Ñ];omega)]
theorem sg(x:Str)(c:Nat):∀(k a:Nat),a+k=x.length->(partsFrom x 1 a (jT x c a)).map (λs=>s.cps.toList)=iM c (x.cps.toList.drop a)
 | 0,a,h=>by
  have e:jT x c a=[]:=by unfold jT;rw[show x.length - a=0 by omega];rfl
  rw[e]
  show [(strSub x a x.length).cps.toList]=_
  rw[jE,ĉ (by rw[Ñ];omega),ĉ (by rw[Â];show x.length<=a;omega)]
  rfl
 | k+1,a,h=>by
  have f:a<x.cps.toList.length:=by rw[Â];show a<x.length;omega
  have ed:=Ć f
  have g:=sg x c k (a+1) (by omega)
  have l:jT x c a=if x.cps.toList[a]=c then a:: jT x c (a+1) else jT x c (a+1):=by
   unfold jT
   rw[show x.length - a=(x.length - (a+1))+1 by omega,List.range'_succ,ï,Ψ f]
   by_cases e:x.cps.toList[a]=c
   ·rw[Ι e,Ι (Ζ (congrArg Α e))]
   ·rw[Θ e,Θ (by rw[decide_eq_true_eq];exact λz=>e (ϥ z))]
  rw[ed,l,oN]
  by_cases e:x.cps.toList[a]=c
  ·rw[Ι e,Ι e,←g]
   show(strSub x a a).cps.toList:: _=_
   rw[jE,ĉ (by rw[Ñ];omega)]
  ·rw[Θ e,Θ e,←g]
   have d:∀i∈jT x c (a+1),a+1<=i:=λi m=>by
    have:=List.mem_range'_1.mp (Ì.mp m).1
    omega
   have j:∀b,a+1<=b->(strSub x a b).cps.toList=x.cps.toList[a]:: (strSub x (a+1) b).cps.toList:=λb o=>by
    rw[jE,jE,Ć (by rw[Ñ];omega),List.getElem_take]
   cases n:jT x c (a+1) with
   | nil =>
    show [(strSub x a x.length).cps.toList]=[x.cps.toList[a]:: (strSub x (a+1) x.length).cps.toList]
    rw[j _ (by omega)]
   | cons i r =>
    show(strSub x a i).cps.toList:: _=(x.cps.toList[a]:: (strSub x (a+1) i).cps.toList):: _
    rw[j i (d i (by rw[n];exact ϙ))]
theorem ww(x:Str)(d:c<256):(Txt.split x ⟨#[c]⟩).map (λs=>s.cps.toList)=iM c x.cps.toList:=by
 have a:∀h:jT x c 0=jT x c 0,(partsFrom x 1 0 (jT x c 0)).map (λs=>s.cps.toList)=iM c x.cps.toList:=λ_=>by
  have:=sg x c x.length 0 (by omega)
  rw[drop_zero]at this
  exact this
 have f:c∉x.cps.toList->iM c x.cps.toList=[x.cps.toList]:=λh=>oM h
 unfold Txt.split
 split
 ·rename_i h
  by_cases b:c∈x.cps.toList
  ·exfalso
   rw[Bool.or_eq_true,decide_eq_true_eq,decide_eq_true_eq]at h
   rcases h with h|h
   ·have h:x.cps.size<1:=h
    have:=List.length_pos_of_mem b
    rw[Â]at this
    omega
   ·have e:PySem.Builtin.Str.strKind ⟨#[c]⟩=1:=by
     unfold PySem.Builtin.Str.strKind
     rw[Ι]
     simp[d]
    rw[e]at h
    unfold PySem.Builtin.Str.strKind at h
    split at h
    ·omega
    ·split at h<;>omega
  ·rw[f b];rfl
 ·split
  ·rename_i h
   rw[v7,YE]at h
   have:=a Λ
   rw[h]at this
   rw[←this]
   show [x.cps.toList]=[(strSub x 0 x.length).cps.toList]
   rw[sub_whole]
  ·rw[partsBetween_eq,v7]
   exact a Λ
theorem lq(c:Nat):∀a:List Str,(ĭ ⟨#[c]⟩ a).cps.toList=dB c (a.map λs=>s.cps.toList)
 |[]=>rfl
 |[y]=>rfl
 | y:: z:: r=>by
  show(y++⟨#[c]⟩++ĭ ⟨#[c]⟩ (z:: r)).cps.toList=y.cps.toList++c:: dB c ((z:: r).map λs=>s.cps.toList)
  rw[←lq c (z:: r)]
  show((y.cps++#[c])++(ĭ ⟨#[c]⟩ (z:: r)).cps).toList=_
  rw[ć,ć,Ù]
  rfl
theorem cC(f:c<256)(g:ys≠[])(i:∀y∈ys,c∉y.cps.toList):Txt.split (Txt.join ⟨#[c]⟩ ys) ⟨#[c]⟩=ys:=by
 have d:=ww (Txt.join ⟨#[c]⟩ ys) f
 have e:(Txt.join ⟨#[c]⟩ ys)=ĭ ⟨#[c]⟩ ys:=à _ _
 rw[e,lq,sR (λz=>g (ĥ.mp z)) (λp j=>by obtain⟨y,l,rfl⟩:=ϟ.mp j;exact i y l)]at d
 rw[e]
 refine(ŝ λa b h=>?_).mp d
 cases a;cases b
 exact congrArg Str.mk (Į.mp h)
end L2
namespace L2
open PySem PySem.Spec PyProof.Rows PySem.Builtin.Str
section
variable {X:Cx}
inductive vw(x:V)(vs:List V)(H:Hp)(Q:VK):Prop
 |mk (z y:Str)(_:x=.str z)(_:vs=[.str y])(_:Q (.bl (Txt.startswith z y)) H)
theorem pI:EQ X "str.startswith" vw:=by
 intro a s e H x f v us Q I b c h
 obtain⟨z,y,rfl,rfl,q⟩:=h
 obtain⟨t,rfl⟩:=b
 obtain⟨u,rfl,d⟩:=c.one
 obtain⟨g,rfl⟩:=d
 exact SC.startswith ⟨.bl _,H,I,Λ,q⟩
inductive Yc(x:V)(lo:Option Int)(hi:Option Int)(H:Hp)(Q:VK):Prop
 |mk (z:Str)(i:Int)(_:x=.str z)(_:lo=Α i)(_:hi=Β)(_:z.length<=Τ)(_:Q (.str (Txt.slice z (Α i) Β)) H)
theorem vp:Rc X Yc:=by
 intro a s j H x v m n o p r Q I b c d e h
 obtain⟨z,i,rfl,rfl,rfl,f,q⟩:=h
 obtain⟨t,rfl⟩:=b
 cases d with
 | int _ g =>
  cases e
  exact⟨"str",_,XI.lookup,et _ _ _,Rx (l:=Α (i,g)) (u:=Β) (st:=Β) c Λ
   (post_val_or_str ⟨ώ (Txt.slice_le z _ _) f,λw k=>⟨.str _,H,I.tok _,⟨_,Λ⟩,q⟩⟩)⟩
end
theorem fL(c:Nat)(y:Str):Txt.slice (⟨#[c]⟩++y) (Α 1) Β=y:=by
 have a:(⟨#[c]⟩++y:Str).cps.toList=c:: y.cps.toList:=by
  show(#[c]++y.cps).toList=_
  rw[ć]
  rfl
 show Qz (⟨#[c]⟩++y) (Α ((1:Nat):Int)) Β=y
 rw[StrLaws.sliceText_from (by rw[a,Ϛ];omega),a]
 cases y
 simp
 rw[←Â,Ó,Array.toArray_toList]
theorem e7(c d:Nat)(y:Str):Txt.startswith (⟨#[c]⟩++y) ⟨#[d]⟩=decide (c=d):=by
 unfold Txt.startswith subAt
 have a:(⟨#[c]⟩++y:Str).cps.toList=c:: y.cps.toList:=by
  show(#[c]++y.cps).toList=_
  rw[ć]
  rfl
 have b:(⟨#[c]⟩++y:Str).length=y.cps.toList.length+1:=by rw[Str.length,←Â,a,Ϛ]
 have e:(⟨#[d]⟩:Str).length=1:=rfl
 rw[b,e,Ζ (show 0+1<=y.cps.toList.length+1 by omega),Ý]
 have f:(⟨#[c]⟩++y:Str).cps.extract 0 (0+1)=#[c]:=by
  refine Į.mp ?_
  rw[Ō,a]
  rfl
 rw[f]
 by_cases h:c=d
 ·subst h;simp
 ·simp[h]
open PySem.Spec PyProof.Rows
theorem oJ(b:o.data=.fields vs)(f:Array Ο->Array Ο):(ã f o).dict=o.dict:=by
 obtain⟨c,d,a,e⟩:=o
 cases a<;>rfl
def K8(n:Bool)(h:ò)(e:Ν)(cls:Ο)(dd:Option Ν)(ch:List Ν):Prop:=
 ∃oe vs,h.get? e=Α oe/\oe.cls=cls/\oe.dict=dd/\oe.data=.fields vs/\(n=Δ->vs[2]?=Α .none)/\
  ((vs[1]?=Α .none/\ch=[e])∨∃T oT ts,vs[1]?=Α (.ref T)/\T≠e/\h.get? T=Α oT/\oT.data=.fields ts/\ts[3]?=Α .none/\ch=[e,T])
theorem K8.rec(x:K8 n h e cls dd ch):∀b∈ch,∃o c,h.get? b=Α o/\o.data=.fields c:=by
 obtain⟨d,c,f,_,_,g,_,i|⟨T,j,l,_,_,m,p,_,rfl⟩⟩:=x
 ·obtain⟨_,rfl⟩:=i
  intro b a
  simp only[ϋ]at a
  subst a
  exact⟨d,c,f,g⟩
 ·intro b a
  simp only[ύ,ϡ,or_false]at a
  rcases a with rfl|rfl
  ·exact⟨d,c,f,g⟩
  ·exact⟨j,l,m,p⟩
theorem K8.mem(x:K8 n h e cls dd ch):e∈ch:=by
 obtain⟨a,b,c,_,_,d,_,⟨_,rfl⟩|⟨T,f,g,_,_,i,j,_,rfl⟩⟩:=x<;>simp
structure qc(fs ch:List Ν)(h h':ò):Prop where
 keep:∀b o,h.get? b=Α o->b∉ch->b∉fs->h'.get? b=Α o
 slot:∀b o,h.get? b=Α o->b∉ch->∃sl,h'.get? b=Α {o with slots:=sl}
 there:∀b o,h.get? b=Α o->∃o',h'.get? b=Α o'
section
variable {M:Model}{A:é}{E:Ο->Ω->Prop}{s:Ω}
theorem pH 
  (K:A.frames=Α (d:: outer)) (B:s.heap.FunFrames μ (d:: outer)) (N:d.frame=Α L)
  (C:s.heap.get? e=Α oe) (m:oe.data=.fields vs) (j:1<vs.size) (O:n=Δ->vs[2]?=Α .none)
  (h:∀t,K8 n t e oe.cls oe.dict [e,s.heap.objs.size]->qc (oE (d:: outer)) [e] s.heap t->Q () {s with heap:=t}):
  ϩ M A (do let a ← frameOf d;let g ← entryPlaceOf L hadNext;let b ← MG head a .none (ū L) .none g;setField (.ref e) 1 b) (λ_ P=>ϩ M A (setFlight (.ref e) Β) Q E P) E s:=by
 have R:e∉(d:: outer).filterMap (·.frame):=λS=>by
  obtain⟨_,o,p,T⟩:=B.mem S
  rw[C]at p;injection p with p;subst p;exact T vs m
 refine Ρ (wpAny_frameOf_fun K B N λc l=>?_)
 refine Ρ (wpAny_entryPlaceOf λg F=>?_)
 unfold MG newFields
 refine Ρ (Ŵ ?_ (F.sizeOk5 _ _ _ _ _))
 have G:=(l.2.1 e R).trans C
 have H:=Υ (h:=c) {cls:=.type "traceback",dict:=Β,data:=.fields ([head,.ref L,.none,ū L,.none]++(if g.isEmpty then è 6 Û else g)).toArray} G
 refine ı H m j ?_
 have q:=ŭ (lt_size G)
 have u:=ā m (·.setIfInBounds 1 (ϭ c.objs.size))
 have v:=á (ã (·.setIfInBounds 1 (ϭ c.objs.size))) H (Ī u)
 have I:=(Î (c.push {cls:=.type "traceback",dict:=Β,data:=.fields ([head,.ref L,.none,ū L,.none]++(if g.isEmpty then è 6 Û else g)).toArray})
  (ã (·.setIfInBounds 1 (ϭ c.objs.size))) (ϧ q)).trans (ϣ c Λ)
 unfold setFlight
 refine Ρ (ě v u (x:=.ref c.objs.size) (by simp[j]) ?_)
 rw[Ι (show(ϭ c.objs.size != Û)=Δ from by simp)]
 refine ı I Λ (by simp only[Ϯ,Ξ,Ϛ,hX]<;>omega) (h _ ?_ ?_)
 ·refine⟨_,_,?_,Xn _ _,oJ m _,u,(λz=>by rw[Array.getElem?_setIfInBounds_ne (by decide)];exact O z),.inr ⟨c.objs.size,_,_,by simp[j],q,á _ I (Ī (ā Λ _)),ā Λ _,by first|(simp;done)|(rcases F with rfl|⟨_,_,_,_,_,_,_,rfl⟩<;>simp),by rw[l.1]⟩⟩
  rw[Î _ _ q];exact v
 ·have keep:∀b o,b≠e->c.get? b=Α o->
    (((c.push {cls:=.type "traceback",dict:=Β,data:=.fields ([head,.ref L,.none,ū L,.none]++(if g.isEmpty then è 6 Û else g)).toArray}).update e (ã (·.setIfInBounds 1 (ϭ c.objs.size)))).update c.objs.size
     (ã (·.setIfInBounds 3 ((Β:Option Ν).elim Û λf=>ū f)))).get? b=Α o:=λb o r i=>by
   have U:=ŭ (lt_size i)
   rw[Î _ _ U,Î _ _ (ϧ r)]
   exact Υ _ i
  refine⟨λb o i w X=>keep b o (by simpa using w) ((l.2.1 b X).trans i),λb o i w=>?_,λb o i=>?_⟩
  ·obtain⟨J,y⟩:=l.2.2 b o i
   exact⟨J,keep b _ (by simpa using w) y⟩
  ·by_cases r:b=e
   ·subst r
    exact⟨_,by rw[Î _ _ q];exact v⟩
   ·obtain⟨J,y⟩:=l.2.2 b o i
    exact⟨_,keep b _ r y⟩
theorem ja 
  (w:A.frames=Α (c:: outer)) (y:s.heap.FunFrames μ (c:: outer)) (l:c.frame=Α L) (x:K8 n s.heap e cls dd ch)
  (h:∀d z,K8 n d e cls dd z->qc (oE (c:: outer)) ch s.heap d->(∀b∈z,b∈ch∨s.heap.objs.size<=b)->Q () {s with heap:=d}):
  ϩ M A (noteFrame (.ref e) c) (λ_ G=>ϩ M A (setFlight (.ref e) Β) Q E G) E s:=by
 obtain⟨O,B,p,rfl,rfl,r,C,⟨j,rfl⟩|⟨T,P,H,j,I,t,u,D,rfl⟩⟩:=x
 ·unfold noteFrame
  simp only[l]
  refine Ρ (ě p r j ?_)
  rw[Θ (by decide)]
  refine pH w y l p r (Ĭ.mp j).1 C λd f m=>h d _ f m λb a=>?_
  simp only[ύ,ϡ,or_false]at a
  rcases a with rfl|rfl
  ·exact .inl (by simp)
  ·exact .inr (ϛ _)
 ·unfold noteFrame
  simp only[l]
  refine Ρ (ě p r j ?_)
  rw[Ι (show(ϭ T != Û)=Δ from by simp)]
  refine Ρ (ě t u D ?_)
  rw[Θ (by simp[ū])]
  refine Ρ (ı t u (Ĭ.mp D).1 ?_)
  have other:∀b,b≠T->(s.heap.update T (ã (·.setIfInBounds 3 Û))).get? b=s.heap.get? b:=λb a=>Î _ _ (ϧ a)
  have J:=á (ã (·.setIfInBounds 3 Û)) t (Ī (ā u _))
  have noRecord:∀b o,s.heap.get? b=Α o->(∀B,o.data≠.fields B)->b≠T:=λb o a v q=>by
   rw[q,t]at a;injection a with a;subst a;exact v H u
  have K:(s.heap.update T (ã (·.setIfInBounds 3 Û))).objs.size=s.heap.objs.size:=size_after_update _ _ _
  refine pH (s:={s with heap:=s.heap.update T (ã (·.setIfInBounds 3 Û))}) w (y.of_keeps λb o a v=>⟨o,(other b (noRecord b o a v)).trans a,Λ⟩) l ((other e (ϧ I)).trans p) r (Ĭ.mp j).1 C
   λd f m=>h d _ f ⟨λb o a g N=>?_,λb o a g=>?_,λb o a=>?_⟩ λb a=>?_
  ·simp only[ύ,ϡ,or_false,not_or]at g
   exact m.keep b o ((other b g.2).trans a) (by simpa using g.1) N
  ·simp only[ύ,ϡ,or_false,not_or]at g
   exact m.slot b o ((other b g.2).trans a) (by simpa using g.1)
  ·by_cases F:b=T
   ·subst F
    exact m.there b _ J
   ·exact m.there b o ((other b F).trans a)
  ·simp only[ύ,ϡ,or_false]at a
   rcases a with rfl|rfl
   ·exact .inl (by simp)
   ·exact .inr (Yj K.symm)
theorem uR 
  (g:A.frames=Α (a:: outer)) (i:s.heap.FunFrames μ (a:: outer)) (j:a.frame=Α L) (x:K8 n s.heap e cls dd ch)
  (h:∀c d,K8 n c e cls dd d->qc (oE (a:: outer)) ch s.heap c->(∀b∈d,b∈ch∨s.heap.objs.size<=b)->Q () {s with heap:=c}):
  ϩ M A (leaving a (.ref e)) Q E s:=by
 unfold leaving
 exact Ρ (ja g i j x h)
end
section
variable {X:Cx}{ν:List (Ν×Obj)}{σ:St}{H:Hp}{s:Ω}
theorem ς.FX(I:ς X ν σ H s)(m:qc (oE X.stack) ch s.heap h')
  (l:∀b∈ch,X.s₀.heap.get? b=Β/\H b=Β/\(∀p∈X.pn++ν,p.1≠b)/\∃o h,s.heap.get? b=Α o/\o.data=.fields h):
  ς X ν σ H {s with heap:=h'}:=by
 have D:∀b o,s.heap.get? b=Α o->(∀h,o.data≠.fields h)->b∉ch:=λb o K L f=>by
  obtain⟨_,_,_,E,h,F,j⟩:=l b f
  rw[K]at F;cases F
  exact L h j
 have g:∀c v,s.heap.IsCell c v->h'.IsCell c v:=λc v ⟨o,t,j⟩=>by
  obtain⟨G,e⟩:=m.slot c o t (D c o t λh q=>by rw[j]at q;cases q)
  exact⟨_,e,j⟩
 refine⟨I.ok,I.os,I.bare,⟨λb o e n A w=>?_,λb o e n A w=>?_,I.μ.free,λb o e w=>?_,I.μ.HQ,I.μ.HF,I.μ.HR⟩,?_,λx c f=>?_,I.free,I.FC,λp J=>?_,λb u e=>?_,I.len⟩
 ·have y:=I.μ.keep b o e n A w
  refine m.keep b o y (λf=>?_) λB=>?_
  ·rw[(l b f).1]at e;cases e
  ·rcases ύ.mp (I.HG b B) with z|z
   ·rw[z]at e
    exact Κ (lt_size e) (not_lt.mpr I.ok.above)
   ·exact A z
 ·obtain⟨G,y⟩:=I.μ.slot b o e n A w
  obtain⟨M,N⟩:=m.slot b _ y λf=>by rw[(l b f).1]at e;cases e
  exact⟨M,N⟩
 ·obtain⟨E,y⟩:=I.μ.there b o e w
  exact m.there b E y
 ·obtain⟨O,⟨o,P,Q,t,j,r⟩,R⟩:=I.loc
  obtain⟨G,e⟩:=m.slot _ o t (D _ o t λh q=>by rw[j]at q;cases q)
  refine⟨O,⟨_,P,Q,e,j,r⟩,λi x v S T U=>?_⟩
  obtain⟨u,Y,lk⟩:=R i x v S T U
  refine⟨u,Y,?_⟩
  rcases lk with ⟨a,b⟩|⟨a,c,f,Z⟩
  ·exact .inl ⟨a,b⟩
  ·exact .inr ⟨a,c,f,g c _ Z⟩
 ·obtain⟨v,hv⟩:=I.cell x c f
  exact⟨v,g c v hv⟩
 ·obtain⟨a,b,c,d,e⟩:=I.pin p J
  refine⟨m.keep _ _ a (λf=>(l _ f).2.2.1 p J Λ) λB=>?_,b,c,d,e⟩
  rcases ύ.mp (I.HG _ B) with z|z
  ·exact c z
  ·exact d z
 ·refine(I.Fi b u e).Ho (λc v f q=>m.keep c v q (λz=>?_) λz=>?_) (λ_ q=>q) λ_ _ q=>q
  ·have n:=(l c z).2.1
   rcases f with rfl|f
   ·rw[e]at n;cases n
   ·rw[f]at n;cases n
  ·have n:=I.IT c z
   rcases f with rfl|f
   ·rw[e]at n;cases n
   ·rw[f]at n;cases n
noncomputable def oY(n:Bool)(P:Program)(w:À):tF:=λouter H s E ev s'=>∃e cls dd ch H',ev=.ref e/\s'.os=s.os/\Ÿ s'.gens/\Un (oE outer) [] H H' s.heap s'.heap/\GD P w H' s'.heap/\
 K8 n s'.heap e cls dd ch/\(∀b∈ch,s.heap.get? b=Β/\H' b=Β)/\E cls dd H'
abbrev ix:Program->À->tF:=oY Δ
abbrev Yg:Program->À->tF:=oY Ε
def XP(n:Bool)(X:Cx)(ν:List (Ν×Obj))(σ:St)(E:XK)(ev:Ο)(s':Ω):Prop:=∃e cls dd ch H',ev=.ref e/\ς X ν σ H' s'/\K8 n s'.heap e cls dd ch/\
 (∀b∈ch,X.s₀.heap.get? b=Β/\H' b=Β/\∀p∈X.pn++ν,p.1≠b)/\E cls dd H'
theorem ς.Lx(I:ς X ν σ H s)(a:X.ex=[])(c:s.heap.get? b=Β):X.s₀.heap.get? b=Β:=by
 cases q:X.s₀.heap.get? b with
 |none=>rfl
 | some o =>
  obtain⟨d,e⟩:=I.μ.there b o q (by rw[a];simp)
  rw[e]at c;cases c
theorem XP.Nz(I:ς X ν σ H s)(c:X.ex=[])(x:oY n X.prog X.w X.stack H s E ev s'):XP n X ν σ E ev s':=by
 obtain⟨e,d,h,ch,i,rfl,j,a,un,l,m,new,q⟩:=x
 refine⟨e,d,h,ch,i,Λ,I.Nt (ch:=[]) j un l a (λb z=>Κ z (by simp)),m,λb f=>⟨I.Lx c (new b f).1,(new b f).2,λp o z=>?_⟩,q⟩
 have:=(I.pin p o).1
 rw[z,(new b f).1]at this
 cases this
def HM(n:Bool)(X:Cx)(E:XK):Prop:=∀(ν:List (Ν×Obj))(σ:St)(ev:Ο)(s':Ω),XP n X ν σ E ev s'->X.xe ev s'
theorem HM.passes(h:HM n X E)(a:X.ex=[]):gm (oY n X.prog X.w) X E:=λν σ H s b c I x=>h ν σ b c (XP.Nz I a x)
theorem HM.up(h:HM Ε X E):HM n X E:=λν σ f g i=>by obtain⟨e,c,j,l,m,a,b,⟨o,p,q,r,t,u,_,v⟩,d⟩:=i;exact h ν σ f g ⟨e,c,j,l,m,a,b,⟨o,p,q,r,t,u,nofun,v⟩,d⟩
theorem Fg{K:Ϣ}:
  HM n (jk (oY n P w) P w K mg μ N qual scope f cd A outer s H E) E:=by
 intro ν σ p r x
 obtain⟨e,g,i,t,j,rfl,I,h,c,q⟩:=x
 refine uR (μ:=μ) (outer:=outer) I.ok.frames I.stack Λ h λu l o m new=>?_
 have d:=I.FX m λb a=>⟨(c b a).1,(c b a).2.1,(c b a).2.2,h.rec b a⟩
 refine⟨e,g,i,l,j,Λ,d.os,d.bare,d.μ,d.Fi,o,λb a=>?_,q⟩
 rcases new b a with z|z
 ·exact⟨(c b z).1,(c b z).2.1⟩
 ·exact⟨ĕ (ώ I.sz z),I.Fi.fresh z⟩
theorem lT{K:Ϣ}:
  PassesOwn (Ϧ P w) (jk (oY n P w) P w K mg μ N qual scope f cd A outer s H E).A (jk (oY n P w) P w K mg μ N qual scope f cd A outer s H E).env (jk (oY n P w) P w K mg μ N qual scope f cd A outer s H E).xe:=
 PassesOwn.leaving (Q₁:=λe a=>oY n P w outer H s E e a)
end
noncomputable def gq:List Ο:=[.type "ValueError",.type "Exception",.type "BaseException",.type "object"]
noncomputable def qX:List Ο->Bool
 |[]=>Ε
 |.ref _:: r=>qX r
 |l=>l == gq
theorem nL(self:Ο):∀{l:List Ο},qX l=Δ->refuseLoop self "__setattr__" l=pure ()
 |.ref c:: r,e=>by rw[refuseLoop_ref];exact nL self e
 | .type a:: r,e=>by
  have b:=beq_iff_eq.mp e
  rw[b];exact PySem.F.store_ValueError.passes self
 |.none:: r,e=>by have:=beq_iff_eq.mp (show(_ == gq)=Δ from e);cases this
 |.bool _:: r,e=>by have:=beq_iff_eq.mp (show(_ == gq)=Δ from e);cases this
 |.int _ _:: r,e=>by have:=beq_iff_eq.mp (show(_ == gq)=Δ from e);cases this
 |.float _ _:: r,e=>by have:=beq_iff_eq.mp (show(_ == gq)=Δ from e);cases this
 |.str _ _:: r,e=>by have:=beq_iff_eq.mp (show(_ == gq)=Δ from e);cases this
 |.bytes _ _:: r,e=>by have:=beq_iff_eq.mp (show(_ == gq)=Δ from e);cases this
 |.builtin _:: r,e=>by have:=beq_iff_eq.mp (show(_ == gq)=Δ from e);cases this
theorem j6:∀{l:List Ο},qX l=Δ->l.contains (.type "object")=Δ/\l.contains (.type "BaseException")=Δ/\l.isEmpty=Ε
 | .ref c:: r,e=>by
  obtain⟨a,b,_⟩:=j6 (l:=r) e
  exact⟨by rw[wz,a,rz],by rw[wz,b,rz],Λ⟩
 | .type a:: r,e=>by
  have d:=beq_iff_eq.mp e
  rw[d];exact⟨by decide,by decide,Λ⟩
 |.none:: r,e=>by have:=beq_iff_eq.mp (show(_ == gq)=Δ from e);cases this
 |.bool _:: r,e=>by have:=beq_iff_eq.mp (show(_ == gq)=Δ from e);cases this
 |.int _ _:: r,e=>by have:=beq_iff_eq.mp (show(_ == gq)=Δ from e);cases this
 |.float _ _:: r,e=>by have:=beq_iff_eq.mp (show(_ == gq)=Δ from e);cases this
 |.str _ _:: r,e=>by have:=beq_iff_eq.mp (show(_ == gq)=Δ from e);cases this
 |.bytes _ _:: r,e=>by have:=beq_iff_eq.mp (show(_ == gq)=Δ from e);cases this
 |.builtin _:: r,e=>by have:=beq_iff_eq.mp (show(_ == gq)=Δ from e);cases this
noncomputable def lw(K:Ϣ)(C:Ν):Bool:=(PySem.W.clsIn K C).any λcd=>qX cd.mro
structure iu(K:Ϣ)(C:Ν):Prop where
 mro:lw K C=Δ
 hd:ė K C=Δ
 sa:ϯ K (.ref C) "__setattr__"=Α (Α (.builtin "object.__setattr__"))
 ga:ϯ K (.ref C) "__getattribute__"=Α (Α (.builtin "BaseException.__getattribute__"))
 gn:ϯ K (.ref C) "__getattr__"=Α Β
section
variable {prog:Program}{w:À}{A:é}{E:Ο->Ω->Prop}{s:Ω}{K:Ϣ}{x C:Ν}{ox:Obj}{name:Str}{v:Ο}
open PySem.W in
theorem v5{R:Result->Ω->Prop}{od:Option Obj}{tk:Tok}(X:K.In s.heap)(I:PySem.W.InstAt s.heap x ox C od)(hp:lw K C=Δ)(ht:ϯ K (.ref C) name=Α Β)
  (h:∀b,ϩ (Ϧ prog w) A.in1 (Builtin.ObjectAttr.storeInOwnDict (.ref x) (.ref C) (.str name tk) name v b)
   (λfin s'=>match fin with|.done f=>R (.ok f) s'|.again c'=>c'.quiet=Δ/\Š (Ϧ prog w) A c' R s') (λe s'=>R (.error e) s') s):
  Š (Ϧ prog w) A (.call (.builtin "object.__setattr__") ⟨[.ref x,.str name tk,v],[]⟩) R s:=by
 have SF:=PySem.F.store_object
 obtain⟨cd,hc,ho⟩:=XH hp
 obtain⟨h1,h2,ne⟩:=j6 ho
 have sub:Looks (Ϧ prog w) s.heap (za0 (.ref x) (.type "object")) Δ:=I.type.andThen (looks_mroIn X (by unfold mroIn;rw[hc,Ę,Θ (by rw[ne];decide),h1]))
 refine X3 SF.slot.plain SF.entry (@check_slot (Ϧ prog w) _ _ s "object.__setattr__" "object" "__setattr__" (.ref x) [.str name tk,v] [] _ SF.kind SF.split sub (SF.args (.ref x) (.str name tk) v) ?_)
 have hm:Looks (Ϧ prog w) s.heap (mroOf (.ref C)) cd.mro:=(looks_clsIn X hc).andThen .now
 have L3:Looks (Ϧ prog w) s.heap (Builtin.ObjectAttr.storeTaker? Β) Β:=.now
 rw[osa_eq,refuse_eq]
 refine Ρ (Ρ (I.type.here (Ρ (hm.here ?_))))
 rw[nL _ ho]
 refine Ϥ (Ρ (I.type.here (Ρ ((VD X ht).here (Ρ (L3.here ?_))))))
 exact h _
theorem rH(X:K.In s.heap)(i:s.heap.get? x=Α ⟨.ref C,Β,.fields vs,#[]⟩)(c:iu K C)(z:ϯ K (.ref C) name=Α Β)
  (h:∀f B,f.get? x=Α ⟨.ref C,Α s.heap.objs.size,.fields vs,#[]⟩->f.Ns1 s.heap.objs.size (λy=>if y=name then Α v else Β)->
   (∀b o,b≠x->s.heap.get? b=Α o->f.get? b=Α o)->Q () {s with heap:=f,toks:=B}):
  ϩ (Ϧ prog w) A (setAttr (.ref x) name v) Q E s:=by
 have I:PySem.W.InstAt s.heap x ⟨.ref C,Β,.fields vs,#[]⟩ C Β:=⟨i,Λ,Λ,È⟩
 refine PySem.W.set_plain X I c.sa (v5 (s:={s with toks:=s.toks+1}) X I c.mro z λb=>?_)
 obtain⟨R,D,F⟩:=PySem.W.any_some c.hd
 obtain⟨a,g,d,t,G⟩:=s
 dsimp only at X i h I⊢
 refine Ρ (Ϥ (Ρ (Ρ (oo i (Ρ (PySem.W.Looks.here (s:=⟨a,g,d,t+1,G⟩) (PySem.W.looks_clsIn X D) ?_))))))
 rw[F]
 have n:(a.push {cls:=.type "dict",data:=.dict #[]}).get? x=Α ⟨.ref C,Β,.fields vs,#[]⟩:=Υ _ i
 have p:=Þ (lt_size i)
 rw[Θ (by decide)]
 dsimp only
 rw[Θ (by simp[typeHasDict])]
 refine Ρ (wpAny_alloc' ?_)
 refine Ρ (wpAny_update' n ?_)
 refine Ϥ ?_
 have H:((a.push {cls:=.type "dict",data:=.dict #[]}).update x λo=>{cls:=o.cls,dict:=Α a.objs.size,data:=o.data,slots:=o.slots}).get? a.objs.size
   =Α {cls:=.type "dict",data:=.dict #[]}:=
  (Rk _ _ _ _ p.symm).trans (ò.get?_push_at Λ Λ)
 have j:((a.push {cls:=.type "dict",data:=.dict #[]}).update x λo=>{cls:=o.cls,dict:=Α a.objs.size,data:=o.data,slots:=o.slots}).Ns a.objs.size (λ_=>Β):=
  ⟨_,#[],_,H,Λ,λe J=>Κ J (by simp),λ_=>rfl⟩
 unfold ů Ű
 refine Ρ (Ϥ (Ρ (Vz (P0 j) λf q r=>?_)))
 obtain⟨S,L,M,N,O,P⟩:=q.count (Within.cons name v Within.nil)
 refine Ρ (Lo N (by rw[O];exact Mp (ώ P (by rw[Ϛ,hX,Χ];omega))) ?_)
 refine Ϥ (h f _ ?_ q λb o l u=>?_)
 ·exact(r.2 x p).trans (á _ n Λ)
 ·exact(r.2 b (Þ (lt_size u))).trans ((Rk _ _ _ _ l).trans (Υ _ u))
open PySem.W in
end
end L2
namespace PySem
section
variable {prog:Program}{w:À}{A:é}{E:Ο->Ω->Prop}{h:ò}{g:Array PK}{d:Drawn}{t:Nat}{os:OsState}
variable {nm q:Str}{C N:Ν}{bs bm V1:List Ο}{G8:Bool}{sn:List Str}{sub:List Ο}{ab:Bool}{col:Option Bool}{dd:Option Ν}{k0 k1 k2 k3 k5:Option Ο}{B newId Ly:String}
theorem j9(F:ExcBaseFacts B newId Ly V1)(T:OwnTail h V1 bm)
  (a:h.get? C=Α (Ŷ nm q C N bs bm G8 sn sub ab col dd k0 k1 k2 k3 k5 newId)) (l:h.Ns N mN) (m:mN "__init__"=Α (.ref fI))
  (n:h.get? fI=Α oI) (p:oI.cls=.type "function")
  (s:ϩ (Ϧ prog w) A (call (.ref fI) (.ref (h.objs.size+1):: rest)) (λr i=>r=.none/\Q (.done (.ret (.ref (h.objs.size+1)))) i) E
   ⟨(h.push {cls:=.type "tuple",data:=.seq rest.toArray}).push {cls:=.ref C,data:=.fields #[.ref h.objs.size,.none,.none,.none,.bool Ε,.none]},g,d,t,os⟩) (hrest:rest.length<=Τ:=by size_fits):
  ϩ (Ϧ prog w) A (Builtin.«type.__call__» ⟨.ref C:: rest,[]⟩) Q E ⟨h,g,d,t,os⟩:=by
 repeat (first|with_reducible refine Ě a ?_|with_reducible refine wpAny_madeBy_exc a ?_|wp_step)
 refine codeAny_call_builtin_code (SY _ F.quiet) (wpAny_check_new_subT F T a ?_)
 refine codeAny_exc_new_subT F T a ?_ hrest
 have j:=Υ {cls:=.ref C,data:=.fields #[.ref h.objs.size,.none,.none,.none,.bool Ε,.none]}
  (Υ {cls:=.type "tuple",data:=.seq rest.toArray} a)
 have u:=Υ {cls:=.ref C,data:=.fields #[.ref h.objs.size,.none,.none,.none,.bool Ε,.none]}
  (Υ {cls:=.type "tuple",data:=.seq rest.toArray} n)
 have v:((h.push {cls:=.type "tuple",data:=.seq rest.toArray}).push {cls:=.ref C,data:=.fields #[.ref h.objs.size,.none,.none,.none,.bool Ε,.none]}).Ns N mN:=
  let ⟨o,es,ep,e,r⟩:=l;⟨o,es,ep,Υ _ (Υ _ e),r⟩
 have y:((h.push {cls:=.type "tuple",data:=.seq rest.toArray}).push
   {cls:=.ref C,data:=.fields #[.ref h.objs.size,.none,.none,.none,.bool Ε,.none]}).get? (h.objs.size+1)=Α
   {cls:=.ref C,data:=.fields #[.ref h.objs.size,.none,.none,.none,.bool Ε,.none]}:=by heap_get
 have f:(ϭ C:: bm).contains (.ref C)=Δ:=by simp
 have c:=T.keeps (h':=(h.push {cls:=.type "tuple",data:=.seq rest.toArray}).push {cls:=.ref C,data:=.fields #[.ref h.objs.size,.none,.none,.none,.bool Ε,.none]})
  λb o e=>Υ _ (Υ _ e)
 unfold za0
 repeat (first|with_reducible refine Ě y ?_|(with_reducible refine r4 j ?_;rw[f])|wp_step)
 refine wpAny_typeLookup_tail j v c F.mroIs F.init.lookup ?_
 rw[m]
 refine đ (Ρ ?_)
 unfold bindSpecial
 refine Ρ (wpAny_typeOf (T:="function") ⟨_,u,p⟩ ?_)
 rw[Ι (by decide)]
 refine Ϥ (Ρ (Ë s (λr i z=>?_) λ_ _ x=>x))
 obtain⟨rfl,D⟩:=z
 wp_walk
 exact D
theorem qd(F:ExcBaseFacts B newId Ly V1)(T:OwnTail h V1 bm)
  (a:h.get? C=Α (Ŷ nm q C N bs bm G8 sn sub ab col dd k0 k1 k2 k3 k5 newId)) (b:h.Ns N mN) (c:mN "__init__"=Α (.ref fI))
  (e:h.get? fI=Α oI) (f:oI.cls=.type "function")
  (i:ϩ (Ϧ prog w) (A.under (.builtin "type.__call__" ⟨.ref C:: rest,[]⟩)) (call (.ref fI) (.ref (h.objs.size+1):: rest)) (λr j=>r=.none/\Q (.ref (h.objs.size+1)) j) E
   ⟨(h.push {cls:=.type "tuple",data:=.seq rest.toArray}).push {cls:=.ref C,data:=.fields #[.ref h.objs.size,.none,.none,.none,.bool Ε,.none]},g,d,t,os⟩) (hrest:rest.length<=Τ:=by size_fits):
  ϩ (Ϧ prog w) A (call (.ref C) rest) Q E ⟨h,g,d,t,os⟩:=by
 have l:=tc_lookup
 have m:=tc_bind (.ref C)
 have n:(⟨h,g,d,t,os⟩:Ω).TypeIs (.ref C) "type":=⟨_,a,Λ⟩
 refine ũ (codeAny_of_tree ?_)
 repeat (any_goals (first|assumption|with_reducible refine Ě a ?_|wp_step))
 refine⟨Λ,?_⟩
 refine codeAny_call_builtin_at (SY _ (by decide +kernel)) entry_typeCall (wpAny_check_type_call_sub a (j9 (hrest:=hrest) F T a b c e f ?_))
 exact i
end
section
variable {M:Model}{A:é}{E:Ο->Ω->Prop}{env:Env}
variable {nm q:Str}{C N:Ν}{bs bm:List Ο}{G8:Bool}{sn:List Str}{sub:List Ο}{ab:Bool}{col:Option Bool}{dd:Option Ν}{k0 k1 k2 k3 k5:Option Ο}{newId:String}
theorem jA(i:A.handled=Β)
  (h:ϩ M A x (λv a=>∃e t c nm q N bs bm G8 sn sub ab col dd k0 k1 k2 k3 k5 newId,v=.ref e/\bm.contains (.type "BaseException")=Δ/\a.heap.get? C=Α (Ŷ nm q C N bs bm G8 sn sub ab col dd k0 k1 k2 k3 k5 newId)/\
   a.heap.get? e=Α {cls:=.ref C,dict:=c,data:=.fields #[.ref t,.none,.none,.none,.bool Ε,.none]}/\E (.ref e) a) E s):
  ϩ M A (R0 env (Α x) Β) Q E s:=by
 unfold R0
 refine Ρ (Ë h (λv a b=>?_) λ_ _ x=>x)
 obtain⟨e,t,c,nm,q,N,bs,bm,G8,sn,sub,ab,col,dd,k0,k1,k2,k3,k5,newId,rfl,j,f,l,m⟩:=b
 have n:(ϭ C:: bm).contains (.type "BaseException")=Δ:=by rw[wz,j,rz]
 obtain⟨o,g,d,p,r⟩:=a
 repeat (first|with_reducible refine Ě l ?_|with_reducible refine Ě f ?_|(with_reducible refine r4 f ?_;rw[n])|wp_step)
 exact wpAny_raiseNew_none i m
end
end PySem
namespace L2
open PySem PySem.Spec PyProof.Rows
noncomputable def cn(K:Ϣ)(C:Ν)(init:Option Ο):Bool:=match K.lookup C with
 | some ⟨.type "type",_,.cls cd,sl⟩=>(match cd.mro,sl.toList with
  |.ref C':: bm,[_,_,_,_,Α (.builtin n),_]=>C' == C&& n =="ValueError.__new__" && !cd.hasDel&& PySem.W.tailIn K gq bm&& PySem.W.nsOkIn K cd.ns&& Ĩ K cd.ns "__init__"== Α init
  |_,_=>Ε)
 |_=>Ε
theorem kZ{K:Ϣ}(X:K.In h)(e:PySem.W.nsOkIn K N=Δ)(q:Ĩ K N x=Α (Α v)):h.nsMap N x=Α v:=by
 have G:h.Ns N (h.nsMap N):=.of_isNs (PySem.W.isNs_of_in X e)
 generalize h.nsMap N=m at G⊢
 obtain⟨o,g,i,a,b,_,f⟩:=G
 unfold Ĩ at q
 split at q
 ·rename_i c d Vo n' sl z
  have:=X _ _ z
  rw[a]at this
  cases this
  cases b
  split at q
  ·rename_i en he
   cases q
   rw[←f]
   unfold nsFind findBy
   rw[←Rv,he]
   rfl
  ·split at q<;>cases q
 ·cases q
theorem m6{K:Ϣ}(X:K.In h)(q:cn K C init=Δ):∃b N j m bs t o sub ab a p c d e f g mN,
  h.get? C=Α (Ŷ j m C N bs b t o sub ab a p c d e f g "ValueError.__new__")/\h.Ns N mN/\mN "__init__"=init/\OwnTail h gq b:=by
 unfold cn at q
 split at q
 ·rename_i p cd sl ho
  split at q
  ·rename_i C' b c d e f n g hm hs
   simp only[ϫ,beq_iff_eq,ă]at q
   obtain⟨⟨⟨⟨⟨rfl,rfl⟩,s⟩,u⟩,i⟩,r⟩:=q
   obtain⟨j,bs,w,x,m,y,o,sub,ab,a,AI⟩:=cd
   dsimp only at hm s i r
   subst hm s
   have z:sl=#[c,d,e,f,Α (.builtin "ValueError.__new__"),g]:=by
    obtain⟨l⟩:=sl
    simp only at hs
    rw[hs]
   subst z
   refine⟨b,x,j,m,bs,y,o,sub,ab,a,p,c,d,e,f,g,_,X _ _ ho,.of_isNs (PySem.W.isNs_of_in X i),?_,PySem.W.tail_of_in X u⟩
   cases init with
   |none=>exact PySem.W.nsMap_none_of_in X i r
   |some v=>exact kZ X i r
  ·cases q
 ·cases q
theorem py(T:OwnTail h gq bm):bm.contains (.type "BaseException")=Δ:=T.hasType (by decide)
noncomputable def fV(C t:Ν)(dd:Option Ν):Obj:={cls:=.ref C,dict:=dd,data:=.fields #[.ref t,.none,.none,.none,.bool Ε,.none]}
abbrev TX:=St->Hp->(Option Ν->Hp->Prop)->Prop
def PX(X:Cx)(e:Expr)(C:Ν)(t:TX):Prop:=
 ∀(ν:List (Ν×Obj))(s:Ω)(σ:St)(H:Hp)(R:Option Ν->Hp->Prop),ς X ν σ H s->t σ H R->ϩ (Ϧ X.prog X.w) X.A (eval e X.env)
  (λu s'=>∃ea dd tt H',u=.ref ea/\ς X ν σ H' s'/\s'.heap.get? ea=Α (fV C tt dd)/\X.s₀.heap.get? ea=Β/\H' ea=Β/\(∀p∈X.pn++ν,p.1≠ea)/\R dd H') X.xe s
theorem GD.at(x:GD P w H h)(e:H a=Α o):∃b,h.get? a=Α b:=by
 have q:=x a o e
 have all:∀o,Fv P w H h a o->∃b,h.get? a=Α b:=by
  intro o
  induction o with
  |π xs=>intro ⟨_,g,n,_,e⟩;exact⟨_,e⟩
  |tup xs=>intro ⟨_,g,_,b,e,_⟩;exact⟨_,e⟩
  |dK i=>intro ⟨_,_,j,_,q⟩;obtain⟨o,c,d,e,_⟩:=q;exact⟨_,e⟩
  |dT i=>intro ⟨_,_,xs,_,o,c,d,e,_⟩;exact⟨_,e⟩
  |set S n=>intro q;obtain⟨o,_,_,_,e,_⟩:=q;exact⟨_,e⟩
  |ρ C l fs=>intro ⟨_,_,_,e,_⟩;exact⟨_,e⟩
  |own x=>intro ⟨o,e⟩;exact⟨_,e⟩
  |xd fs=>intro ⟨m,⟨o,c,d,e,_⟩,_⟩;exact⟨_,e⟩
  |Vl p r=>intro ⟨_,_,_,e⟩;exact⟨_,e⟩
  |JU o u s=>intro ⟨e,_⟩;exact⟨_,e⟩
  |Ms t=>intro e;exact⟨_,e⟩
  |met f x=>intro e;exact⟨_,e⟩
  |ext v=>intro ⟨_,e,_⟩;exact e
 exact all o q
theorem GD.none_of(x:GD P w H h)(e:h.get? a=Β):H a=Β:=by
 cases q:H a with
 |none=>rfl
 | some o =>
  obtain⟨b,z⟩:=x.at q
  rw[e]at z;cases z
noncomputable def AI(H:Hp)(a:Ν):Hp:=λb=>if b=a then Β else H b
theorem sP:AI H a a=Β:=Ι Λ
theorem iL(h:b≠a):AI H a b=H b:=Θ h
theorem ς.drop{m:St}(I:ς X ν m H s)(e:H a=Α (.ext d)):ς X ν m (AI H a) s:=by
 have f:∀b u,H b=Α u->(∀d,u≠.ext d)->b≠a:=λb u q n z=>by rw[z,e]at q;cases q;exact n d Λ
 have g:∀b,H b=Β->AI H a b=Β:=λb q=>by unfold AI;split<;>first|rfl|exact q
 refine⟨I.ok,I.os,I.bare,⟨I.μ.keep,I.μ.slot,λb o i j l=>g b (I.μ.free b o i j l),I.μ.there,λb xs q=>?_,λb o u q=>?_,λb r q=>?_⟩,I.loc,I.cell,g _ I.free,λx c h=>g _ (I.FC x c h),λp t=>?_,λb u q=>?_,I.len⟩
 ·have z:=I.μ.HQ b xs q
  rw[iL (f b _ z λd h=>by cases h)];exact z
 ·have z:=I.μ.HF b o u q
  rw[iL (f b _ z λd h=>by cases h)];exact z
 ·obtain⟨more,z⟩:=I.μ.HR b r q
  exact⟨more,by rw[iL (f b _ z λd h=>by cases h)];exact z⟩
 ·obtain⟨i,j,l⟩:=I.pin p t
  exact⟨i,g _ j,l⟩
 ·have w:b≠a:=λz=>by rw[z,sP]at q;cases q
  rw[iL w]at q
  refine(I.Fi b u q).Ho (λc v _ z=>z) (λc z=>?_) λc xs z=>?_
  ·rw[iL (f c _ z λd h=>by cases h)];exact z
  ·rw[iL (f c _ z λd h=>by cases h)];exact z
section
variable {X:Cx}{C f:Ν}{x:Str}{p pos apos:Pos}{e:Expr}{es:List Expr}{t:TA}
noncomputable def CY(t:TA):TX:=λσ H R=>t σ H λvs H1=>vs.length<=Τ/\R Β H1
theorem dF(m:cn X.K C Β=Δ)(n:Ϩ X.K (.ref C)=Δ)(i:X.ex=[])(o:Gl X x)(u:X.mg x=Α (.ref C))(v:PA X (e:: es) t)
  (w:autoParam ((x == ("__debug__":Str))=Ε) θ) (y:autoParam (Ϭ (e:: es) X.env=(Ε,eval e X.env):: Ϭ es X.env) η) (A:autoParam ((Ė pos (Ϭ es X.env)).any (·.1)=Ε) η):
  PX X (.Call (.Name x p) (e:: es) [] pos) C (CY t):=by
 intro b s B H R I h
 refine ē (fK I o u ?_ w)
 refine PySem.W.callWith_K (h₀:=X.μ) I.ok.mod.Kl n (bq (v pos b s B H _ I h) λus D ⟨Y,E,a,r,G,q⟩=>⟨a.FN,?_⟩) y A
 obtain⟨Z,N,nm,qn,bs,G8,sn,sub,ab,J,dd,k0,k1,k2,k3,k5,mN,L,M,O,T⟩:=m6 a.FN m
 obtain⟨j,g,d,P,os⟩:=D
 refine wpAny_call_exc_subT (hrest:=by show us.length<=_;rw[←r.length];exact G) PySem.F.excBase_ValueError T L M O λh' Q c=>?_
 obtain⟨S,U,_,_⟩:=c.there
 refine⟨Q,Β,S,E,Λ,a.kept (t':=P) c.keeps,U,a.Lx i c.new,a.Fi.none_of c.new,λp j z=>?_,q⟩
 have:=(a.pin p j).1
 rw[z]at this
 have l:=c.new
 rw[this]at l
 cases l
noncomputable def cT(e C t:Ν)(dd:Option Ν):HO:=.ext λh=>h.get? e=Α (fV C t dd)
theorem oH{e C t:Ν}(q:h.get? e=Α (fV C t dd)):Fv P w H h e (cT e C t dd):=
 ⟨q,⟨_,q⟩,λc d a b=>b _ a⟩
noncomputable def CZ(C:Ν)(sp:Sp)(t:TA):TX:=λσ H R=>t σ H λvs H1=>vs.length<=Τ/\∀e tt,H1 e=Β->sp (.ref e:: vs) (ο H1 e (cT e C tt Β)) (λv H2=>v=.Fp/\∃dd,H2 e=Α (cT e C tt dd)/\R dd (AI H2 e)) E0
theorem qJ(S:cn X.K C (Α (.ref f))=Δ)(U:isFn X.K (.ref f)=Δ)(Y:Ϩ X.K (.ref C)=Δ)(F:EW X.prog X.w X.K X.mg X.μ aL k f fd ps sp)(Z:Fj (k+1) X.A)(hb:Binds X.K fd ps [])
  (hg:Gl X x) (hm:X.mg x=Α (.ref C)) (ha:PA X (e:: es) t)
  (IU:autoParam ((x == ("__debug__":Str))=Ε) θ) (he:autoParam (Ϭ (e:: es) X.env=(Ε,eval e X.env):: Ϭ es X.env) η) (FJ:autoParam ((Ė pos (Ϭ es X.env)).any (·.1)=Ε) η):
  PX X (.Call (.Name x p) (e:: es) [] pos) C (CZ C sp t):=by
 intro c s B H R I h
 refine ē (fK I hg hm ?_ IU)
 refine PySem.W.callWith_K (h₀:=X.μ) I.ok.mod.Kl Y (bq (ha pos c s B H _ I h) λus D ⟨vs,H1,i,r,hl,q⟩=>⟨i.FN,?_⟩) he FJ
 obtain⟨bm,N,nm,qn,bs,G8,sn,sub,ab,col,dd,k0,k1,k2,k3,k5,mN,E,G,MB,T⟩:=m6 i.FN S
 obtain⟨m,hoI,hcI⟩:∃m,D.heap.get? f=Α m/\m.cls=.type "function":=by
  have z:=beq_iff_eq.mp U
  obtain⟨o,ho,z⟩:=Option.map_eq_some_iff.mp (show(X.K.lookup f).map (·.cls)=Α (.type "function") from z)
  exact⟨o,i.FN _ _ ho,z⟩
 obtain⟨a,g,d,n,J⟩:=D
 dsimp only at E G T hoI
 refine qd (hrest:=by show us.length<=_;rw[←r.length];exact hl) PySem.F.excBase_ValueError T E G MB hoI hcI ?_
 have l:a.objs.size<=a.objs.size+1:=Wb _
 have L:=q (a.objs.size+1) a.objs.size (i.Fi.fresh l)
 have KC:((a.push {cls:=.type "tuple",data:=.seq us.toArray}).push (fV C a.objs.size Β)).get? (a.objs.size+1)=Α (fV C a.objs.size Β):=by
  have:=ϣ (a.push {cls:=.type "tuple",data:=.seq us.toArray}) (o:=fV C a.objs.size Β) Λ
  rwa [size_push]at this
 have y:=
  i.laid (t':=n) (λb u z=>Υ _ (Υ _ z)) l (oH KC)
 have M:τ (V.ref (a.objs.size+1):: vs) (ϭ (a.objs.size+1):: us):=.cons Λ r
 have IM:(ϭ (a.objs.size+1):: us++[]).length=ps.length:=by
  have e:=M.length
  rw[F.len _ _ _ _ L]at e
  rw[ķ];exact e.symm
 have O:=hb ⟨(a.push {cls:=.type "tuple",data:=.seq us.toArray}).push (fV C a.objs.size Β),g,d,n,J⟩ (ϭ (a.objs.size+1):: us) y.FN IM
 rw[ķ]at O
 refine ũ (ş (F.run _ X.stack _ _ ⟨ϭ (a.objs.size+1):: us,[]⟩ (ϭ (a.objs.size+1):: us) _ _ E0 (Z.make C us []) (y.Mu.make C us []) O M L) λrr s' j=>?_)
 cases rr with
 |error e=>exact j.elim
 | ok fl =>
  cases fl with
  | ret u =>
   obtain⟨v,H',P,rv,ev,de,Q,q3⟩:=y.after j
   subst ev
   refine⟨rv,a.objs.size+1,de,a.objs.size,AI H' (a.objs.size+1),Λ,P.drop Q,(P.Fi _ _ Q).1,ĕ (ώ i.sz l),sP,λp Qa z=>?_,q3⟩
   have:=lt_size (i.pin p Qa).1
   rw[z]at this
   exact Κ this (not_lt.mpr l)
  |next=>exact Ö j
  |brk=>exact Ö j
  |cont=>exact Ö j
def Dc(C:Ν)(E:XK)(t:TX):TS:=λ_ σ H=>t σ H λdd H1=>E (.ref C) dd H1
theorem cu(O:X.calm=Δ)(U:cn X.K C init=Δ)(Y:HM n X E)(h:PX X e C tx):PS X (.Raise (Α e) Β pos) (Dc C E tx):=by
 intro d s P H D I Z
 rw[arm_exec_Raise]
 have l:ϩ (Ϧ X.prog X.w) X.A (eval e X.env) (λv a=>∃g t de y q N bs o z B sub ab i r F G J L M j,v=.ref g/\o.contains (.type "BaseException")=Δ/\a.heap.get? C=Α (Ŷ y q C N bs o z B sub ab i r F G J L M j)/\
   a.heap.get? g=Α {cls:=.ref C,dict:=de,data:=.fields #[.ref t,.none,.none,.none,.bool Ε,.none]}/\X.xe (.ref g) a) X.xe s:=by
  refine bq (h d s P H _ I Z) λu s1 Fc=>?_
  obtain⟨g,r,tt,H',eu,Q,R,hn,hh,hp,q⟩:=Fc
  obtain⟨o,N,y,qn,bs,z,B,sub,ab,i,Yl,F,G,J,L,M,mN,hC,Jg,MB,T⟩:=m6 Q.FN U
  refine⟨g,tt,r,y,qn,N,bs,o,z,B,sub,ab,i,Yl,F,G,J,L,M,_,eu,py T,hC,R,Y d P _ _ ⟨g,.ref C,r,[g],H',Λ,Q,⟨_,_,R,Λ,Λ,Λ,λ_=>rfl,.inl ⟨Λ,Λ⟩⟩,λb S=>?_,q⟩⟩
  simp only[ϋ]at S
  subst S
  exact⟨hn,hh,hp⟩
 first
  |refine Ρ (Đ (jA (C:=C) (I.ok.hd O) (Ρ (Ë l (λv m c=>Ρ (Đ (Ϥ c))) λ_ _ x=>x))))
  |(simp only[evalOpt,Option.map];refine Ρ (Đ (jA (C:=C) (I.ok.hd O) (Ρ (Ë l (λv m c=>Ρ (Đ (Ϥ c))) λ_ _ x=>x)))))
end
section
variable {prog:Program}{w:À}{A:é}{E:Ο->Ω->Prop}{s:Ω}{K:Ϣ}{x C:Ν}{ox:Obj}{od:Option Obj}{name:Str}{v:Ο}
open PySem.W in
theorem xr{Q:Option Ο->Ω->Prop}(X:K.In s.heap)(I:PySem.W.InstAt s.heap x ox C od)(c:iu K C)(ha:ϯ K (.ref C) "__class__"=Α (Α (.builtin "object.__class__")))
  (hn:specialIn K (.builtin "object.__class__") "__get__"=Α (Α (.builtin "getset_descriptor.__get__"))) (HC:takesIn K (.builtin "object.__class__")=Α Δ)
  (h:Q (Α (.ref C)) {s with toks:=s.toks+1}):ϩ (Ϧ prog w) A (getAttr? (.ref x) "__class__") Q E s:=by
 obtain⟨cd,hc,ho⟩:=XH c.mro
 obtain⟨h1,h2,ne⟩:=j6 ho
 have hm:mroIn K C (.type "object")=Α Δ:=by unfold mroIn;rw[hc,Ę,Θ (by rw[ne];decide),h1]
 have hf:findObj K C od "__class__"=Α (.bind (.builtin "getset_descriptor.__get__") (.builtin "object.__class__")):=by
  unfold findObj
  rw[hc,Ę,ha,Ę]
  dsimp only
  rw[hn,Ę]
  dsimp only
  rw[HC,Ę]
 have sub:Looks (Ϧ prog w) s.heap (za0 (.ref x) (.type "BaseException")) Δ:=I.type.andThen (looks_mroIn X (by unfold mroIn;rw[hc,Ę,Θ (by rw[ne];decide),h2]))
 have GA:=F.attr_ValueError.ga
 have hk:builtinKind "BaseException.__getattribute__"=Α .slot:=by decide +kernel
 have O4:splitId "BaseException.__getattribute__"=Α ("BaseException","__getattribute__"):=by decide +kernel
 have Lb:(Ŋ "BaseException.__getattribute__"== Ŋ "object.__getattribute__")=Ε:=by decide +kernel
 have Hk:(onTheHeap (ϭ C)&& Ŋ "BaseException.__getattribute__"== Ŋ "object.__getattribute__")=Ε:=by rw[Lb];rfl
 have L0:=I.type (M:=Ϧ prog w)
 have L1:=VD (M:=Ϧ prog w) X c.ga
 have L2:=VD (M:=Ϧ prog w) X c.gn
 have L3:=looks_find (M:=Ϧ prog w) X I hf
 obtain⟨hp,g,dr,t,os⟩:=s
 unfold getAttr? getAttrBy? getAttrBy
 refine Ρ (wpAny_mkText (Ρ (wpAny_attempt (đ (Ρ (L0.at (Ρ (L1.at ?_))))))))
 dsimp only
 rw[Hk,Θ Ϟ]
 unfold getAttrByItsOwn
 refine Ρ (L2.at ?_)
 refine Ρ (wpAny_attempt (đ ?_))
 unfold callGetattribute
 rw[show(Ε&& onTheHeap (Ŋ "BaseException.__getattribute__"))=Ε from Λ,Θ Ϟ]
 unfold boundAndCalled
 rw[GA.bind]
 refine Ρ (Ϥ (ũ ?_))
 refine X3 GA.plain F.entry_bexc_ga (@check_slot (Ϧ prog w) _ _ ⟨hp,g,dr,t+1,os⟩ "BaseException.__getattribute__" "BaseException" "__getattribute__" (.ref x) [.str "__class__" t] [] _ hk O4 sub (F.args_bexc_ga (.ref x) (.str "__class__" t)) ?_)
 unfold Builtin.«object.__getattribute__»
 refine Ρ (Ϥ ?_)
 dsimp only
 refine Ρ (Ϥ (Ρ (L0.at (Ρ (L3.at ?_)))))
 show ϩ _ _ (ŵ [Ŋ "object.__class__"] (call (.builtin "getset_descriptor.__get__") [.builtin "object.__class__",.ref x,.ref C]) >>=ret) _ _ _
 refine Ρ (đ (ũ (class_get (s:=⟨hp,g,dr,t+1,os⟩) (ox:=ox) (od:=od) X I hm ?_)))
 refine Ϥ ?_
 show ϩ _ _ (handedOut (.ref C)) _ _ _
 exact handed_on Λ (Ϥ h)
structure Co(K:Ϣ)(C:Ν):Prop where
 at_:ϯ K (.ref C) "__class__"=Α (Α (.builtin "object.__class__"))
 get:PySem.W.specialIn K (.builtin "object.__class__") "__get__"=Α (Α (.builtin "getset_descriptor.__get__"))
 tak:PySem.W.takesIn K (.builtin "object.__class__")=Α Δ
open PySem.W in
theorem sE(c:iu K C)(i:Co K C):KitX K (.ref x) (.ref C) (λh=>∃od,PySem.W.InstAt h x ox C od) where
 ty:=λ_ _ _ Fc=>by obtain⟨_,I⟩:=Fc;exact I.type
 it:=λ_ _ X _=>by
  obtain⟨cdD,K5,_⟩:=XH c.hd
  unfold clsIn at K5
  split at K5
  ·rename_i c' d' cd' Xm ho
   intro A' Q' E' s' k q
   unfold isType loadHead
   exact Ρ (oo (k _ _ (X _ _ ho)) (Ϥ q))
  ·cases K5
 ne:=λh tp dd Fe n sl X htp=>by
  obtain⟨cdD,K5,_⟩:=XH c.hd
  refine Bool.eq_false_iff.mpr λq=>?_
  have e:C=tp:=ϭ.inj (beq_iff_eq.mp q)
  subst e
  unfold clsIn at K5
  split at K5
  ·rename_i c' d' cd' Xm ho
   have z:=(X _ _ ho).symm.trans htp
   cases z
  ·cases K5
 ca:=λX ⟨_,I⟩ k=>xr X I c i.at_ i.get i.tak k
end
abbrev Cx.hand(X:Cx)(ea:Ν)(oe:Obj):Cx:={X with A:=X.A.mark (Α (.ref ea)),calm:=Ε,pn:=(ea,oe):: X.pn,xe:=λ_ _=>False}
section
variable {X:Cx}{ν:List (Ν×Obj)}{σ:St}{H:Hp}{s:Ω}{ea:Ν}{oe:Obj}
theorem ς.hand(I:ς X ν σ H s)(c:s.heap.get? ea=Α oe)(d:oe.data=.fields vs)(f:H ea=Β):ς (X.hand ea oe) ν σ H s:=by
 have ok:=I.ok
 refine⟨⟨ok.mod,ok.kind,ok.glob,ok.blt,ok.above,ok.inj,ok.has,ok.PN,(λz=>by cases z),ok.frames,ok.QD,ok.Xj,ok.bs,ok.LV,ok.K1,ok.Lk,ok.Hs,ok.Nq⟩,I.os,I.bare,I.μ,I.loc,I.cell,I.free,I.FC,λp e=>?_,I.Fi,I.len⟩
 rcases ύ.mp e with rfl|e
 ·refine⟨c,f,λz=>?_,λz=>?_,λv q=>by rw[d]at q;cases q⟩
  ·obtain⟨m,⟨o,i,j,a,b,_⟩,_⟩:=I.loc
   have g:=z
   rw[←g,c]at a
   cases a
   rw[d]at b
   cases b
  ·obtain⟨_,o,a,h⟩:=I.Hs.mem z
   rw[show(ea,oe).1=ea from Λ,c]at a
   cases a
   exact h vs d
 ·exact I.pin p e
theorem ς.G9(J:ς (X.hand ea oe) ν σ H s)(ok:X.Ok):ς X ν σ H s:=
 ⟨ok,J.os,J.bare,J.μ,J.loc,J.cell,J.free,J.FC,λp a=>J.pin p (ϊ _ a),J.Fi,J.len⟩
def Cp:V->Ο->Prop
 |.ref a,u=>u=.ref a
 |.ty n,u=>u=.type n
 |_,_=>False
theorem rB(r:RelV c u)(h:Cp c cv):u=cv:=by
 cases c with
 |ref a=>exact(r).trans (h).symm
 |ty n=>exact(r).trans (h).symm
 |_=>exact h.elim
def j8(H:Hp):Option Ν->Prop
 |none=>True
 |some d=>∃fs,H d=Α (.xd fs)
theorem ς.N2(I:ς X ν σ H s)(i:(ea,oe)∈X.pn)(b:oe.cls=.ref C)(e:oe.data=.fields vs)(f:j8 H oe.dict):∃j,PySem.W.InstAt s.heap ea oe C j:=by
 have g:=(I.pin (ea,oe) (Ê _ i)).1
 have h:PySem.W.notCls oe=Δ:=by
  obtain⟨c,d,o,p⟩:=oe
  dsimp only at e
  subst e
  rfl
 cases a:oe.dict with
 |none=>exact⟨Β,g,b,h,by rw[a];trivial⟩
 | some d =>
  rw[a]at f
  obtain⟨fs,l⟩:=f
  obtain⟨m,n⟩:=I.Fi.at l
  exact⟨Α m,g,b,h,by rw[a];exact n⟩
inductive Yn(X:Cx)(xs:List V)(H:Hp)(Q:VK):Prop
 |mk (ea oe c cv C vs b)(_:xs=[.ref ea,c])(_:Cp c cv)(_:(ea,oe)∈X.pn)(_:oe.cls=.ref C)(_:oe.data=.fields vs)(_:j8 H oe.dict)(_:iu X.K C)(_:Co X.K C)(_:ü X.K (.ref C) cv=Α b)(_:Q (.bl b) H)
theorem Ax:F5 X (.builtin "isinstance") (Yn X):=by
 intro ν s σ H xs us Q I r h
 obtain⟨ea,oe,c,u,C,v,b,rfl,d,f,g,i,j,l,m,n,q⟩:=h
 cases r with
 | cons o a =>
  cases a with
  | cons a p =>
   cases p
   cases o
   have e:=rB a d
   subst e
   obtain⟨t,J⟩:=I.N2 f g i j
   exact PySem.W.kia_one (sE (ox:=oe) l m) I.FN ⟨t,J⟩ n (by intro z;cases z) λw=>⟨.bl b,H,I.tok _,Λ,q⟩
end
inductive Uao(K:Ϣ)(f:Str)(D:iP)(σ:St)(y:V)(x:V)(H2:Hp):Prop
 |mk (a C tt)(_:x=.ref a)(_:H2 a=Α (cT a C tt Β))(_:iu K C)(_:ϯ K (.ref C) f=Α Β)(_:∀d,H2 d=Β->D.nx σ (ο (ο H2 d (.xd [(f,y)])) a (cT a C tt (Α d))))
def Ry(K:Ϣ)(ta tv:TE)(f:Str):TS:=λD σ H=>tv σ H λy H1=>ta σ H1 λx H2=>Uao K f D σ y x H2
section
variable {X:Cx}{o e value:Expr}{f:Str}{pos pos':Pos}{ta tv:TE}
theorem vx(O:PE X o ta)(P:PE X value tv)(Q:ĺ value (Α (.Attribute o f pos')) pos.line X.env=pure Ε):PS X (.Assign [.Attribute o f pos'] value pos) (Ry X.K ta tv f):=by
 intro i s v H D I h
 refine ġ (bq (P i s v H _ I h) λu R ⟨y,S,T,U,q⟩=>bq (O i R v S _ T q) λY d Z=>?_) Q
 obtain⟨x,H2,m,rx,a,C,tt,ex,F,c,n,q2⟩:=Z
 subst ex
 obtain rfl:Y=ϭ a:=rx
 have G:=(m.Fi a _ F).1
 have F9:=lt_size G
 refine rH m.FN G c n λh' t' J L hk=>⟨v,_,?_,q2 d.heap.objs.size (m.Fi.fresh (ϛ _))⟩
 obtain⟨j,es,ep,E,r⟩:=id L
 have Ig:=(SX.mp E).2
 have M:=ϣ d.heap Ig
 have I3:=m.laid (a:=d.heap.objs.size) (o:=.xd [(f,y)]) (h':=d.heap.push j) (t':=d.toks) (λb u z=>Υ _ z) (ϛ _)
  ⟨_,L.at (λo z=>by rw[E]at z;cases z;exact M),λg=>by
   by_cases p:g=f
   ·have l:=beq_iff_eq.mpr p
    simp only[ď,l,Ι p]
    exact U
   ·have l:=beq_eq_false_iff_ne.mpr p
    simp only[ď,l,Θ p]
    trivial⟩
 have FG:=Þ F9
 refine I3.write (x:=a) (e:=a) (h':=h') (t':=t') (by rw[af FG,F];exact È) (.inl Λ) (λb u l z=>?_) ⟨_,J⟩ (oH J)
 by_cases N:b=d.heap.objs.size
 ·subst N
  have t:=z
  rw[M]at t
  cases t
  exact E
 ·have t:d.heap.get? b=Α u:=by
   have z0:=z
   exact(QC z0).elim (λw=>Κ w.1 N) λw=>w
  exact hk b u l t
end
section
variable {P:Program}{w:À}{K:Ϣ}{mg:Str->Option Ο}{μ:ò}
theorem F0.KD{d:Ã}(F:F0 K x qual d f fd)(S:ap N ps (ag d))(len:∀c H Q E,sp c H Q E->c.length=ps.length)
  (e:∀(cdv:Ο)(A:é)(a:List Env)(s:Ω)(H:Hp)(c:List V)(Q:VK)(E:XK),Fj k (A.deeper (gw qual (ag d) s.heap.objs.size f cdv))->sp c H Q E->
   ∃t,Ib (jk (oY b P w) P w K mg μ N qual (ag d) f cdv A a s H E) (aJ d) t/\t {nx:=λ_ g=>Q .Fp g,rt:=Q} (start N c) H):EW P w K mg μ (oY b P w) (k+1) f fd ps sp:=by
 obtain⟨l,m,kV,doc,pm,an,cdv,ct,n,rfl,lk,h⟩:=F.ex
 exact Ae lk h S len λA a s H c Q E i j=>e cdv A a s H c Q E i j
end
theorem uA:gm (oY b P w) X E0:=λ_ _ _ _ _ _ _ a=>by obtain⟨_,_,_,_,_,_,_,_,_,_,_,_,h⟩:=a;exact h.elim
def V4(b:Bool)(X:Cx)(e:Expr)(t:St->Hp->VK->XK->Prop):Prop:=
 ∀(ν:List (Ν×Obj))(s:Ω)(σ:St)(H:Hp)(Q:VK)(E:XK),ς X ν σ H s->t σ H Q E->ϩ (Ϧ X.prog X.w) X.A (eval e X.env) (EP X ν σ Q) (XP b X ν σ E) s
section
variable {b:Bool}{X:Cx}{k:Nat}{f C:Ν}{fd:ë}{ps:List Str}{sp:Sp}{FW:List V}{ds:List Ο}{x m:Str}{p pos apos:Pos}{e o:Expr}{es:List Expr}{ta:TE}{t:TA}
theorem vv{c:St}(F:EW X.prog X.w X.K X.mg X.μ (oY b X.prog X.w) k f fd ps sp)(i:Fj k X.A)(j:Binds X.K fd ps ds)(l:τ FW ds)(d:X.ex=[])
  (I:ς X ν c H s) (r:τ vs us) (h:sp (vs++FW) H Q E):ϩ (Ϧ X.prog X.w) X.A (call (.ref f) us) (EP X ν c Q) (XP b X ν c E) s:=by
 have g:=r.append l
 have n:(us++ds).length=ps.length:=by rw[←g.length];exact F.len _ _ _ _ h
 refine ũ (ş (F.run X.A X.stack s H ⟨us,[]⟩ (us++ds) (vs++FW) Q E i I.Mu (j s us I.FN n) g h) λr v a=>?_)
 cases r with
 |error e=>exact XP.Nz I d a
 | ok q =>
  cases q with
  |ret u=>exact I.after a
  |next=>exact Ö a
  |brk=>exact Ö a
  |cont=>exact Ö a
theorem PA.at{a:St}(c:PA X.KY es t)(I:ς X ν a H s)(h:t a H Q):
  ϩ (Ϧ X.prog X.w) X.A (spliced (Ė pos (Ϭ es X.env))) (AP X ν a Q) E s:=
 Ë (c pos ν s a H Q (I.HH _) h) (λ_ _ d=>by obtain⟨g,i,j,r,q⟩:=d;exact⟨g,i,j.FO,r,q⟩) λ_ _ z=>Ö z
theorem PE.at{a:St}(c:PE X.KY e te)(I:ς X ν a H s)(h:te a H Q):
  ϩ (Ϧ X.prog X.w) X.A (eval e X.env) (EP X ν a Q) E s:=
 Ë (c ν s a H Q (I.HH _) h) (λ_ _ d=>by obtain⟨v,g,i,r,q⟩:=d;exact⟨v,g,i.FO,r,q⟩) λ_ _ z=>Ö z
theorem se(F:EW X.prog X.w X.K X.mg X.μ (oY b X.prog X.w) k f fd ps sp)(i:Fj k X.A)(j:Gl X x)(l:X.mg x=Α (.ref f))(n:Ϩ X.K (.ref f)=Δ)(u:Binds X.K fd ps ds)(v:τ FW ds)(a:X.ex=[])
  (y:PA X.KY (e:: es) t) (z:autoParam ((x == ("__debug__":Str))=Ε) θ) (B:autoParam (Ϭ (e:: es) X.env=(Ε,eval e X.env):: Ϭ es X.env) η) (D:autoParam ((Ė pos (Ϭ es X.env)).any (·.1)=Ε) η):
  V4 b X (.Call (.Name x p) (e:: es) [] pos) (λc H Q E=>C2 sp FW E t c H Q):=by
 intro d s c H Q E I h
 refine ē (fK I j l ?_ z)
 refine PySem.W.callWith_K (h₀:=X.μ) I.ok.mod.Kl n (bq (y.at I h) λus G ⟨J,L,g,r,q⟩=>⟨g.FN,?_⟩) B D
 exact vv F i u v a g r q
theorem sd(B:PE X.KY o ta)(c:IK X.K C)(g:ck X.K C m f)(F:EW X.prog X.w X.K X.mg X.μ (oY b X.prog X.w) k f fd ps sp)(D:Fj k X.A)(G:Binds X.K fd ps ds)(J:τ FW ds)(d:X.ex=[])(L:PA X.KY (e:: es) t)
  (M:autoParam (Ϭ (e:: es) X.env=(Ε,eval e X.env):: Ϭ es X.env) η) (N:autoParam ((Ė pos (Ϭ es X.env)).any (·.1)=Ε) η)
  (O:eval (.Call (.Attribute o m apos) (e:: es) [] pos) X.env=(do
   let i ← eval o X.env
   G7 apos.atName
   let (f,first) ← ŵ [i] (getMethod i m pl)
   callWith pos f first (Ė pos (Ϭ (e:: es) X.env)) (pM pos (Ś [] X.env))):=by rfl):
  V4 b X (.Call (.Attribute o m apos) (e:: es) [] pos) (λj H Q E=>xQ C m sp FW E ta t j H Q):=by
 intro n s j H Q E I h
 refine PySem.W.methodCall_KW (pl:=pl) (bq (B.at I h) λu U P=>?_) O
 obtain⟨x,Y,v,R,a,Z,fs,ex,S,l,q⟩:=P
 subst ex
 obtain rfl:u=ϭ a:=R
 refine j4 v S c g l ?_
 refine PySem.W.callWith_K (first:=[.ref a]) (h₀:=X.μ) I.ok.mod.Kl g.kp (bq (L.at v q) λus s2 ⟨vs,H2,z,r,T⟩=>⟨z.FN,?_⟩) M N
 exact vv (us:=.ref a:: us) (vs:=.ref a:: vs) F D G J d z (.cons Λ r) T
end
def CO(b:Bool)(X:Cx)(body:List Ã)(t:iP->St->Hp->(St->XK)->Prop):Prop:=
 ∀(ν:List (Ν×Obj))(s:Ω)(σ:St)(H:Hp)(D:iP)(E:St->XK),ς X ν σ H s->t D σ H E->ϩ (Ϧ X.prog X.w) X.A (execs body X.env) (SP X ν D) (λev s'=>∃σ',XP b X ν σ' (E σ') ev s') s
section
variable {b:Bool}{X:Cx}{e:Expr}{t:St->Hp->VK->XK->Prop}{pos IB:Pos}{n:Str}{i:Nat}
theorem vW(g:V4 b X e t)(j:autoParam (ĺ e Β pos.line X.env=pure Ε) η):CO b X [.Expr e pos] (λD c H E=>t c H (λ_ d=>D.nx c d) (E c)):=by
 intro a s c H D E I h
 refine Ĺ (Ë (wpAny_Expr_any (Q:=SP X a D) (Ë (g a s c H _ _ I h) (λv l m=>by obtain⟨x,d,o,r,p⟩:=m;exact⟨c,d,o,p⟩) (λ_ _ z=>⟨c,z⟩)) I.quiet j) (λf l q=>?_) λ_ _ z=>z)
 cases f with
 |next=>exact ċ q
 |ret v=>exact q
 |brk=>exact q
 |cont=>exact q
theorem Az(g:X.N.Nodup)(j:X.N[i]?=Α n)(l:Loc X.env.scope n)(m:V4 b X e t)(o:autoParam (ĺ e (Α (.Name n IB)) pos.line X.env=pure Ε) η)
  (p:autoParam (X.fn n=Δ∨X.env.scope.names.lookup n=Α .local) ζ):
  CO b X [.Assign [.Name n IB] e pos] (λD c H E=>t c H (λv d=>D.nx (c.set i (Α v)) d) (E c)):=by
 intro a s c H D E I h
 refine Ĺ (Ë (wpAny_Assign_Name (Q:=SP X a D) (Ë (m a s c H _ _ I h) (λv r u=>by obtain⟨x,d,w,y,A⟩:=u;exact jF w g j l y (λC B=>⟨_,d,B,A⟩) p) (λ_ _ z=>⟨c,z⟩)) o) (λf r q=>?_) λ_ _ z=>z)
 cases f with
 |next=>exact ċ q
 |ret v=>exact q
 |brk=>exact q
 |cont=>exact q
end
section
variable {M:Model}{A:é}{E:Ο->Ω->Prop}{s:Ω}
theorem ll(x:K8 n s.heap e cls dd ch)
  (h:∀j,K8 n j e cls dd ch->qc fs ch s.heap j->Q () {s with heap:=j}):ϩ M A (setFlight (.ref e) Β) Q E s:=by
 obtain⟨p,q,d,rfl,rfl,g,r,⟨a,rfl⟩|⟨T,C,y,a,t,u,l,B,rfl⟩⟩:=x
 ·unfold setFlight
  refine Ρ (ě d g a ?_)
  rw[Θ (by decide)]
  exact Ϥ (h s.heap ⟨p,q,d,Λ,Λ,g,r,.inl ⟨a,Λ⟩⟩ ⟨λ_ _ z _ _=>z,λ_ o z _=>⟨o.slots,z⟩,λ_ o z=>⟨o,z⟩⟩)
 ·unfold setFlight
  refine Ρ (ě d g a ?_)
  rw[Ι (show(ϭ T != Û)=Δ from by simp)]
  have v:=(Ĭ.mp B).1
  have other:∀b,b≠T->(s.heap.update T (ã (·.setIfInBounds 3 ((Β:Option Ν).elim Û λf=>ū f)))).get? b=s.heap.get? b:=λb i=>Î _ _ (ϧ i)
  have w:=á (ã (·.setIfInBounds 3 ((Β:Option Ν).elim Û λf=>ū f))) u (Ī (ā l _))
  refine ı u l v (h _ ⟨p,q,(other e (ϧ t)).trans d,Λ,Λ,g,r,.inr ⟨T,_,_,a,t,w,ā l _,by simp[v],Λ⟩⟩ ⟨λb o z c _=>?_,λb o z c=>?_,λb o z=>?_⟩)
  ·simp only[ύ,ϡ,or_false,not_or]at c
   exact(other b c.2).trans z
  ·simp only[ύ,ϡ,or_false,not_or]at c
   exact⟨o.slots,(other b c.2).trans z⟩
  ·by_cases i:b=T
   ·subst i;exact⟨_,w⟩
   ·exact⟨o,(other b i).trans z⟩
end
theorem mj{u:St}(I:ς X ν u H s)(J:X.N.Nodup)(B:X.N[i]?=Α x)(K:X.env.kindOf x=Α .local)
  (h:∀C,ς X ν (u.set i Β) H C->Q () C):ϩ M A (do bindName X.env x .none;unbindBehindTheSuite X.env x pos) Q E s:=by
 obtain⟨m,D,L⟩:=id I.loc
 have O:(X.env.scope.kind == .class||(X.env.scope.kind == .module&& X.env.locals != X.env.globals))=Ε:=by rw[I.ok.kind];rfl
 have Ll:=I.Ll
 refine wpAny_nameGoes_keeps K D O λh' v P f=>?_
 obtain⟨oL,_,_,R,_⟩:=id D
 have a:∀b o,X.s₀.heap.get? b=Α o->b≠X.env.locals:=λb o e=>Þ (Ϗ (lt_size e) I.ok.above)
 refine h _ ⟨I.ok,I.os,I.bare,⟨λb o e n w l=>(f.2 b (a b o e)).trans (I.μ.keep b o e n w l),λb o e n w l=>?_,I.μ.free,λb o e l=>?_,I.μ.HQ,I.μ.HF,I.μ.HR⟩,⟨_,P,λj y S g r T=>?_⟩,λy c e=>?_,I.free,I.FC,λp U=>?_,λb Y e=>?_,by simpa using I.len⟩
 ·obtain⟨Z,g⟩:=I.μ.slot b o e n w l
  exact⟨Z,(f.2 b (a b o e)).trans g⟩
 ·obtain⟨o',g⟩:=I.μ.there b o e l
  exact⟨o',(f.2 b (a b o e)).trans g⟩
 ·have F:j≠i:=λz=>by
   subst z
   have F9:j<u.length:=by rw[I.len];exact(gQ0 B)
   rw[ń F9]at r
   cases r
  rw[ę (ϧ F)]at r
  obtain⟨u',r',q⟩:=L j y S g r T
  refine⟨u',r',?_⟩
  rcases q with ⟨k,e⟩|⟨k,c,e,z⟩
  ·refine .inl ⟨k,?_⟩
   have:y≠x:=λe=>F (og J g (e▸B))
   simp[this,e]
  ·exact .inr ⟨k,c,e,z.sameBut f (Ll y c e)⟩
 ·obtain⟨G,z⟩:=I.cell y c e
  exact⟨G,z.sameBut f (Ll y c e)⟩
 ·obtain⟨e,n,ne,nf,d⟩:=I.pin p U
  exact⟨(f.2 p.1 ne).trans e,n,ne,nf,d⟩
 ·refine(I.Fi b Y e).Ho (λc G t q=>(f.2 c ?_).trans q) (λ_ q=>q) λ_ _ q=>q
  rintro rfl
  rcases t with z|t
  ·rw[←z,I.free]at e;cases e
  ·rw[I.free]at t;cases t
def Db(K:Ϣ)(c:Ο)(i:Nat)(tb:iP->St->Hp->(St->XK)->Prop)(th:Ν->Obj->TS):TS:=λD σ H =>
 tb D σ H λσ' cls dd H'=>PySem.W.exmOne K cls c=Α Δ/\∀ea oe vs,oe.cls=cls->oe.dict=dd->oe.data=.fields vs->H' ea=Β->
  th ea oe {nx:=λσ2 H2=>D.nx (σ2.set i Β) H2,rt:=D.rt,bk:=λσ2 H2=>D.bk (σ2.set i Β) H2,ct:=λσ2 H2=>D.ct (σ2.set i Β) H2} (σ'.set i (Α (.ref ea))) H'
theorem yP(O:X.stack=X.env:: X.outer)(R1:X.env.frame=Α X.env.locals)
  (C:X.N.Nodup) (E:X.N[i]?=Α n) (t:X.env.kindOf n=Α .local) (hg:Gl X y) (hm:X.mg y=Α c) (a:CO b X body tb) (hh:∀ea oe,Ib (X.hand ea oe) (F:: Jy) (th ea oe))
  (IU:autoParam ((y == ("__debug__":Str))=Ε) θ):
  PS X (.Try body [.ExceptHandler (Α (.Name y np)) (Α n) (F:: Jy) HU] [] [] pos) (Db X.K c i tb th):=by
 intro g s σ H D I h
 refine Lw (Ë (a g s σ H D _ I h) (λf x q=>?_) λev x ⟨σ1,e,P,dd,ch,Q,ee,B,KA,L,R3,q⟩=>?_)
 ·cases f with
  |next=>exact ċ q
  |ret v=>exact q
  |brk=>exact q
  |cont=>exact q
 subst ee
 have R4:=O▸B.stack
 refine ja (μ:=X.μ) (O▸B.ok.frames) R4 R1 KA λR R5 G R6 Lz=>?_
 have S:=B.FX (h':=R) (O▸R6) λb a=>⟨(L b a).1,(L b a).2.1,(L b a).2.2,KA.rec b a⟩
 have M:∀b∈R5,X.s₀.heap.get? b=Β/\Q b=Β/\∀p∈X.pn++g,p.1≠b:=λb a=>by
  rcases Lz b a with z|z
  ·exact L b z
  ·refine⟨ĕ (ώ B.sz z),B.Fi.fresh z,λp hp z2=>?_⟩
   have:=lt_size (B.pin p hp).1
   rw[z2]at this
   exact Κ this (not_lt.mpr z)
 have ty:PySem.W.Looks (Ϧ X.prog X.w) R (ZN (.ref e)) P:=by
  obtain⟨oe,vs,T,U,_⟩:=G
  exact U▸(PySem.W.Looks.ld T).andThen .now
 refine sm (kh ?_) (by intro z;cases z)
 have Y:=(M e G.mem).2.1
 obtain⟨R7,L4,Kq,IL,hd2,R8,_⟩:=id G
 have J2:=S.hand (ea:=e) (oe:=R7) Kq R8 Y
 refine fK J2 hg hm ?_ IU
 refine PySem.W.exm_one S.FN ty R3 (X.A.mark (Α (.ref e))) _ _ ⟨R,x.gens,x.drawn,x.toks,x.os⟩ (λ_ _ z=>z) ?_
 refine codeAny_handlers_suite_as ?_
 refine ll (fs:=oE X.stack) G λh3 L5 R9=>?_
 have I3:=S.FX (h':=h3) R9 λb a=>⟨(M b a).1,(M b a).2.1,(M b a).2.2,G.rec b a⟩
 obtain⟨oe,vs,T,U,hd,hf,_⟩:=id L5
 have J3:=I3.hand (ea:=e) (oe:=oe) T hf Y
 refine jF (X:=X.hand e oe) J3 C E (.inl t) (v:=.ref e) Λ (λs4 J4=>?_) (.inr t)
 refine Ë (hh e oe g s4 _ Q _ J4 (q e oe vs U hd hf Y)) (λf s5 d=>?_) λ_ _ z=>Ö z
 dsimp only
 cases f with
 | next =>
  obtain⟨l,m,o,d⟩:=d
  exact mj (o.G9 I.ok) C E t λZ r=>⟨_,m,r,d⟩
 | brk =>
  obtain⟨l,m,o,d⟩:=d
  exact mj (o.G9 I.ok) C E t λZ r=>⟨_,m,r,d⟩
 | cont =>
  obtain⟨l,m,o,d⟩:=d
  exact mj (o.G9 I.ok) C E t λZ r=>⟨_,m,r,d⟩
 | ret u =>
  obtain⟨v,l,m,o,rv,d⟩:=d
  exact mj (o.G9 I.ok) C E t λZ r=>⟨v,_,m,r,rv,d⟩
section
variable {b:Bool}{X:Cx}{k:Nat}{f C:Ν}{fd:ë}{ps:List Str}{sp:Sp}{FW:List V}{ds:List Ο}{m:Str}{pos apos:Pos}{o:Expr}{ta:TE}
end
def Yo(K:Ϣ)(c:Ο)(tb:iP->St->Hp->(St->XK)->Prop)(th:Ν->Obj->TS):TS:=λD σ H =>
 tb D σ H λσ' cls dd H'=>PySem.W.exmOne K cls c=Α Δ/\∀ea oe vs,oe.cls=cls->oe.dict=dd->oe.data=.fields vs->H' ea=Β->th ea oe D σ' H'
theorem DK(E:X.stack=X.env:: X.outer)(S:X.env.frame=Α X.env.locals)
  (T:Gl X y) (U:X.mg y=Α c) (a:CO b X body tb) (Y:∀ea oe,Ib (X.hand ea oe) (r:: Jy) (th ea oe))
  (Z:autoParam ((y == ("__debug__":Str))=Ε) θ):
  PS X (.Try body [.ExceptHandler (Α (.Name y np)) Β (r:: Jy) HU] [] [] pos) (Yo X.K c tb th):=by
 intro g s σ H D I h
 refine Lw (Ë (a g s σ H D _ I h) (λf n q=>?_) λev n ⟨σ1,e,F,dd,ch,G,ee,o,P,B,R3,q⟩=>?_)
 ·cases f with
  |next=>exact ċ q
  |ret v=>exact q
  |brk=>exact q
  |cont=>exact q
 subst ee
 have R4:=E▸o.stack
 refine ja (μ:=X.μ) (E▸o.ok.frames) R4 S P λJ R5 t R6 Lz=>?_
 have L:=o.FX (h':=J) (E▸R6) λb a=>⟨(B b a).1,(B b a).2.1,(B b a).2.2,P.rec b a⟩
 have C:∀b∈R5,X.s₀.heap.get? b=Β/\G b=Β/\∀p∈X.pn++g,p.1≠b:=λb a=>by
  rcases Lz b a with z|z
  ·exact B b z
  ·refine⟨ĕ (ώ o.sz z),o.Fi.fresh z,λp hp z2=>?_⟩
   have:=lt_size (o.pin p hp).1
   rw[z2]at this
   exact Κ this (not_lt.mpr z)
 have ty:PySem.W.Looks (Ϧ X.prog X.w) J (ZN (.ref e)) F:=by
  obtain⟨oe,Q,M,N,_⟩:=t
  exact N▸(PySem.W.Looks.ld M).andThen .now
 refine sm (kh ?_) (by intro z;cases z)
 have O:=(C e t.mem).2.1
 obtain⟨R7,L4,Kq,IL,hd2,R8,_⟩:=id t
 have J2:=L.hand (ea:=e) (oe:=R7) Kq R8 O
 refine fK J2 T U ?_ Z
 refine PySem.W.exm_one L.FN ty R3 (X.A.mark (Α (.ref e))) _ _ ⟨J,n.gens,n.drawn,n.toks,n.os⟩ (λ_ _ z=>z) ?_
 refine V8 ?_
 refine ll (fs:=oE X.stack) t λh3 L5 R9=>?_
 have I3:=L.FX (h':=h3) R9 λb a=>⟨(C b a).1,(C b a).2.1,(C b a).2.2,t.rec b a⟩
 obtain⟨oe,Q,M,N,hd,R,_⟩:=id L5
 have J3:=I3.hand (ea:=e) (oe:=oe) M R O
 refine Ë (Y e oe g _ _ G _ J3 (q e oe Q N hd R O)) (λf s5 d=>?_) λ_ _ z=>Ö z
 cases f with
 | next =>
  obtain⟨j,l,m,d⟩:=d
  exact⟨_,l,m.G9 I.ok,d⟩
 | brk =>
  obtain⟨j,l,m,d⟩:=d
  exact⟨_,l,m.G9 I.ok,d⟩
 | cont =>
  obtain⟨j,l,m,d⟩:=d
  exact⟨_,l,m.G9 I.ok,d⟩
 | ret u =>
  obtain⟨v,j,l,m,rv,d⟩:=d
  exact⟨v,_,l,m.G9 I.ok,rv,d⟩
end L2
namespace PySem
theorem ph:entryFor table "proto.unchain"=Α Builtin.«proto.unchain»:=entryFor_of_fast (by kernel_rfl)
section
variable {prog:Program}{w:À}{A:é}{E:Ο->Ω->Prop}{env:Env}
theorem tK(X:A.handled=Α (.ref hd))(Y:∀(R:Ο->Ω->Prop) s',R .none s'->ϩ (Ϧ prog w) A c R E s')
  (h:ϩ (Ϧ prog w) A x (λv a=>∃e t m F q N bs n G H sub ab i I J K L M O f,v=.ref e/\n.contains (.type "BaseException")=Δ/\a.heap.get? C=Α (Ŷ F q C N bs n G H sub ab i I J K L M O f)/\
   a.heap.get? e=Α {cls:=.ref C,dict:=m,data:=.fields #[.ref t,.none,.none,.none,.bool Ε,.none]}/\e≠hd/\e≠C/\(∃o u,a.heap.get? hd=Α o/\o.data=.fields u/\u[2]?=Α .none)/\
   ∀p,p.get? e=Α {cls:=.ref C,dict:=m,data:=.fields #[.ref t,.none,.ref hd,.none,.bool Δ,.none]}->(∀b,b≠e->p.get? b=a.heap.get? b)->p.objs.size=a.heap.objs.size->E (.ref e) {a with heap:=p}) E s):
  ϩ (Ϧ prog w) A (R0 env (Α x) (Α c)) Q E s:=by
 unfold R0
 refine Ρ (Ë h (λv a h₁=>?_) λ_ _ x=>x)
 obtain⟨e,t,m,F,q,N,bs,n,G,H,sub,ab,i,I,J,K,L,M,O,f,rfl,Ik,hC,he,FG,Qb,⟨o,u,hoh,hhs,h2⟩,hE⟩:=h₁
 have Yk:(ϭ C:: n).contains (.type "BaseException")=Δ:=by rw[wz,Ik,rz]
 obtain⟨hp,g,d,tk,os⟩:=a
 refine Ρ (đ (Y _ _ (Ρ (Ϥ ?_))))
 dsimp only
 repeat (first|with_reducible refine Ě he ?_|with_reducible refine Ě hC ?_|(with_reducible refine r4 hC ?_;rw[Yk])|wp_step)
 unfold raiseNew
 refine Ρ (wpAny_handled ?_)
 rw[X]
 dsimp only
 rw[Ι (show(ϭ hd != ϭ e)=Δ by simp[ϧ FG])]
 generalize hH:(hp.update e (ã λx=>x.setIfInBounds 3 Û)).update e (ã λx=>x.setIfInBounds 4 (lr Δ))=H2
 have other:∀b,b≠e->H2.get? b=hp.get? b:=λb hb=>by rw[←hH,Î _ _ (ϧ hb),Î _ _ (ϧ hb)]
 have self:H2.get? e=Α {cls:=.ref C,dict:=m,data:=.fields #[.ref t,.none,.none,.none,.bool Δ,.none]}:=by
  rw[←hH]
  exact á (ã λx=>x.setIfInBounds 4 (lr Δ)) (á (ã λx=>x.setIfInBounds 3 Û) he Λ) Λ
 have sz:H2.objs.size=hp.objs.size:=by rw[←hH,size_after_update,size_after_update]
 have Yp:=(other hd (ϧ FG)).trans hoh
 refine Ρ (đ (wpAny_runValue (codeAny_builtin ph ?_)))
 unfold Builtin.«proto.unchain»
 refine Ρ (ě Yp hhs h2 ?_)
 rw[Ι (by rfl)]
 refine Ϥ ?_
 dsimp only
 refine Ρ ?_
 refine ı self Λ (by show 2<6;decide) (wpAny_throw ?_)
 refine hE _ (á (ã λx=>x.setIfInBounds 2 (ϭ hd)) self Λ) (λb hb=>?_) ?_
 ·rw[Î _ _ (ϧ hb)];exact other b hb
 ·rw[size_after_update];exact sz
end
end PySem
namespace L2
open PySem PySem.Spec PyProof.Rows
def Da(K:Ϣ)(c:Ο)(C:Ν)(E:XK)(tb:iP->St->Hp->(St->XK)->Prop)(th:Ν->Obj->TX):TS:=λD σ H =>
 tb D σ H λσ' cls dd H'=>PySem.W.exmOne K cls c=Α Δ/\∀ea oe vs,oe.cls=cls->oe.dict=dd->oe.data=.fields vs->H' ea=Β->th ea oe σ' H' λMx H2=>E (.ref C) Mx H2
theorem yO(M:X.stack=X.env:: X.outer)(R1:X.env.frame=Α X.env.locals)
  (hg:Gl X y) (hm:X.mg y=Α c) (d:CO Δ X body tb) (hq:cn X.K C init=Δ) (hx:HM Ε X E) (ho:∀hd,PassesOwnAt (Ϧ X.prog X.w) (X.A.mark hd) X.A X.env X.xe) (hh:∀ea oe,PX (X.hand ea oe) e C (th ea oe))
  (IU:autoParam ((y == ("__debug__":Str))=Ε) θ):
  PS X (.Try body [.ExceptHandler (Α (.Name y np)) Β [.Raise (Α e) (Α (.Constant .none cj FE)) Yq] HU] [] [] pos) (Da X.K c C E tb th):=by
 intro a s σ H D I h
 refine Lw (Ë (d a s σ H D _ I h) (λf j q=>?_) λev j ⟨O,e,P,dd,ch,Q,ee,l,KA,G,R3,q⟩=>?_)
 ·cases f with
  |next=>exact ċ q
  |ret v=>exact q
  |brk=>exact q
  |cont=>exact q
 subst ee
 have R4:=M▸l.stack
 refine ja (μ:=X.μ) (M▸l.ok.frames) R4 R1 KA λS R5 n R6 Lz=>?_
 have U:=l.FX (h':=S) (M▸R6) λb d=>⟨(G b d).1,(G b d).2.1,(G b d).2.2,KA.rec b d⟩
 have J:∀b∈R5,X.s₀.heap.get? b=Β/\Q b=Β/\∀p∈X.pn++a,p.1≠b:=λb d=>by
  rcases Lz b d with z|z
  ·exact G b z
  ·refine⟨ĕ (ώ l.sz z),l.Fi.fresh z,λp t z2=>?_⟩
   have:=lt_size (l.pin p t).1
   rw[z2]at this
   exact Κ this (not_lt.mpr z)
 have ty:PySem.W.Looks (Ϧ X.prog X.w) S (ZN (.ref e)) P:=by
  obtain⟨oe,Z,he,hc,_⟩:=n
  exact hc▸(PySem.W.Looks.ld he).andThen .now
 refine sm (kh ?_) (by intro z;cases z)
 have eH:=(J e n.mem).2.1
 obtain⟨R7,L4,Kq,IL,hd2,R8,_⟩:=id n
 have J2:=U.hand (ea:=e) (oe:=R7) Kq R8 eH
 refine fK J2 hg hm ?_ IU
 refine PySem.W.exm_one U.FN ty R3 (X.A.mark (Α (.ref e))) _ _ ⟨S,j.gens,j.drawn,j.toks,j.os⟩ (λ_ _ z=>z) ?_
 refine V8 ?_
 refine ll (fs:=oE X.stack) n λh3 L5 R9=>?_
 have I3:=U.FX (h':=h3) R9 λb d=>⟨(J b d).1,(J b d).2.1,(J b d).2.2,n.rec b d⟩
 obtain⟨oe,Z,he,hc,hd,hf,hcx,_⟩:=id L5
 have J3:=I3.hand (ea:=e) (oe:=oe) he hf eH
 refine Ĺ ?_
 rw[arm_exec_Raise]
 simp only[evalOpt,Option.map]
 refine Ë ?_ (λ_ _ z=>z) (ho (Α (.ref e)))
 refine Ρ (Đ (tK (C:=C) (hd:=e) Λ (λR s' r=>?_) ?_))
 ·exact Ρ (Constant_none (Ρ (Đ (Ϥ r))))
 ·refine Ρ (Ë (hh e oe a _ _ Q _ J3 (q e oe Z hc hd hf eH)) (λu s4 Fc=>?_) λ_ _ z=>Ö z)
  obtain⟨ea,Mx,tt,H2,eu,J4,L,x,B,LZ,q4⟩:=Fc
  refine Ρ (Đ (Ϥ ?_))
  obtain⟨bm,N,nm,qn,bs,G8,sn,sub,ab,col,Yl,k0,k1,k2,k3,k5,mN,hC,Jg,MB,T⟩:=m6 J4.FN hq
  refine⟨ea,tt,Mx,nm,qn,N,bs,bm,G8,sn,sub,ab,col,Yl,k0,k1,k2,k3,k5,_,eu,py T,hC,L,?_,?_,?_,?_⟩
  ·exact ϧ (LZ (e,oe) (by show(e,oe)∈((e,oe):: X.pn)++a;simp))
  ·intro z
   rw[z,hC]at L
   have:=congrArg (λo=>o.map Obj.data) L
   cases this
  ·exact⟨oe,Z,(J4.pin (e,oe) (by show(e,oe)∈((e,oe):: X.pn)++a;simp)).1,hf,hcx Λ⟩
  ·intro h' g1 g2 g3
   have m:qc (oE X.stack) [ea] s4.heap h':=⟨λb o z d _=>by rw[g2 b (by simpa using d)];exact z,λb o z d=>⟨o.slots,by rw[g2 b (by simpa using d)];exact z⟩,λb o z=>by
    by_cases d:b=ea
    ·subst d;exact⟨_,g1⟩
    ·exact⟨o,by rw[g2 b d];exact z⟩⟩
   have J5:=(J4.G9 I.ok).FX m λb d=>by
    rw[ϋ.mp d]
    exact⟨x,B,λp t=>LZ p (by show p∈((e,oe):: X.pn)++a;rw[qp];exact ϊ _ t),_,_,L,Λ⟩
   refine hx a O _ _ ⟨ea,.ref C,Mx,[ea],H2,Λ,J5,⟨_,_,g1,Λ,Λ,Λ,nofun,.inl ⟨Λ,Λ⟩⟩,λb d=>?_,q4⟩
   rw[ϋ.mp d]
   exact⟨x,B,λp t=>LZ p (by show p∈((e,oe):: X.pn)++a;rw[qp];exact ϊ _ t)⟩
theorem wG{K:Ϣ}(a:Option Ο):
  PassesOwnAt (Ϧ P w) ((jk (oY n P w) P w K mg μ N qual scope f cd A outer s H E).A.mark a) (jk (oY n P w) P w K mg μ N qual scope f cd A outer s H E).A (jk (oY n P w) P w K mg μ N qual scope f cd A outer s H E).env (jk (oY n P w) P w K mg μ N qual scope f cd A outer s H E).xe:=
 PassesOwnAt.leaving (Q₁:=λe b=>oY n P w outer H s E e b)
end L2
namespace L2
open PySem
noncomputable def vJ:Option Int->Ο->Bool
 |none,v=>v == .none
 |some k,v=>Ģ k v
noncomputable def Bx:Option Int->Int
 |none=>4238894112
 |some k=>hashInt k
theorem cN(h:vJ k v=Δ):(k=Β/\v=.none)∨∃i t,k=Α i/\v=.int i t:=by
 cases k with
 |none=>exact .inl ⟨Λ,eq_of_beq h⟩
 |some i=>obtain⟨t,e⟩:=SW h;exact .inr ⟨i,t,Λ,e⟩
section
variable {prog:Program}{w:À}{A:é}{E:Ο->Ω->Prop}{s:Ω}
theorem xk(h:Q 4238894112 {s with toks:=s.toks+1}):ϩ (Ϧ prog w) A (pyHash .none) Q E s:=by
 have a:s.TypeIs .none "NoneType":=rfl
 unfold pyHash
 have c:[Û].any Ο.onHeap=Ε:=rfl
 refine Ρ ?_
 rw[cRoomFor,Θ (by rw[c];exact Ϟ)];refine Ϥ ?_
 refine Ρ (wpAny_specialOf a ő.lookup ?_)
 rw[Θ (by rw[beq_builtin_none];exact Ϟ)]
 refine Ρ (wpAny_specialOf a ő.lookup ?_)
 refine Ρ (wpAny_callSpecialIfBoundUnlessNone?_slot a ő (Lv ő a F.entry_NoneType_hash
  (wpAny_ret_mkInt ?_) (F.args_NoneType_hash_1 _)))
 exact Ϥ h
theorem E8(c:vJ a u=Δ)(d:vJ b v=Δ)(h:Q (decide (a=b)) s):ϩ (Ϧ prog w) A (PySem.eqBool u v) Q E s:=by
 rcases cN c with ⟨rfl,rfl⟩|⟨i,t,rfl,rfl⟩<;>rcases cN d with ⟨rfl,rfl⟩|⟨j,f,rfl,rfl⟩
 ·unfold eqBool
  refine đ ?_
  refine wpAny_ite_split (λ_=>Ρ (wpAny_rule (Ϥ (by simpa using h)))) (λn=>Κ Λ n)
 ·exact PySem.SeqAt.EqAt.none_int j f prog w E Q (by simpa using h)
 ·exact PySem.SeqAt.EqAt.int_none i t prog w E Q (by simpa using h)
 ·refine Lu ?_
  have e:(i == j)=decide (Α i=Α j):=by
   by_cases q:i=j
   ·simp[q]
   ·simp[q]
  rw[e];exact h
end
noncomputable def iZ(prog:Program)(w:À):KeyKind prog w (Option Int) where
 is:=vJ
 hash:=Bx
 inj:=λv a b ha hb=>by
  rcases cN ha with ⟨rfl,rfl⟩|⟨i,t,rfl,rfl⟩<;>rcases cN hb with ⟨rfl,e⟩|⟨j,t',rfl,e⟩
  ·rfl
  ·cases e
  ·cases e
  ·cases e;rfl
 byValue:=λk v h=>by
  rcases cN h with ⟨_,rfl⟩|⟨i,t,_,rfl⟩<;>rfl
 pyHash:=λ{A E s k v Q} hv h=>by
  rcases cN hv with ⟨rfl,rfl⟩|⟨i,t,rfl,rfl⟩
  ·exact xk h
  ·exact wpAny_pyHash_int h
 eqBool:=λhu hv h=>E8 hu hv h
 «strs»:=λk x t v h=>by
  rcases cN h with ⟨_,e⟩|⟨i,t,_,e⟩<;>cases e
open PySem.Spec PyProof.Rows
abbrev cx:=List (Option Int)
noncomputable def AH:Option Int->V
 |none =>.Fp
 |some i =>.int i
abbrev kE:=cx×Ν×V
abbrev oU(p:kE)(q:cx×Ν×Ο):Prop:=p.1=q.1/\p.2.1=q.2.1/\RelV p.2.2 q.2.2
def ES(P:Program)(w:À)(a:Ν)(EZ:List kE):ò->Prop:=λh=>EZ.length<=Τ/\(a == Č)=Ε/\∃xs,Paired oU EZ xs/\
 ∃o es ep,h.get? a=Α o/\o.ExactDict/\o.data=.dict es ep/\es.toList=xs.map (entryOfKey (Ņ (iZ P w)))/\(xs.map (·.1)).Nodup
noncomputable def tE(P:Program)(w:À)(a:Ν)(EZ:List kE):HO:=.ext (ES P w a EZ)
def FY(P:Program)(w:À)(H:Hp)(a:Ν)(EZ:List kE):Prop:=H a=Α (tE P w a EZ)/\∀x∈EZ,H x.2.1=Α (.tup (x.1.map AH))
theorem FY.same(h:FY P w H a EZ)(s:EU H H'):FY P w H' a EZ:=⟨s _ _ h.1,λx b=>s _ _ (h.2 x b)⟩
noncomputable def fO(EZ:List kE)(k:cx):Option V:=(EZ.find? λx=>decide (x.1=k)).map (·.2.2)
noncomputable def wE(k:cx)(v:V)(x:kE):kE:=if x.1=k then (x.1,x.2.1,v) else x
noncomputable def kR(EZ:List kE)(k:cx)(b:Ν)(v:V):List kE:=if (fO EZ k).isSome then EZ.map (wE k v) else EZ++[(k,b,v)]
theorem mO:fO [] k=Β:=rfl
theorem dO:fO (x:: EZ) k=if x.1=k then Α x.2.2 else fO EZ k:=by
 unfold fO
 rw[Ķ]
 by_cases h:x.1=k
 ·rw[Ζ h,Ι h];rfl
 ·rw[Η h,Θ h]
theorem xH:fO (b.map (wE k v)) k'=if k'=k then (fO b k).map (λ_=>v) else fO b k':=by
 induction b with
 |nil=>rw[gM,mO,mO];split<;>rfl
 | cons x b c =>
  rw[ϳ,dO,c,dO,dO]
  unfold wE
  by_cases h:x.1=k<;>by_cases a:k'=k
  ·have:x.1=k':=h.trans a.symm
   simp[h,a]
  ·have:¬x.1=k':=λz=>a (z.symm.trans h)
   rw[Ι h,Θ a,Θ this,Θ this,Θ a]
  ·subst a
   simp[h]
  ·simp[h,a]
theorem rA(h:fO a k=Β):fO (a++[(k,b,v)]) k'=if k'=k then Α v else fO a k':=by
 induction a with
 | nil =>
  rw[nil_append,dO,mO]
  by_cases e:k'=k
  ·rw[Ι e,Ι e.symm]
  ·rw[Θ e,Θ (ϧ e)]
 | cons x a d =>
  rw[dO]at h
  by_cases c:x.1=k
  ·rw[Ι c]at h;cases h
  ·rw[Θ c]at h
   rw[qp,dO,d h,dO]
   by_cases e:k'=k
   ·subst e;rw[Θ c,Ι Λ,Ι Λ]
   ·rw[Θ e,Θ e]
theorem xG:fO (kR EZ k b v) k'=if k'=k then Α v else fO EZ k':=by
 unfold kR
 cases h:fO EZ k with
 |none=>rw[Θ (by simp)];exact rA h
 | some u =>
  rw[Ι (by simp),xH,h];rfl
theorem lA:(kR EZ k b v).length<=EZ.length+1:=by
 unfold kR
 split
 ·rw[Μ];omega
 ·rw[Ξ];exact ϛ _
theorem wD{F:cx->Ν->Prop}(h:∀x∈EZ,F x.1 x.2.1)(d:F k b):∀x∈kR EZ k b v,F x.1 x.2.1:=by
 intro x a
 unfold kR at a
 split at a
 ·obtain⟨y,c,rfl⟩:=ϟ.mp a
  unfold wE
  split
  ·exact h y c
  ·exact h y c
 ·rcases ϝ.mp a with q|q
  ·exact h x q
  ·rw[ϋ.mp q];exact d
theorem qY(r:Paired oU EZ xs)(k:cx):GC (fO EZ k) ((Sn xs k).map (·.2)):=by
 induction r with
 |nil=>exact È
 | @cons p q _ _ h1 _ ih =>
  rw[dO]
  unfold Sn at ih⊢
  rw[Ķ]
  by_cases e:p.1=k
  ·rw[Ι e,Ζ (h1.1.symm.trans e)];exact h1.2.2
  ·rw[Θ e,Η (λz=>e (h1.1.trans z))];exact ih
theorem l5(r:GC o u):o.isSome=u.isSome:=by
 cases o<;>cases u<;>first|rfl|exact r.elim
theorem wB(h:GC o u)(a:RelV d r):RelV (o.getD d) (u.getD r):=by
 cases o<;>cases u<;>first|exact a|exact h|exact h.elim
theorem Cf(r:Paired oU EZ xs)(a:RelV v u):Paired oU (EZ.map (wE k v)) (xs.map (putAt k u)):=by
 induction r with
 |nil=>exact .nil
 | @cons p q _ _ h1 _ ih =>
  refine .cons ?_ ih
  unfold wE putAt
  by_cases e:p.1=k
  ·rw[Ι e,Ι (h1.1.symm.trans e)];exact⟨h1.1,h1.2.1,a⟩
  ·rw[Θ e,Θ (λz=>e (h1.1.trans z))];exact h1
theorem Aj(r:Paired oU EZ xs)(h:oU p q):Paired oU (EZ++[p]) (xs++[q]):=by
 induction r with
 |nil=>exact .cons h .nil
 |cons a _ b=>exact .cons a b
theorem Ce(r:Paired oU EZ xs)(a:RelV v u):Paired oU (kR EZ k b v) (storedH xs k b u):=by
 have h:=l5 (qY r k)
 rw[nE]at h
 unfold kR storedH
 rw[h]
 split
 ·exact Cf r a
 ·exact Aj r ⟨Λ,Λ,a⟩
section
variable {P:Program}{w:À}{H:Hp}{h:ò}{a b:Ν}{EZ:List kE}{k:cx}
theorem kU:∀{k:cx}{us:List Ο},τ (k.map AH) us->ItemsAre (iZ P w) k us
 |[],_,.nil =>.nil
 |none:: _,_,.cons r t =>.cons (by have e:=r;subst e;rfl) (kU t)
 |some i:: _,_,.cons r t =>.cons (by obtain⟨c,e⟩:=(r);subst e;exact beq_self_eq_true i) (kU t)
theorem lU(ok:GD P w H h)(e:H b=Α (.tup (k.map AH))):(Ņ (iZ P w)).is h k b:=by
 obtain⟨_,c,r,o,d,⟨f,n,g⟩,_⟩:=ok _ _ e
 exact⟨o,c.toArray,n,d,f,g,kU r⟩
theorem m7(ok:GD P w H h)(e:FY P w H a EZ):EZ.length<=Τ/\(a == Č)=Ε/\∃xs,Paired oU EZ xs/\h.DictOfH (Ņ (iZ P w)) a xs:=by
 obtain⟨e,g⟩:=e
 obtain⟨⟨z,i,xs,r,o,j,l,d,m,n,s,t⟩,_⟩:=ok _ _ e
 refine⟨z,i,xs,r,o,j,l,d,m,n,s,?_,t⟩
 have all:∀{EZ:List kE}{xs:List (cx×Ν×Ο)},Paired oU EZ xs->(∀x∈EZ,H x.2.1=Α (.tup (x.1.map AH)))->∀x∈xs,(Ņ (iZ P w)).is h x.1 x.2.1:=by
  intro EZ xs r
  induction r with
  |nil=>intro _ x c;cases c
  | @cons p q _ _ d _ ih =>
   intro f x c
   rcases ύ.mp c with rfl|c
   ·have:=f p ϙ
    rw[d.1,d.2.1]at this
    exact lU ok this
   ·exact ih (λy u=>f y (ϊ _ u)) x c
 exact all r g
theorem pU(d e:ò)(p:ES P w a EZ d)(f:∀o,d.get? a=Α o->e.get? a=Α o):ES P w a EZ e:=by
 obtain⟨z,g,xs,r,o,i,j,q,c⟩:=p
 exact⟨z,g,xs,r,o,i,j,f _ q,c⟩
theorem An(c:Č<h.objs.size):Fv P w H (h.push {cls:=.type "dict",data:=.dict #[]}) h.objs.size (tE P w h.objs.size []):=
 ⟨⟨Ä _,beq_eq_false_iff_ne.mpr (ϧ (Þ c)),[],.nil,_,#[],0,ϣ _ Λ,⟨Λ,Λ,Λ⟩,Λ,Λ,œ⟩,⟨_,ϣ _ Λ⟩,λ_ _=>pU _ _⟩
end
def Cq(P:Program)(w:À)(H:Hp)(a:Ν)(y:V)(r:Option V):Prop:=∃EZ k b,FY P w H a EZ/\y=.ref b/\H b=Α (.tup (k.map AH))/\r=fO EZ k
section
variable {X:Cx}{ν:List (Ν×Obj)}{σ:St}{H:Hp}{s:Ω}{a b:Ν}{y v d:V}{u r:Ο}{o:Option V}{A:é}{E:Ο->Ω->Prop}
theorem EI(I:ς X ν σ H s):Č<s.heap.objs.size:=
 ø (by decide) ((I.mod.glob.keeps I.bk).lt)
theorem Yr(i:A.units+1<ŷ)(I:ς X ν σ H s)(g:Cq X.prog X.w H a y o)(j:RelV y u)(h:∀f,ς X ν σ H f->Q (.bool o.isSome) f):
  ϩ (Ϧ X.prog X.w) A (compareOp .In u (.ref a)) Q E s:=by
 obtain⟨p,k,b,e,rfl,l,rfl⟩:=g
 cases (j)
 obtain⟨_,m,xs,c,n⟩:=m7 I.Fi e
 refine wpAny_in_heap (Ū i) (lU I.Fi l) m n ?_
 have q:=l5 (qY c k)
 rw[nE]at q
 rw[←q]
 exact h _ (I.tok _)
theorem Em(l:A.units+1<ŷ)(I:ς X ν σ H s)(g:Cq X.prog X.w H a y o)(m:RelV y u)(rd:RelV d r)(h:∀f i,ς X ν σ H i->RelV (o.getD d) f->Q f i):
  ϩ (Ϧ X.prog X.w) A (call (.builtin "dict.get") [.ref a,u,r]) Q E s:=by
 obtain⟨q,k,b,e,rfl,n,rfl⟩:=g
 cases (m)
 obtain⟨_,p,xs,c,j⟩:=m7 I.Fi e
 exact VB slot_dict_get j.typeIs entry_dict_get (args_dict_get_3 _ _ _) (RE (Ņ (iZ X.prog X.w)) a b p r)
  ⟨Ū l,k,xs,lU I.Fi n,j,h _ _ (I.tok _) (wB (qY c k) rd)⟩
theorem RA(j:A.units+1<ŷ)(I:ς X ν σ H s)(e:FY X.prog X.w H a EZ)(l:H b=Α (.tup (k.map AH)))(m:EZ.length<Τ)(n:RelV v r)
  (h:∀i,ς X ν σ (ο H a (tE X.prog X.w a (kR EZ k b v))) i->Q () i):ϩ (Ϧ X.prog X.w) A (setItem (.ref a) (.ref b) r) Q E s:=by
 obtain⟨z,p,xs,f,t⟩:=m7 I.Fi e
 have B:xs.length<=Τ:=by rw[←Paired.length f];exact z
 have C:(kR EZ k b v).length<=Τ:=ώ lA m
 refine wpAny_setItem_heap (hsz:=B) (Ū j) (lU I.Fi l) t λP D F=>h _ ?_
 obtain⟨q,G,J,g,K,L,M,_,N⟩:=D
 exact I.write (x:=a) (e:=a) (by rw[e.1];exact È) (.inl Λ) (λc q O z=>(F.2 c O).trans z) ⟨q,g⟩
  ⟨⟨C,p,_,Ce f n,q,G,J,g,K,L,M,N⟩,⟨q,g⟩,λ_ _=>pU _ _⟩
theorem xo(I:ς X ν σ H s)(e:FY X.prog X.w H a EZ):s.TypeIs (.ref a) "dict"/\∀b,ϭ a=.ref b->∃c,s.heap.get? b=Α c/\c.dict=Β:=by
 obtain⟨_,_,xs,_,f⟩:=m7 I.Fi e
 refine⟨f.typeIs,λb q=>?_⟩
 cases q
 obtain⟨c,_,_,g,h,_⟩:=f
 exact⟨c,g,h.2.1⟩
end
def Cy(P:Program)(w:À):TE:=λ_ H Q=>∀p,H p=Β->Q (.ref p) (ο H p (tE P w p []))
inductive Uap(P:Program)(w:À)(Q:VK)(y:V)(x:V)(H2:Hp):Prop
 |mk (a o)(_:x=.ref a)(_:Cq P w H2 a y o)(_:Q (.bl o.isSome) H2)
def Yt(P:Program)(w:À)(ty td:TE):TE:=λσ H Q=>ty σ H λy H1=>td σ H1 λx H2=>Uap P w Q y x H2
inductive Uaq(P:Program)(w:À)(D:iP)(σ:St)(v:V)(x:V)(y:V)(H3:Hp):Prop
 |mk (a EZ k b)(_:x=.ref a)(_:FY P w H3 a EZ)(_:y=.ref b)(_:H3 b=Α (.tup (k.map AH)))(_:EZ.length<Τ)(_:D.nx σ (ο H3 a (tE P w a (kR EZ k b v))))
def RB(P:Program)(w:À)(td ty tv:TE):TS:=λD σ H=>tv σ H λv H1=>td σ H1 λx H2=>ty σ H2 λy H3=>Uaq P w D σ v x y H3
inductive Uar(P:Program)(w:À)(t:TA)(σ:St)(Q:VK)(x:V)(H1:Hp):Prop
 |mk (a EZ)(_:x=.ref a)(_:FY P w H1 a EZ)(_:t σ H1 λxs H2=>∃y z o,xs=[y,z]/\Cq P w H2 a y o/\Q (o.getD z) H2)
def Dg(P:Program)(w:À)(td:TE)(t:TA):TE:=λσ H Q=>td σ H λx H1=>Uar P w t σ Q x H1
section
variable {X:Cx}{o i e f value:Expr}{pos pos' apos FE:Pos}{td ty tv tx:TE}
theorem Bv:PE X (.Dict [] [] pos) (Cy X.prog X.w):=λb s c H Q I h =>
 wpAny_Dict_empty ⟨.ref s.heap.objs.size,_,I.laid (a:=s.heap.objs.size) (o:=tE X.prog X.w s.heap.objs.size []) (t':=s.toks) (λ_ _ q=>Υ _ q) (ϛ _) (An (EI I)),Λ,h _ (I.Fi.fresh (ϛ _))⟩
theorem DQ(d:X.A.units+1<ŷ)(j:PE X i ty)(l:PE X o td):PC X .In i o (Yt X.prog X.w ty td):=by
 intro b s c H Q I h
 refine bq (j b s c H _ I h) λF m ⟨y,n,p,q,r⟩=>bq (l b m c n _ p r) λu G t=>?_
 obtain⟨x,v,z,B,a,C,ex,g,D⟩:=t
 subst ex
 obtain rfl:u=ϭ a:=B
 exact Yr d z g q λJ E=>⟨.bl C.isSome,v,E,Λ,D⟩
theorem Bs(g:X.A.units+1<ŷ)(j:PE X o td)(l:PE X i ty)(m:PE X value tv)(n:ĺ value (Α (.Subscript o i pos')) pos.line X.env=pure Ε):
  PS X (.Assign [.Subscript o i pos'] value pos) (RB X.prog X.w td ty tv):=by
 intro c s d H D I h
 refine wpAny_Assign_Subscript (bq (m c s d H _ I h) λr p ⟨v,q,t,z,B⟩=>bq (j c p d q _ t B) λu C ⟨x,E,F,G,J⟩=>bq (l c C d E _ F J) λK T L=>?_) n
 obtain⟨y,U,M,N,a,Y,k,b,ex,e,O,P,Q,R⟩:=L
 subst ex O
 obtain rfl:u=ϭ a:=G
 obtain rfl:K=ϭ b:=N
 exact RA g M e P Q z λZ S=>⟨d,_,S,R⟩
theorem yV(p:X.A.units+1<ŷ)(q:PE X o td)(r:PA X (e:: es) t)
  (u:autoParam (ŕ o "get" X.env (eval o X.env)=eval o X.env) η)
  (B:autoParam (((Ė FE (Ϭ (e:: es) X.env)).all (λx=>!x.1)&& (pM FE (Ś [] X.env)).all (λx=>x.1.isSome)&& decide ((e:: es).length+([]:List IC).length+(if ([]:List IC).isEmpty then 0 else 1)<30))=Δ) η)
  (C:autoParam ((apos.endLine == FE.line)=Δ) η) (D:autoParam (Ϭ (e:: es) X.env=(Ε,eval e X.env):: Ϭ es X.env) η) (E:autoParam ((Ė FE (Ϭ es X.env)).any (·.1)=Ε) η):
  PE X (.Call (.Attribute o "get" apos) (e:: es) [] FE) (Dg X.prog X.w td t):=by
 intro b s l H Q I h
 refine V5 u B C Λ (bq (q b s l H _ I h) λv G d=>?_)
 obtain⟨x,J,m,K,a,EZ,ex,L,M⟩:=d
 subst ex
 obtain rfl:v=ϭ a:=K
 obtain⟨N,O⟩:=xo m L
 refine⟨"dict","dict.get",PySem.F.plainAttrs_dict,slot_dict_get,PySem.F.type_dict_get,N,O,?_⟩
 have n:=r FE b G l J _ m M
 rw[D]at n⊢
 refine ľ (by show(Ε||(Ė FE (Ϭ es X.env)).any (·.1))=Ε;rw[E]<;>rfl) (c0 ?_)
 refine bq n λus s2 d=>?_
 obtain⟨vs,P,R,c,y,z,ov,j,g,S⟩:=d
 subst j
 cases c with
 | cons T c=>cases c with
  | cons U c=>cases c with
   |nil=>exact Em p R g T U λw' s4 Y Z=>⟨_,P,Y,Z,S⟩
end
structure CQ(K:Ϣ)(C:Ν)(m:Str)(f:Ν):Prop where
 reads:PySem.W.readsIn K C (.type "type")=Δ
 found:PySem.W.findCls K (.ref C) (.type "type") m=Α (.val (.ref f))
 spec:PySem.W.specialIn K (.ref C) "__getattribute__"=Α (Α (.builtin "type.__getattribute__"))
 kp:Ϩ K (.ref f)=Δ
def Dk(C:Ν)(sp:Sp)(FW:List V)(E:XK)(ta:TE)(t:TA):TE:=λσ H Q=>ta σ H λx H1=>x=.ref C/\t σ H1 λvs H2=>sp (vs++FW) H2 Q E
section
variable {X:Cx}{CX:tF}{k:Nat}{f C:Ν}{fd:ë}{ps:List Str}{sp:Sp}{FW:List V}{ds:List Ο}{E:XK}{x m:Str}{p pos apos:Pos}{e o:Expr}{es:List Expr}{ta:TE}{t:TA}
theorem yZ(j:PE X o ta)(b:CQ X.K C m f)(F:EW X.prog X.w X.K X.mg X.μ CX k f fd ps sp)(l:Fj k X.A)(n:Binds X.K fd ps ds)(v:τ FW ds)(y:gm CX X E)(z:PA X (e:: es) t)
  (B:autoParam (Ϭ (e:: es) X.env=(Ε,eval e X.env):: Ϭ es X.env) η) (D:autoParam ((Ė pos (Ϭ es X.env)).any (·.1)=Ε) η)
  (G:eval (.Call (.Attribute o m apos) (e:: es) [] pos) X.env=(do
   let d ← eval o X.env
   G7 apos.atName
   let (f,first) ← ŵ [d] (getMethod d m pl)
   callWith pos f first (Ė pos (Ϭ (e:: es) X.env)) (pM pos (Ś [] X.env))):=by rfl):
  PE X (.Call (.Attribute o m apos) (e:: es) [] pos) (Dk C sp FW E ta t):=by
 intro a s g H Q I h
 refine PySem.W.methodCall_KW (pl:=pl) (bq (j a s g H _ I h) λu O J=>?_) G
 obtain⟨x,L,c,M,ex,q⟩:=J
 subst ex
 obtain rfl:u=ϭ C:=M
 refine PySem.W.method_cls c.FN b.spec (PySem.W.cls_value c.FN b.reads b.found Λ ?_)
 refine PySem.W.callWith_K (first:=[]) (h₀:=X.μ) I.ok.mod.Kl b.kp (bq (z pos a _ g L _ (c.tok _) q) λus P ⟨R,S,i,r,N⟩=>⟨i.FN,?_⟩) B D
 exact qG F l n v y i r N
end
section
variable {X:Cx}
inductive RC(X:Cx)(xs:List V)(H:Hp)(Q:VK):Prop
 |mk (ea oe tp cs Qg C vs b)(_:xs=[.ref ea,.ref tp])(_:H tp=Α (.tup cs))(_:Paired Cp cs Qg)(_:(ea,oe)∈X.pn)(_:oe.cls=.ref C)(_:oe.data=.fields vs)(_:j8 H oe.dict)(_:iu X.K C)(_:Co X.K C)(_:PySem.W.kitAny X.K (.ref C) Qg=Α b)(_:Q (.bl b) H)
theorem rC:∀{a:List V}{us b:List Ο},τ a us->Paired Cp a b->us=b
 |_,_,_,.nil,.nil=>rfl
 |_,_,_,.cons r t,.cons h u=>by rw[rB r h,rC t u]
theorem xw:F5 X (.builtin "isinstance") (RC X):=by
 intro c s G H xs us Q I r h
 obtain⟨K,g,L,M,N,C,O,b,rfl,i,j,l,m,p,t,u,v,w,q⟩:=h
 cases r with
 | cons x a =>
  cases a with
  | cons a y =>
   cases y
   cases x
   cases a
   obtain⟨A,J⟩:=I.N2 l m p t
   obtain⟨_,P,B,o,D,⟨d,n,f⟩,_⟩:=I.Fi _ _ i
   have e:=rC B j
   subst e
   obtain⟨R,E,F,S⟩:=o
   dsimp only at d f
   subst d f
   exact PySem.W.kia_tup (sE (ox:=g) u v) I.FN ⟨A,J⟩ D w (by intro z;cases z) λT=>⟨.bl b,H,I.tok _,Λ,q⟩
end
section
open PySem.W
variable {prog:Program}{w:À}{A:é}{E:Ο->Ω->Prop}{s:Ω}{K:Ϣ}{x C:Ν}{name:Str}{v:Ο}
theorem yn(X:K.In s.heap)(e:s.heap.get? x=Α ⟨.ref C,Α d,.fields vs,#[]⟩)(f:s.heap.Ns1 d mA)(m:PySem.Within mA ns)(N:ns.length<Τ)(c:iu K C)(n:ϯ K (.ref C) name=Α Β)
  (h:∀a o,a.Ns1 d (λy=>if y=name then Α v else mA y)->(∀b,b≠d->a.get? b=s.heap.get? b)->Q () {s with heap:=a,toks:=o}):
  ϩ (Ϧ prog w) A (setAttr (.ref x) name v) Q E s:=by
 obtain⟨p,O,P,j,R⟩:=id f
 have I:PySem.W.InstAt s.heap x ⟨.ref C,Α d,.fields vs,#[]⟩ C (Α p):=⟨e,Λ,Λ,j⟩
 refine PySem.W.set_plain X I c.sa (v5 (s:={s with toks:=s.toks+1}) X I c.mro n λb=>?_)
 obtain⟨S,q,r⟩:=PySem.W.any_some c.hd
 obtain⟨u,g,z,t,B⟩:=s
 dsimp only at X e h I f j⊢
 refine Ρ (Ϥ (Ρ (Ρ (oo e (Ρ (PySem.W.Looks.here (s:=⟨u,g,z,t+1,B⟩) (PySem.W.looks_clsIn X q) ?_))))))
 rw[r]
 rw[Θ (by decide)]
 dsimp only
 refine Ϥ ?_
 unfold ů Ű
 refine Ρ (Ϥ (Ρ (Vz f λa l D=>?_)))
 obtain⟨T,F,G,H,J,L⟩:=l.count (Within.cons name v m)
 refine Ρ (Lo H (by rw[J];exact Mp (ώ L (by rw[Ϛ];omega))) ?_)
 exact Ϥ (h a _ l λb M=>D.2 b M)
end
def RD(d:Ν)(fs:List (Str×V)):ò->Prop:=λh=>∃mA,h.Ns1 d mA/\∀f,GC (fs.lookup f) (mA f)
theorem CS(x:RD d fs h):Fv P w H h d (.ext (RD d fs)):=by
 refine⟨x,?_,λi j ⟨b,⟨a,f,g,e,c⟩,r⟩ k=>⟨b,⟨a,f,g,k _ e,c⟩,r⟩⟩
 obtain⟨b,⟨a,f,g,e,c⟩,r⟩:=x
 exact⟨a,e⟩
inductive Uas(K:Ϣ)(f:Str)(D:iP)(σ:St)(y:V)(x:V)(H2:Hp):Prop
 |mk (a C tt)(_:x=.ref a)(_:H2 a=Α (cT a C tt Β))(_:iu K C)(_:ϯ K (.ref C) f=Α Β)(_:∀d,H2 d=Β->D.nx σ (ο (ο H2 d (.ext (RD d [(f,y)]))) a (cT a C tt (Α d))))
def DC(K:Ϣ)(ta tv:TE)(f:Str):TS:=λD σ H=>tv σ H λy H1=>ta σ H1 λx H2=>Uas K f D σ y x H2
inductive Uat(K:Ϣ)(f:Str)(D:iP)(σ:St)(y:V)(x:V)(H2:Hp):Prop
 |mk (a C tt d fs)(_:x=.ref a)(_:H2 a=Α (cT a C tt (Α d)))(_:H2 d=Α (.ext (RD d fs)))(_:fs.length<1000)(_:iu K C)(_:ϯ K (.ref C) f=Α Β)(_:D.nx σ (ο H2 d (.xd (aT f y fs))))
def DB(K:Ϣ)(ta tv:TE)(f:Str):TS:=λD σ H=>tv σ H λy H1=>ta σ H1 λx H2=>Uat K f D σ y x H2
section
variable {X:Cx}{o e value:Expr}{f:Str}{pos pos':Pos}{ta tv:TE}
theorem yR(O:PE X o ta)(P:PE X value tv)(Q:ĺ value (Α (.Attribute o f pos')) pos.line X.env=pure Ε):PS X (.Assign [.Attribute o f pos'] value pos) (DC X.K ta tv f):=by
 intro i s v H D I h
 refine ġ (bq (P i s v H _ I h) λu R ⟨y,S,T,U,q⟩=>bq (O i R v S _ T q) λY d Z=>?_) Q
 obtain⟨x,H2,m,rx,a,C,tt,ex,F,c,n,q2⟩:=Z
 subst ex
 obtain rfl:Y=ϭ a:=rx
 have G:=(m.Fi a _ F).1
 have F9:=lt_size G
 refine rH m.FN G c n λh' t' J L hk=>⟨v,_,?_,q2 d.heap.objs.size (m.Fi.fresh (ϛ _))⟩
 obtain⟨j,es,ep,E,r⟩:=id L
 have Ig:=(SX.mp E).2
 have M:=ϣ d.heap Ig
 have I3:=m.laid (a:=d.heap.objs.size) (o:=.ext (RD d.heap.objs.size [(f,y)])) (h':=d.heap.push j) (t':=d.toks) (λb u z=>Υ _ z) (ϛ _)
  (CS ⟨_,L.at (λo z=>by rw[E]at z;cases z;exact M),λg=>by
   by_cases p:g=f
   ·have l:=beq_iff_eq.mpr p
    simp only[ď,l,Ι p]
    exact U
   ·have l:=beq_eq_false_iff_ne.mpr p
    simp only[ď,l,Θ p]
    trivial⟩)
 have FG:=Þ F9
 refine I3.write (x:=a) (e:=a) (h':=h') (t':=t') (by rw[af FG,F];exact È) (.inl Λ) (λb u l z=>?_) ⟨_,J⟩ (oH J)
 by_cases N:b=d.heap.objs.size
 ·subst N
  have t:=z
  rw[M]at t
  cases t
  exact E
 ·have t:d.heap.get? b=Α u:=by
   have z0:=z
   exact(QC z0).elim (λw=>Κ w.1 N) λw=>w
  exact hk b u l t
theorem yQ(J:PE X o ta)(L:PE X value tv)(M:ĺ value (Α (.Attribute o f pos')) pos.line X.env=pure Ε):PS X (.Assign [.Attribute o f pos'] value pos) (DB X.K ta tv f):=by
 intro i s m H D I h
 refine ġ (bq (L i s m H _ I h) λu N ⟨y,O,P,Q,q⟩=>bq (J i N m O _ P q) λR S T=>?_) M
 obtain⟨x,H2,j,U,a,C,Y,d,fs,ex,Z,ed,Yu,c,n,q2⟩:=T
 subst ex
 obtain rfl:R=ϭ a:=U
 have ho:=(j.Fi a _ Z).1
 obtain⟨⟨v,hn,w⟩,_⟩:=j.Fi d _ ed
 have hw:=λg hg=>by
  have r:=w g
  cases A:fs.lookup g with
  | none=>rw[A]at r;cases B:v g with
   |none=>exact Κ B hg
   |some z=>rw[B]at r;exact r.elim
  | some z =>
   have:∀{l:List (Str×V)},l.lookup g=Α z->g∈l.map (·.1):=by
    intro l
    induction l with
    |nil=>intro h;cases h
    | cons p l ih =>
     intro h
     rw[ϳ,ύ]
     by_cases e:g=p.1
     ·exact .inl e
     ·have t:=beq_eq_false_iff_ne.mpr e
      obtain⟨p1,p2⟩:=p
      simp only[ď,t]at h
      exact .inr (ih h)
   exact this A
 refine yn j.FN ho hn hw (by rw[Μ,Χ];omega) c n λh' t' G hk=>⟨m,_,?_,q2⟩
 refine j.write (x:=d) (e:=d) (h':=h') (t':=t') (by rw[ed];exact È) (.inl Λ) (λb u t z=>?_) ?_ ⟨_,G,λg=>?_⟩
 ·exact(hk b t).trans z
 ·obtain⟨od,_,_,Lc,_⟩:=G
  exact⟨od,Lc⟩
 ·rw[iI]
  by_cases e:g=f
  ·rw[Ι e];simp only[Ι e];exact Q
  ·rw[Θ e];simp only[Θ e];exact w g
end
end L2
namespace PySem
open Sem (wp)
open AutoSeq1 (wpAny_loadPart')
theorem gR(l:Ν)(a:Array Ο)(n:Nat)(m:Option Ν)(o:Array (Option Ο)):
  Meets (Builtin.«enumerate.__new__» ⟨[.type "enumerate",.ref l],[]⟩) (λ_ R s=>s.heap.get? l=Α {cls:=.type "tuple",dict:=m,data:=.seq a n,slots:=o}/\
   R (.ok (.ret (.ref (s.heap.push {cls:=.type "tuple_iterator",data:=.fields #[.ref l,.int 0 0]}).objs.size)))
    {s with heap:=(s.heap.push {cls:=.type "tuple_iterator",data:=.fields #[.ref l,.int 0 0]}).push {cls:=.type "enumerate",data:=.fields #[.none,.bool Ε,.ref s.heap.objs.size,ū 0,.none,.none]}}):=
 .of_wp λi w A R s h=>by
  obtain⟨p,g,d,q,r⟩:=s;obtain⟨b,h⟩:=h
  have j:=sub_enumerate
  have e:ò.IsTuple (Ω.heap ⟨p,g,d,q,r⟩) l a:=⟨_,b,Λ,n,Λ⟩
  wp_walk using j2 b
  refine wpAny_stack_any λt=>Ϥ ?_
  split
  ·rename_i c _ _ _ _ _
   cases (c == Ο.type "enumerate")
   ·wp_walk using j2 b,Ũ e
    exact⟨_,Λ,h⟩
   ·wp_walk using j2 b,Ũ e
    exact⟨_,Λ,h⟩
  ·wp_walk using j2 b,Ũ e
   exact⟨_,Λ,h⟩
section
variable {prog:Program}{w:À}{A:é}{E:Ο->Ω->Prop}{s:Ω}
theorem gS(m:s.heap.IsTuple l items)
  (h:∀a,VE a (s.heap.objs.size+1) s.heap.objs.size 0 .none->a.IsTupleIter s.heap.objs.size l 0->a.objs.size=s.heap.objs.size+2->
   (∀b o,s.heap.get? b=Α o->a.get? b=Α o)->Q (.ref (s.heap.objs.size+1)) {s with heap:=a}):
  ϩ (Ϧ prog w) A (call (.type "enumerate") [.ref l]) Q E s:=by
 obtain⟨⟨c,p,q,r⟩,t,d,n,e⟩:=m
 replace d:c=.type "tuple":=d
 replace e:q=.seq items n:=e
 subst d e
 refine callType_new F.called_enumerate (by decide) (F.typeCall_enumerate_1 _) (F.newCall_enumerate_1 _) (λf=>F.args_object_init_2 f _) F.entry_enumerate_new
  (gR l items n p r) ⟨t,?_⟩
 have g:(s.heap.push {cls:=.type "tuple_iterator",data:=.fields #[.ref l,.int 0 0]}).objs.size=s.heap.objs.size+1:=size_push ..
 rw[g]
 have j:VE ((s.heap.push {cls:=.type "tuple_iterator",data:=.fields #[.ref l,.int 0 0]}).push
   {cls:=.type "enumerate",data:=.fields #[.none,.bool Ε,.ref s.heap.objs.size,ū 0,.none,.none]}) (s.heap.objs.size+1) s.heap.objs.size 0 .none:=by
  have:=ϣ (s.heap.push {cls:=.type "tuple_iterator",data:=.fields #[.ref l,.int 0 0]})
   (o:={cls:=.type "enumerate",data:=.fields #[.none,.bool Ε,.ref s.heap.objs.size,ū 0,.none,.none]}) Λ
  rw[g]at this;exact this
 refine⟨⟨_,j,Λ⟩,h _ j ⟨_,Υ _ (ϣ _ Λ),Λ,Λ⟩ (by rw[size_push,g]) λb o x=>Υ _ (Υ _ x)⟩
theorem jf(a:s.heap.IsTupleIter it l i)
  (f:s.heap.IsTuple l items) (g:items[i]?=Α x)
  (h:∀d,d.IsTupleIter it l (i+1)->ŗ it s.heap d->Q x {s with heap:=d}):
  ϩ (Ϧ prog w) A (ğ (.ref it)) Q E s:=by
 obtain⟨o,c,j,b⟩:=id a
 obtain⟨p,m,_,q,n⟩:=f
 unfold ğ
 refine Ρ (Rz (name:=υ "__next__") a.typeIs İ
  (Lv İ a.typeIs N1 ?_ (MF _)))
 show ϩ _ _ (field (.ref it) 0 >>=_) _ _ s
 refine Ρ (ě c b (x:=.ref l) Λ ?_)
 rw[Θ (show ¬((ϭ l == Û)=Δ) from Ϟ)]
 refine Ρ (ě c b (x:=.int i 0) Λ ?_)
 refine Ρ (wpAny_seqItems m n ?_)
 simp only[Ϙ,g]
 refine Ρ (ı c b (by simp) (Ϥ ⟨x,Λ,Ϥ (h _ ?_ (IS ..))⟩))
 exact⟨_,á _ c (Ī (ā b _)),(Xn ..).trans j,by
  rw[ā b];simp[ū]⟩
theorem ju(g:A.handled=Β)
  (b:s.heap.IsTupleIter it l i) (j:s.heap.IsTuple l items) (n:items[i]?=Β)
  (p:∀c e,ò.ExtBut it s.heap c->(∃o,c.get? e=Α o/\o.cls=.type "StopIteration")->E (.ref e) {s with heap:=c}):
  ϩ (Ϧ prog w) A (ğ (.ref it)) Q E s:=by
 obtain⟨o,d,t,f⟩:=id b
 obtain⟨u,q,_,v,r⟩:=j
 unfold ğ
 refine Ρ (Rz (name:=υ "__next__") b.typeIs İ
  (Lv İ b.typeIs N1 ?_ (MF _)))
 show ϩ _ _ (field (.ref it) 0 >>=_) _ _ s
 refine Ρ (ě d f (x:=.ref l) Λ ?_)
 rw[Θ (show ¬((ϭ l == Û)=Δ) from Ϟ)]
 refine Ρ (ě d f (x:=.int i 0) Λ ?_)
 refine Ρ (wpAny_seqItems q r ?_)
 simp only[Ϙ,n]
 refine Ρ (wpAny_rule (Ρ (ı d f (by simp) ?_)))
 refine Ρ ?_
 simp only[newExc,newTuple]
 refine Ρ (Ŵ ?_ (by size_fits))
 refine Ρ (m:=firstArgMember _ _) (wpAny_of_eq (a:=Û) (by first|rfl|(simp only[firstArgMember];rfl)) ?_)
 refine Ŵ ?_ (by size_fits)
 simp only[raiseNew]
 refine Ρ (wpAny_handled ?_)
 first|rw[show A.in1.handled=Β from g]|rw[g]
 refine Ρ (Ϥ (wpAny_throw ?_))
 exact p _ _ (((IS ..).extBut.push _).push _) ⟨_,ϣ _ Λ,Λ⟩
end
theorem jn(g:A.handled=Β)(it l:Ν)(j:l≠it)(a:Array Ο):
  Draws prog w A it [it,l] a.size (λi v=>a[i]?=Α v) (λi h=>h.IsTupleIter it l i/\h.IsTuple l a) where
 live:=λ_ _ b=>let ⟨o,ho,_⟩:=b.1;⟨o,ho⟩
 frame:=λ_ _ _ b c=>⟨b.1.at λo e=>c it (by simp) o e,let ⟨o,ho,r⟩:=b.2;⟨o,c l (by simp) o ho,r⟩⟩
 item:=λi s Q E d b m=>by
  refine jf b.1 b.2 (x:=a[i]) (by simp[d]) λn p f=>?_
  exact m _ n s.toks (by simp[d]) ⟨p,let ⟨o,ho,r⟩:=b.2;⟨o,f.extBut l o j ho,r⟩⟩ f
 done:=λs Q E b q=>ju g b.1 b.2 (by simp) q
end PySem
namespace L2
open PySem PySem.Spec PyProof.Rows
section
variable {X:Cx}{ν:List (Ν×Obj)}{σ:St}{H:Hp}{s:Ω}
theorem ς.O6{a b p:Ν}(I:ς X ν σ H s)(x:jm X ν H a)(y:jm X ν H b)(A:s.heap.objs.size<=p)
  (k:∀c o,c≠a->c≠b->s.heap.get? c=Α o->h'.get? c=Α o) (M:∃o,h'.get? a=Α o) (N:∃o,h'.get? b=Α o) (E:xs.length<=Τ) (r:τ xs us) (F:GF h' p us.toArray):
  ς X ν σ (ο H p (.tup xs)) {s with heap:=h',toks:=t'}:=by
 have G:=I.Fi.fresh A
 have h:∀c u,H c=Α u->c≠p:=λc u q z=>by rw[z,G]at q;cases q
 have lt:∀c o,s.heap.get? c=Α o->c≠p:=λc o q=>Þ (Ϗ (lt_size q) A)
 have ne:∀c,c∉[a,b]->c≠a/\c≠b:=λc g=>by simpa using g
 refine I.call (g':=s.gens) (d':=s.drawn) (ch:=[a,b]) ⟨λc o e n J f=>k c o (ne c f).1 (ne c f).2 e,λc o e n J f=>⟨o.slots,k c o (ne c f).1 (ne c f).2 e⟩,λc o e n f=>by rw[af (lt c o e)];exact n,
  λc o e f=>⟨o,k c o (ne c f).1 (ne c f).2 e⟩,λc K q=>by rw[af (h c _ q)];exact q,λc o u q=>by rw[af (h c _ q)];exact q,λc O q=>⟨#[],by rw[af (h c _ q),q];simp⟩⟩ (λc u q=>?_) I.bare λc g=>?_
 ·by_cases g:c=p
  ·subst g
   rw[ET]at q
   cases q
   exact⟨E,us,r,F⟩
  ·rw[af g]at q
   refine(I.Fi c u q).Ho (λd v i z=>?_) (λd z=>by rw[af (h d _ z)];exact z) λd K z=>by rw[af (h d _ z)];exact z
   have C:∀e,H e=Β->d≠e:=λe D w=>by
    rcases i with rfl|i
    ·rw[w,D]at q;cases q
    ·rw[w,D]at i;cases i
   exact k d v (C a x.1) (C b y.1) z
 ·have L:c=a∨c=b:=by simpa using g
  rcases L with rfl|rfl
  ·obtain⟨_,j,_,l,m,t⟩:=x;exact⟨l,j,m,t⟩
  ·obtain⟨_,j,_,l,m,t⟩:=y;exact⟨l,j,m,t⟩
theorem ς.Kr(I:ς X ν σ H s)(p:jm X ν H a)(r:jm X ν H b)
  (k:∀c o,c≠a->c≠b->s.heap.get? c=Α o->h'.get? c=Α o):ς X ν σ H {s with heap:=h',toks:=t'}:=by
 have ne:∀c,c∉[a,b]->c≠a/\c≠b:=λc h=>by simpa using h
 refine I.call (g':=s.gens) (d':=s.drawn) (ch:=[a,b]) ⟨λc o e n A f=>k c o (ne c f).1 (ne c f).2 e,λc o e n A f=>⟨o.slots,k c o (ne c f).1 (ne c f).2 e⟩,λc o e n f=>n,
  λc o e f=>⟨o,k c o (ne c f).1 (ne c f).2 e⟩,λc B q=>q,λc o u q=>q,λc D q=>⟨#[],by rw[q];simp⟩⟩ (λc u q=>?_) I.bare λc h=>?_
 ·refine(I.Fi c u q).Ho (λd v g z=>?_) (λd z=>z) λd B z=>z
  have x:∀e,H e=Β->d≠e:=λe y w=>by
   rcases g with rfl|g
   ·rw[w,y]at q;cases q
   ·rw[w,y]at g;cases g
  exact k d v (x a p.1) (x b r.1) z
 ·have C:c=a∨c=b:=by simpa using h
  rcases C with rfl|rfl
  ·obtain⟨_,i,_,j,l,m⟩:=p;exact⟨j,i,l,m⟩
  ·obtain⟨_,i,_,j,l,m⟩:=r;exact⟨j,i,l,m⟩
theorem pT{n i:Nat}{xs:List V}
  (D:Draws X.prog X.w X.A.in1 it fp n P Sx) (I:ς X ν σ H s) (t:VE s.heap e it i a) (B:Sx i s.heap) (K:i<n) (L:e≠it) (d:e∉fp) (M:jm X ν H e) (N:jm X ν H it)
  (O:∀v,P i v->∃x,xs[i]?=Α x/\RelV x v):
  ϩ (Ϧ X.prog X.w) X.A (pyNext (.ref e)) (λr Q=>∃u,r=Α u/\ϩ (Ϧ X.prog X.w) X.A (Ń (.Tuple elts kk pos) (.ref e) u) (λ_ g=>∃p x,xs[i]?=Α x/\H p=Β/\u=.ref p/\
   ς X ν σ (ο H p (.tup [.int i,x])) g/\(∃a,VE g.heap e it ((i+1:Nat):Int) a)/\Sx (i+1) g.heap/\p≠e/\p≠it) E Q) E s:=by
 refine wpAny_pyNext_enum_itemD D t B K L d λx h' h S T U Y Z hk=>⟨_,Λ,?_⟩
 refine wpAny_letOwnedTupleGo_enum T λC F j=>?_
 obtain⟨y,hy,ry⟩:=O x S
 have f:=lt_size t
 have l:it<s.heap.objs.size:=by obtain⟨_,z⟩:=D.live _ _ B;exact lt_size z
 have G:=D.frame _ _ _ U λb hb o z=>(j.2 b λq=>d (q▸hb)).trans z
 refine⟨s.heap.objs.size,y,hy,I.Fi.fresh (ϛ _),Λ,?_,⟨x,by simpa using F⟩,G,ŭ f,ŭ l⟩
 refine ς.O6 (s:=s) (h':=C) (t':=h+1) I M N (ϛ _) (λc o J m z=>(j.2 c J).trans (hk c o J m z)) ⟨_,F⟩ (let ⟨o,z⟩:=D.live _ _ G;⟨o,z⟩) (by show 2<=Τ;decide) (us:=[.int i h,x]) (.cons ⟨h,Λ⟩ (.cons ry .nil)) ?_
 exact⟨_,(j.2 _ (ŭ f)).trans Y,⟨Λ,_,Λ⟩,Λ⟩
end
noncomputable def ER(sq:Hp->List V->Prop):It:=
 ⟨λi H=>∃xs x,sq H xs/\xs[i]?=Α x,λi H v H'=>∃p,H p=Β/\v=.ref p/\∀xs,sq H xs->∃x,xs[i]?=Α x/\H'=ο H p (.tup [.int i,x]),λi H=>∃xs,sq H xs/\xs.length=i⟩
theorem tS{K:Ϣ}(a e it:Ν)(FG:e≠it):tw P w K (.Tuple elts kk pos) (ER λH=>EX K H a) [e,it] e (λi h=>(∃f,VE h e it (i:Int) f)/\h.IsListIter it a i) where
 mem:=by simp
 obj:=λi h j b M=>by
  obtain⟨⟨f,g⟩,o,l,c,d⟩:=j
  have N:b=e∨b=it:=by simpa using M
  rcases N with rfl|rfl
  ·exact⟨_,g,λv z=>by have z':=z;cases z'⟩
  ·exact⟨o,l,λv z=>by rw[d]at z;cases z⟩
 keep:=λi h h' j k=>by
  obtain⟨⟨f,g⟩,m⟩:=j
  exact⟨⟨f,k e (by simp) _ g⟩,m.at λo z=>k it (by simp) o z⟩
 item:=by
  intro X O Q R S i B s σ H E I n j T
  subst O Q R
  obtain⟨xs,x,G,J⟩:=T
  obtain⟨t,L,p,hz⟩:=I.list G
  obtain⟨⟨f,g⟩,m⟩:=j
  have U:i<t.toArray.size:=by
   have:=(gQ0 J)
   have l2:=L.length
   simp;omega
  have Yw:e≠a:=by
   rintro rfl
   obtain⟨o,l,C,_⟩:=p.isList
   rw[g]at l;cases l
   injection C with z;exact Κ z (by decide)
  have Y:a≠it:=by
   rintro rfl
   obtain⟨o,l,C,_⟩:=p.isList
   obtain⟨o2,D,F,_⟩:=m
   rw[l]at D;cases D;rw[C]at F
   injection F with z;exact Κ z (by decide)
  refine bq (pT (xs:=xs) (Draws.list (A:=X.A.in1) (I.ok.hd S) it a Y t.toArray) I g ⟨m,p.isList⟩ U FG (by simp only[ύ,ϡ,or_false,not_or];exact⟨FG,Yw⟩) (n e (by simp)) (n it (by simp)) λv hv=>?_) λr s1 ⟨u,hr,h1⟩=>⟨u,hr,bq h1 λ_ s2 ⟨q,y,hy,Yx,Z,I2,Kq,KZ,n1,n2⟩=>?_⟩
  ·obtain⟨u,Z,ru⟩:=L.get J
   have e1:t[i]?=Α v:=by simpa using hv
   rw[Z]at e1;cases e1
   exact⟨x,J,ru⟩
  ·refine⟨.ref q,_,I2,Z,⟨q,Yx,Λ,λzs Yy=>⟨y,by rw[I.Jn Yy G];exact hy,Λ⟩⟩,⟨Kq,KZ.1⟩,λb M=>?_⟩
   have N:b=e∨b=it:=by simpa using M
   rcases N with rfl|rfl
   ·rw[af (ϧ n1)];exact(n b (by simp)).1
   ·rw[af (ϧ n2)];exact(n b (by simp)).1
 done:=by
  intro X O Q R S i B s σ H E I n j T
  subst O Q R
  obtain⟨xs,G,J⟩:=T
  obtain⟨t,L,p,hz⟩:=I.list G
  obtain⟨⟨f,g⟩,m⟩:=j
  have U:i=t.toArray.size:=by have l2:=L.length;simp;omega
  have Y:a≠it:=by
   rintro rfl
   obtain⟨o,l,C,_⟩:=p.isList
   obtain⟨o2,D,F,_⟩:=m
   rw[l]at D;cases D;rw[C]at F
   injection F with z;exact Κ z (by decide)
  refine Vv (Draws.list (A:=X.A.in1) (I.ok.hd S) it a Y t.toArray) g (by rw[←U];exact⟨m,p.isList⟩) λh' Jh=>⟨Λ,?_⟩
  exact I.Kr (t':=s.toks) (n e (by simp)) (n it (by simp)) λc o h1 h2 z=>Jh c o h2 z
 self:=λ_ _ _ _ _ j h=>by
  obtain⟨⟨f,g⟩,_⟩:=j
  exact ų g h
theorem tR{K:Ϣ}(a e it:Ν)(FG:e≠it):tw P w K (.Tuple elts kk pos) (ER λH=>Fn K H a) [e,it] e (λi h=>(∃f,VE h e it (i:Int) f)/\h.IsTupleIter it a i) where
 mem:=by simp
 obj:=λi h j b M=>by
  obtain⟨⟨f,g⟩,o,l,c,d⟩:=j
  have N:b=e∨b=it:=by simpa using M
  rcases N with rfl|rfl
  ·exact⟨_,g,λv z=>by have z':=z;cases z'⟩
  ·exact⟨o,l,λv z=>by rw[d]at z;cases z⟩
 keep:=λi h h' j k=>by
  obtain⟨⟨f,g⟩,n⟩:=j
  exact⟨⟨f,k e (by simp) _ g⟩,n.at λo z=>k it (by simp) o z⟩
 item:=by
  intro X O Q R S i B s σ H E I t j T
  subst O Q R
  obtain⟨xs,x,G,J⟩:=T
  obtain⟨m,L,p,hz⟩:=I.tuple G
  have pt:=p
  obtain⟨⟨f,g⟩,n⟩:=j
  have U:i<m.toArray.size:=by
   have:=(gQ0 J)
   have l2:=L.length
   simp;omega
  have Yw:e≠a:=by
   rintro rfl
   obtain⟨o,l,C,_⟩:=pt
   rw[g]at l;cases l
   injection C with z;exact Κ z (by decide)
  have Y:a≠it:=by
   rintro rfl
   obtain⟨o,l,C,_⟩:=pt
   obtain⟨o2,D,F,_⟩:=n
   rw[l]at D;cases D;rw[C]at F
   injection F with z;exact Κ z (by decide)
  refine bq (pT (xs:=xs) (jn (A:=X.A.in1) (I.ok.hd S) it a Y m.toArray) I g ⟨n,pt⟩ U FG (by simp only[ύ,ϡ,or_false,not_or];exact⟨FG,Yw⟩) (t e (by simp)) (t it (by simp)) λv hv=>?_) λr s1 ⟨u,hr,h1⟩=>⟨u,hr,bq h1 λ_ s2 ⟨q,y,hy,Yx,Z,I2,Kq,KZ,n1,n2⟩=>?_⟩
  ·obtain⟨u,Z,ru⟩:=L.get J
   have e1:m[i]?=Α v:=by simpa using hv
   rw[Z]at e1;cases e1
   exact⟨x,J,ru⟩
  ·refine⟨.ref q,_,I2,Z,⟨q,Yx,Λ,λzs Yy=>⟨y,by rw[I.IJ Yy G];exact hy,Λ⟩⟩,⟨Kq,KZ.1⟩,λb M=>?_⟩
   have N:b=e∨b=it:=by simpa using M
   rcases N with rfl|rfl
   ·rw[af (ϧ n1)];exact(t b (by simp)).1
   ·rw[af (ϧ n2)];exact(t b (by simp)).1
 done:=by
  intro X O Q R S i B s σ H E I t j T
  subst O Q R
  obtain⟨xs,G,J⟩:=T
  obtain⟨m,L,p,hz⟩:=I.tuple G
  have pt:=p
  obtain⟨⟨f,g⟩,n⟩:=j
  have U:i=m.toArray.size:=by have l2:=L.length;simp;omega
  have Y:a≠it:=by
   rintro rfl
   obtain⟨o,l,C,_⟩:=pt
   obtain⟨o2,D,F,_⟩:=n
   rw[l]at D;cases D;rw[C]at F
   injection F with z;exact Κ z (by decide)
  refine Vv (jn (A:=X.A.in1) (I.ok.hd S) it a Y m.toArray) g (by rw[←U];exact⟨n,pt⟩) λh' Jh=>⟨Λ,?_⟩
  exact I.Kr (t':=s.toks) (t e (by simp)) (t it (by simp)) λc o h1 h2 z=>Jh c o h2 z
 self:=λ_ _ _ _ _ j h=>by
  obtain⟨⟨f,g⟩,_⟩:=j
  exact ų g h
section
variable {X:Cx}{elts:List Expr}{kk:Nat}{IB p pos:Pos}{a:Expr}{ta:TE}
def Yz(K:Ϣ)(t:TA):TI:=λσ H R=>t σ H λvs H1=>∃a,vs=[.ref a]/\(∃xs,EX K H1 a xs)/\R (ER λH=>EX K H a) H1
def Y1(K:Ϣ)(t:TA):TI:=λσ H R=>t σ H λvs H1=>∃a,vs=[.ref a]/\(∃xs,Fn K H1 a xs)/\R (ER λH=>Fn K H a) H1
theorem nQ(v:Gl X "enumerate")(w:X.mg "enumerate"=Β)(x:PA X [a] t)(y:autoParam (Ϭ [a] X.env=[(Ε,eval a X.env)]) η):PI X (.Tuple elts kk IB) (.Call (.Name "enumerate" p) [a] [] pos) (Yz X.K t):=by
 intro c s m H R I h
 refine Call_ (lj I v w boot_enumerate (Ġ (bq (x pos c s m H _ I h) λus d z=>?_) y Λ))
 obtain⟨N,n,i,A,B⟩:=z
 obtain⟨l,e,⟨xs,C⟩,q⟩:=B
 subst e
 cases A with
 | cons r D =>
  cases D
  cases r
  obtain⟨O,P,E,Q⟩:=i.list C
  refine call_enumerate_list E.isList λo u j F G=>?_
  have J:=i.kept (t':=d.toks) G
  refine ų (s:={d with heap:=o}) u ?_
  refine⟨_,_,_,_,n,Λ,J,tS l _ d.heap.objs.size (Nat.succ_ne_self _),⟨⟨_,u⟩,j⟩,λb L=>?_,q⟩
  have M:b=d.heap.objs.size+1∨b=d.heap.objs.size:=by simpa using L
  have g:d.heap.objs.size<=b:=by
   rcases M with e|e
   ·rw[e];exact Wb _
   ·rw[e];exact ϛ _
  exact i.K3 g (i.Fi.fresh g)
theorem rZ(v:Gl X "enumerate")(w:X.mg "enumerate"=Β)(x:PA X [a] t)(y:autoParam (Ϭ [a] X.env=[(Ε,eval a X.env)]) η):PI X (.Tuple elts kk IB) (.Call (.Name "enumerate" p) [a] [] pos) (Y1 X.K t):=by
 intro c s m H R I h
 refine Call_ (lj I v w boot_enumerate (Ġ (bq (x pos c s m H _ I h) λus d z=>?_) y Λ))
 obtain⟨O,n,i,A,B⟩:=z
 obtain⟨l,e,⟨xs,C⟩,q⟩:=B
 subst e
 cases A with
 | cons r D =>
  cases D
  cases r
  obtain⟨E,P,F,Q⟩:=i.tuple C
  refine gS (F) λo u j G J=>?_
  have L:=i.kept (t':=d.toks) J
  refine ų (s:={d with heap:=o}) u ?_
  refine⟨_,_,_,_,n,Λ,L,tR l _ d.heap.objs.size (Nat.succ_ne_self _),⟨⟨_,u⟩,j⟩,λb M=>?_,q⟩
  have N:b=d.heap.objs.size+1∨b=d.heap.objs.size:=by simpa using M
  have g:d.heap.objs.size<=b:=by
   rcases N with e|e
   ·rw[e];exact Wb _
   ·rw[e];exact ϛ _
  exact i.K3 g (i.Fi.fresh g)
end
theorem oG{g:TG}{tb:TS}{D:iP}(b:Nat->St->Hp->Prop)(n:b 0 a H)(o:∀i a H,i<=xs.length->b i a H->sq H xs)
  (r:∀i x p a H,xs[i]?=Α x->b i a H->H p=Β->g (.ref p) a (ο H p (.tup [.int i,x])) λc h=>tb {D with nx:=b (i+1),ct:=b (i+1),bk:=D.nx} c h) (t:∀a H,b xs.length a H->D.nx a H):
  ∃W:Nat->Nat->St->Hp->Prop,(∃m,W 0 m a H)/\∀i m a H,W i m a H->
   ((ER sq).stop i H/\D.nx a H)∨((ER sq).go i H/\∃N:St->Hp->Prop,(∀d f,N d f->∃j,j<m/\W (i+1) j d f)/\∀x f,(ER sq).LW i H x f->g x a f λc h=>tb {D with nx:=N,ct:=N,bk:=D.nx} c h):=by
 refine⟨λi m a H=>m=xs.length - i/\i<=xs.length/\b i a H,⟨xs.length,by simp,Ä _,n⟩,?_⟩
 rintro i m a H ⟨rfl,u,p⟩
 have q:=o i a H u p
 by_cases l:i<xs.length
 ·refine .inr ⟨⟨xs,xs[i],q,by simp[l]⟩,b (i+1),λd f v=>⟨xs.length - (i+1),by omega,Λ,l,v⟩,λx f y=>?_⟩
  obtain⟨w,z,rfl,A⟩:=y
  obtain⟨B,C,e⟩:=A xs q
  subst e
  exact r i B w a H C p z
 ·have e:i=xs.length:=by omega
  subst e
  exact .inl ⟨⟨xs,q,Λ⟩,t a H p⟩
def Ih(d:ĩ)(m:Nat):Prop:=d.canLay0=Δ/\d.depth<=m
theorem Ih.shaped(h:Ih d m)(a:m<=64):Ő d=Δ:=by
 unfold Ő
 rw[h.1,Ζ (ώ h.2 a)];rfl
theorem gW(i:Int):Ih (.int i) 0:=⟨by simp[Ŗ],by simp[Ů]⟩
theorem ym:Ih .none 0:=⟨by simp[Ŗ],by simp[Ů]⟩
theorem qA:∀{ds:List ĩ},(∀d∈ds,Ih d m)->n7 ds=Δ/\Ų ds<=m
 |[],_=>⟨by simp[n7],by simp[Ų]⟩
 | d:: r,h=>by
  obtain⟨a,b⟩:=qA (ds:=r) λz f=>h z (ϊ _ f)
  obtain⟨c,e⟩:=h d ϙ
  exact⟨by simp[n7,c,a],by simp only[Ų];omega⟩
theorem jJ(h:∀d∈ds,Ih d m):Ih (.list ds) (m+1):=by
 obtain⟨a,b⟩:=qA h
 exact⟨by simp[Ŗ,a],by simp only[Ů];omega⟩
theorem pA(h:∀d∈ds,Ih d m):Ih (.tuple ds) (m+1):=by
 obtain⟨a,b⟩:=qA h
 exact⟨by simp[Ŗ,a],by simp only[Ů];omega⟩
theorem neS{K:Ϣ}(a:mF K H x d)(b:mF K H y d)(s:Ih d 64)(q:Q (.bl Ε) H):DI K x y H Q:=
 ⟨d,d,a,b,s.shaped (ϛ _),s.shaped (ϛ _),by rw[I1 d s.1];exact q⟩
theorem eqS{K:Ϣ}(a:mF K H x d)(b:mF K H y d)(s:Ih d 64)(q:Q (.bl Δ) H):Bo K x y H Q:=
 ⟨d,d,a,b,s.shaped (ϛ _),s.shaped (ϛ _),by rw[I1 d s.1];exact q⟩
theorem Ih.le(h:Ih d m)(l:m<=n):Ih d n:=⟨h.1,ώ h.2 l⟩
end L2
namespace L2
open PySem
theorem oO(p:Nat->Bool)(f:Nat->V)(z:n<Τ)
  (q:∀(i:Nat)(acc:List V)(N:List V->Hp->Prop),i<n->N (if p i then acc++[f i] else acc) H->g (.int (lo+i)) σ0 H λc a=>tt c a λb d=>if b=Δ then te c d λy r=>N (acc++[y]) r else N acc d)
  (s:∀D,H D=Β->Q (.ref D) (ο H D (.π (((Ϝ n).filter p).map f)))):
  ge (Ct lo n) g tt te σ0 Q H:=by
 refine⟨λi m acc j=>m=n - i/\i<=n/\j=H/\acc=((Ϝ i).filter p).map f,⟨n,by simp,Ä _,Λ,Λ⟩,?_⟩
 rintro i m acc j ⟨rfl,A,rfl,rfl⟩
 have t:(((Ϝ i).filter p).map f).length<Τ:=by
  rw[Μ]
  have:=É p (Ϝ i)
  rw[ĝ]at this
  omega
 refine⟨t,?_⟩
 by_cases l:i<n
 ·refine .inr ⟨l,λh a=>a=j/\h=((Ϝ (i+1)).filter p).map f,λh a u=>by obtain⟨v,w⟩:=u;exact⟨n - (i+1),by omega,Λ,l,v,w⟩,λx a y=>?_⟩
  obtain⟨e,y⟩:=y
  subst e y
  refine q i _ (λh d=>d=a/\h=((Ϝ (i+1)).filter p).map f) l ⟨Λ,?_⟩
  rw[Œ,Ú]
  cases o:p i with
  |true=>simp[o]
  |false=>simp[o]
 ·have e:i=n:=by omega
  subst e
  exact .inl ⟨ϛ _,s⟩
theorem sV(p:V->Bool)(f:V->V)(B:xs.length<Τ)(l:EX K H a xs)
  (u:∀(x:V)(acc:List V)(N:List V->Hp->Prop),x∈xs->N (if p x then acc++[f x] else acc) H->g x σ0 H λd c=>tt d c λb h=>if b=Δ then te d h λy v=>N (acc++[y]) v else N acc h)
  (w:∀D,H D=Β->Q (.ref D) (ο H D (.π ((xs.filter p).map f)))):
  ge (AF K a) g tt te σ0 Q H:=by
 refine⟨λi m acc n=>m=xs.length - i/\i<=xs.length/\n=H/\acc=((xs.take i).filter p).map f,⟨xs.length,by simp,Ä _,Λ,Λ⟩,?_⟩
 rintro i m acc n ⟨rfl,C,rfl,rfl⟩
 have z:(((xs.take i).filter p).map f).length<Τ:=by
  rw[Μ]
  have o:=É p (xs.take i)
  have q:=æ i xs
  omega
 refine⟨z,?_⟩
 by_cases r:i<xs.length
 ·refine .inr ⟨⟨xs,xs[i],l,by simp[r]⟩,λj c=>c=n/\j=((xs.take (i+1)).filter p).map f,λj c A=>by obtain⟨o,q⟩:=A;exact⟨xs.length - (i+1),by omega,Λ,r,o,q⟩,λx c y=>?_⟩
  obtain⟨e,y⟩:=y
  subst e
  have s:=y xs l
  refine u x _ (λj h=>h=c/\j=((xs.take (i+1)).filter p).map f) (Ϫ s) ⟨Λ,?_⟩
  rw[í,s,Ú]
  cases t:p x with
  |true=>simp[t]
  |false=>simp[t]
 ·have e:i=xs.length:=by omega
  subst e
  rw[Ó]
  exact .inl ⟨⟨xs,l,ϛ _⟩,w⟩
theorem qT(k:Int):∀a:List Int,Ca (.int k) (a.map V.int)=decide (k∈a)
 |[]=>by simp[Ca]
 | n:: r=>by
  have b:=qT k r
  unfold Ca at b⊢
  rw[ϳ,q7,b]
  show((n == k)||decide (k∈r))=decide (k∈n:: r)
  by_cases h:k=n
  ·subst h;simp
  ·have c:¬n=k:=λz=>h z.symm
   simp[h,c]
theorem lu:∀a:List Int,(a.map V.int).all jq=Δ
 |[]=>rfl
 |n:: r=>by rw[ϳ,rg,lu r];rfl
open PySem.Spec PyProof.Rows
section
variable {X:Cx}{tg:Expr}
inductive Y2(x:V)(vs:List V)(H:Hp)(Q:VK):Prop
 |mk (l:Ν)(ns:List Int)(k:Int)(_:x=.ref l)(_:vs=[.int k])(_:H l=Α (.π (ns.map V.int)))(_:k∈ns)(_:ns.length<=100000)(_:Q (.int (ns.idxOf k:Nat)) H)
theorem wU:Vu X "list.index" Y2:=by
 intro D s σ H x vs v us Q I M N h
 obtain⟨l,a,k,rfl,rfl,O,P,G,q⟩:=h
 cases M
 obtain⟨u,rfl,R⟩:=N.one
 obtain⟨t,rfl⟩:=R
 obtain⟨z,b,n,r,hl,e⟩:=I.Jq O
 have hi:=o0 r
 have g:b.length=a.length:=by rw[←r.length,Μ]
 have o:=List.idxOf_lt_length_of_mem P
 have d:∀m (c:m<b.toArray.size),∃t,b.toArray[m]=Ŭ (a[m]'(by simpa [g] using c)) t:=λm c=>by
  have A:m<b.length:=by simpa using c
  have S:(a.map V.int)[m]?=Α (V.int (a[m]'(by omega))):=by simp[show m<a.length by omega]
  obtain⟨w',J,T⟩:=r.get S
  obtain⟨f,rfl⟩:=T
  refine⟨f,?_⟩
  have:b[m]?=Α b[m]:=Ψ A
  rw[this]at J
  simpa using ϥ J
 let U:Ο->Bool:=λy=>Ģ k y
 refine ŏ PySem.F.slot_list_index ⟨_,e,Λ⟩ PySem.F.entry_list_index (PySem.F.args_list_index_2 _ _)
  (SeqAt.list_indexAt l b.toArray n Β #[] (.int k t) U (a.idxOf k) (by simpa [g] using o) (by omega) ?_ ?_) ⟨e,λy Y=>?_,?_⟩
 ·obtain⟨f,j⟩:=d (a.idxOf k) (by simpa [g] using o)
  show Ģ k (b.toArray[a.idxOf k]'(by simpa [g] using o))=Δ
  rw[j,List.getElem_idxOf]
  simp[Ģ]
 ·intro m c B
  obtain⟨f,j⟩:=d m c
  show Ģ k b.toArray[m]=Ε
  rw[j]
  have K:a[m]'(by simpa [g] using c)≠k:=λz=>by
   have:=List.not_of_lt_findIdx (p:=λx=>x == k) (xs:=a) (i:=m) B
   rw[z]at this
   simp at this
  simp only[Ģ,beq_eq_false_iff_ne,ne_eq]
  first|exact K|exact λz=>K z.symm
 ·have c:y∈b:=by simpa using Y
  obtain⟨m,A,Z⟩:=qa c
  obtain⟨f,j⟩:=d m (by simpa using A)
  have ey:y=Ŭ (a[m]'(by omega)) f:=by rw[←Z];simpa using j
  subst ey
  intro L w E Q' C
  refine Lu ?_
  have:(a[m]'(by omega) == k)=Ģ k (Ŭ (a[m]'(by omega)) f):=by simp[Ģ,Bool.beq_comm]
  rw[this]
  exact C
 ·exact⟨.int (a.idxOf k:Nat),H,I.tok _,⟨_,Λ⟩,q⟩
inductive RF(K:Ϣ)(xs:List V)(H:Hp)(Q:VK):Prop
 |mk (v:V)(t:Ο)(c:String)(b:Bool)(_:xs=[v,.ty c])(_:jl K H v t)(_:ü K t (.type c)=Α b)(_:Q (.bl b) H)
theorem iN:F5 X (.builtin "isinstance") (RF X.K):=by
 intro d s j H xs us Q I r h
 obtain⟨v,t,c,b,rfl,e,f,q⟩:=h
 cases r with
 | cons g a=>cases a with
  | cons a i =>
   cases i
   cases a
   exact xg I g e f λl=>⟨.bl b,H,I.tok _,Λ,q⟩
end
end L2
namespace L2
open PySem
section
variable {X:Cx}
inductive vf(t:TS)(D:iP)(σ:St)(H:Hp):Prop
 |mk (HV:St->Hp->Prop)(_:t {D with nx:=HV} σ H)(_:∀σ' H',HV σ' H'->D.nx σ' H')
theorem gX(h:PS X st t):PS X st (vf t):=λa s c H D I ⟨g,q,k⟩ =>
 bq (h a s c H _ I q) λf i z=>by
  cases f with
  |next=>obtain⟨b,d,e,p⟩:=z;exact⟨b,d,e,k _ _ p⟩
  |brk=>exact z
  |cont=>exact z
  |ret u=>exact z
inductive Df(t:TE)(σ:St)(H:Hp)(Q:VK):Prop
 |mk (HV:V->Hp->Prop)(_:t σ H HV)(_:∀v H',HV v H'->Q v H')
theorem iY(h:PE X e t):PE X e (Df t):=λa s c H Q I ⟨g,q,k⟩ =>
 bq (h a s c H _ I q) λu i d=>by obtain⟨v,b,f,r,p⟩:=d;exact⟨v,b,f,r,k v b p⟩
inductive De(t:TT)(σ:St)(H:Hp)(Q:Bool->Hp->Prop):Prop
 |mk (HV:Bool->Hp->Prop)(_:t σ H HV)(_:∀b H',HV b H'->Q b H')
theorem gc(h:PT X e t):PT X e (De t):=λa s d H Q I ⟨i,q,k⟩ =>
 bq (h a s d H _ I q) λb j f=>by obtain⟨c,g,p⟩:=f;exact⟨c,g,k b c p⟩
end
open PySem.Spec PyProof.Rows
section
variable {κ:Type}[DecidableEq κ]
noncomputable def iy(EZ:List (κ×V))(k:κ):Option V:=(EZ.find? λkv=>decide (kv.1=k)).map (·.2)
noncomputable def rX(EZ:List (κ×V))(k:κ)(v:V):List (κ×V):=
 if (EZ.any λkv=>decide (kv.1=k))=Δ then EZ.map (λkv=>if kv.1=k then (kv.1,v) else kv) else EZ++[(k,v)]
theorem mK{k:κ}(e:p.1=k):iy (p:: r) k=Α p.2:=by simp[iy,Ķ,e]
theorem r9{k:κ}(e:¬p.1=k):iy (p:: r) k=iy r k:=by simp[iy,Ķ,e]
theorem sA(a:List (κ×V))(k:κ)(v:V):(rX a k v).length<=a.length+1:=by
 unfold rX
 split
 ·rw[Μ];omega
 ·rw[Ξ,Ϛ,hX];omega
theorem GC.getD(r:GC o u)(rd:RelV d d'):RelV (o.getD d) (u.getD d'):=by
 cases o with
 | none=>cases u with
  |none=>exact rd
  |some _=>exact(r).elim
 | some _=>cases u with
  |none=>exact(r).elim
  |some _=>exact r
theorem KV.val(r:KV EZ vs)(k:κ):GC (iy EZ k) (O7 vs k):=by
 unfold KV at r
 induction r with
 |nil=>exact È
 | @cons p q ps qs h t ih =>
  obtain⟨c,d⟩:=h
  by_cases e:p.1=k
  ·have a:=c.symm.trans e
   have b:O7 (q:: qs) k=Α q.2:=by simp[O7,Ķ,a]
   rw[mK e,b];exact d
  ·have a:¬q.1=k:=λz=>e (c.trans z)
   have b:O7 (q:: qs) k=O7 qs k:=by simp[O7,Ķ,a]
   rw[r9 e,b];exact ih
theorem KV.any(r:KV EZ vs)(k:κ):(EZ.any λa=>decide (a.1=k))=vs.any λa=>decide (a.1=k):=by
 unfold KV at r
 induction r with
 |nil=>rfl
 |cons h t b=>rw[q7,q7,b,h.1]
theorem KV.Y3(r:KV EZ vs)(k:κ)(c:RelV y u):
  KV (EZ.map λa=>if a.1=k then (a.1,y) else a) (vs.map λa=>if a.1=k then (a.1,u) else a):=by
 unfold KV at r⊢
 induction r with
 |nil=>exact .nil
 | @cons p q ps qs h t ih =>
  rw[ϳ,ϳ]
  refine .cons ?_ ih
  obtain⟨b,d⟩:=h
  by_cases e:p.1=k
  ·rw[Ι e,Ι (b.symm.trans e)];exact⟨b,c⟩
  ·rw[Θ e,Θ (λz=>e (b.trans z))];exact⟨b,d⟩
theorem KV.put(r:KV EZ vs)(k:κ)(a:RelV y u):KV (rX EZ k y) (stored vs k u):=by
 unfold rX stored
 rw[r.any k]
 by_cases e:(vs.any λb=>decide (b.1=k))=Δ
 ·rw[Ι e,Ι e];exact r.Y3 k a
 ·rw[Θ e,Θ e];exact Paired.snoc r ⟨Λ,a⟩
end
theorem zU(r:RelV (kV k) u):(bZ P w).is k u=Δ:=by
 cases k with
 |inl i=>obtain⟨t,e⟩:=(r);subst e;exact su P w i t
 |inr x=>obtain⟨t,e⟩:=(r);subst e;exact sr P w x t
theorem pQ:∀{a:List Key}{us:List Ο},τ (a.map kV) us->ItemsAre (bZ P w) a us
 |[],_,r=>by rw[gM]at r;cases r;exact .nil
 | k:: a,_,r=>by
  rw[ϳ]at r
  cases r with
  |cons h t=>exact .cons (zU h) (pQ t)
abbrev KT(H:Hp):List (List Key×V)->List (List Key×Ν×Ο)->Prop:=Paired λp q=>p.1=q.1/\H q.2.1=Α (.tup (p.1.map kV))/\RelV p.2 q.2.2
theorem KT.val(r:KT H EZ xs)(k:List Key):GC (iy EZ k) ((Sn xs k).map (·.2)):=by
 induction r with
 |nil=>exact È
 | @cons p q ps qs h t ih =>
  obtain⟨c,_,d⟩:=h
  by_cases e:p.1=k
  ·have a:=c.symm.trans e
   have b:Sn (q:: qs) k=Α q.2:=by simp[Sn,Ķ,a]
   rw[mK e,b];exact d
  ·have a:¬q.1=k:=λz=>e (c.trans z)
   have b:Sn (q:: qs) k=Sn qs k:=by simp[Sn,Ķ,a]
   rw[r9 e,b];exact ih
section
variable {P:Program}{w:À}{H:Hp}{h:ò}{a:Ν}
theorem C8(ok:GD P w H h)(e:Rd H a u):Fv P w H h a u:=e.ok ok
theorem Al(ok:GD P w H h)(e:Rd H a (.dK EZ)):EZ.length<=Τ/\(a == Č)=Ε/\∃b,KV EZ b/\h.DictOf (bZ P w) a b:=
 show Fv P w H h a (.dK EZ) from C8 ok e
theorem RG(ok:GD P w H h)(e:H a=Α (.dK EZ)):EZ.length<=Τ/\(a == Č)=Ε/\∃b,KV EZ b/\h.DictOf (bZ P w) a b:=Al ok (.inl e)
theorem zS(ok:GD P w H h)(e:H a=Α (.tup (ks.map kV))):(Ņ (bZ P w)).is h ks a:=by
 obtain⟨_,b,r,o,c,⟨d,n,f⟩,_⟩:=(ok a _ e)
 exact⟨o,b.toArray,n,c,d,f,by simpa using pQ r⟩
theorem CM(ok:GD P w H h)(e:Rd H a (.dT EZ)):EZ.length<=Τ/\(a == Č)=Ε/\
  ∃xs,KT H EZ xs/\h.DictOfH (Ņ (bZ P w)) a xs:=by
 obtain⟨z,y,xs,r,o,c,d,f,g,i,j,n⟩:=(C8 ok e)
 refine⟨z,y,xs,r,o,c,d,f,g,i,j,λx b=>?_,n⟩
 have all:∀{l:List (List Key×V)}{m:List (List Key×Ν×Ο)},KT H l m->∀x∈m,(Ņ (bZ P w)).is h x.1 x.2.1:=by
  intro l m q
  induction q with
  |nil=>intro x b;exact nomatch b
  | @cons p q ps qs hq t ih =>
   intro x b
   rcases ύ.mp b with e|b
   ·subst e
    exact zS ok (by rw[←hq.1];exact hq.2.1)
   ·exact ih x b
 exact all r x b
end
def L6(H:Hp)(a:Ν)(y:V)(r:Option V):Prop:=
 (∃EZ k,Rd H a (.dK EZ)/\y=kV k/\r=iy EZ k)∨∃EZ k b,Rd H a (.dT EZ)/\y=.ref b/\H b=Α (.tup (k.map kV))/\r=iy EZ k
theorem L6.k{k:Key}(e:H a=Α (.dK EZ)):L6 H a (kV k) (iy EZ k):=.inl ⟨EZ,k,.inl e,Λ,Λ⟩
section
variable {X:Cx}{ν:List (Ν×Obj)}{σ:St}{H:Hp}{s:Ω}{a:Ν}{y v:V}{u r:Ο}{o:Option V}{A:é}{E:Ο->Ω->Prop}
theorem ς.big(I:ς X ν σ H s):Č<s.heap.objs.size:=by
 have h:=(I.mod.glob.keeps I.bk).lt
 exact ø (by decide) h
theorem Ch(I:ς X ν σ H s)(d:QB (H a))(f:ŗ a s.heap h')(g:∃q,h'.get? a=Α q)(new:Fv X.prog X.w (ο H a ob) h' a ob):
  ς X ν σ (ο H a ob) {s with heap:=h',toks:=t'}:=
 I.write (x:=a) (e:=a) d (.inl Λ) (λb q h z=>(f.2 b h).trans z) g new
theorem EA(z:EZ.length<=Τ)(c:(a == Č)=Ε)(b:KV EZ vs)(d:h'.DictOf (bZ P w) a vs):
  Fv P w H' h' a (.dK EZ):=⟨z,c,vs,b,d⟩
end
section
variable {X:Cx}{ν:List (Ν×Obj)}{σ:St}{H:Hp}{s:Ω}{a:Ν}{EZ:List (Key×V)}{k:Key}{u:Ο}{A:é}{E:Ο->Ω->Prop}
end
section
variable {X:Cx}{o i e value:Expr}{pos pos' IB:Pos}{td ty tv:TE}
end
theorem Am(h:ò)(a:Č<h.objs.size):Fv P w H (h.push {cls:=.type "dict",data:=.dict #[]}) h.objs.size (.dK []):=
 ⟨Ä _,beq_eq_false_iff_ne.mpr (ϧ (Þ a)),[],.nil,ò.DictOf.new h⟩
section
variable {X:Cx}{pos:Pos}
end
def tV:List (TE×TE)->St->Hp->(List (V×V)->Hp->Prop)->Prop
 |[],_,H,Q=>Q [] H
 |(tk,tv):: r,σ,H,Q=>tk σ H λx H1=>tv σ H1 λy H2=>tV r σ H2 λps H3=>Q ((x,y):: ps) H3
abbrev VV:List (V×V)->List (Ο×Ο)->Prop:=Paired λp q=>RelV p.1 q.1/\RelV p.2 q.2
def RH(X:Cx)(pos:Pos)(keys:List (Option Expr))(values:List Expr)(J7:List (TE×TE)):Prop:=
 ∀(ν:List (Ν×Obj))(s:Ω)(σ:St)(H:Hp)(Q:List (V×V)->Hp->Prop),ς X ν σ H s->tV J7 σ H Q->
  ϩ (Ϧ X.prog X.w) X.A (evalPairs (pairTrees keys values X.env pos)) (λvs s'=>∃ps H',ς X ν σ H' s'/\VV ps vs/\Q ps H') X.xe s
theorem Bu:RH X pos [] [] []:=λa s b H Q I h=>pairTrees_nil_walk ⟨[],H,I,.nil,h⟩
theorem yS(d:PE X k tk)(e:PE X v tv)(f:RH X pos ks vs J7):
  RH X pos (Α k:: ks) (v:: vs) ((tk,tv):: J7):=λa s b H Q I h =>
 pairTrees_cons_walk (bq (d a s b H _ I h) λu g ⟨x,i,j,l,m⟩=>bq (e a g b i _ j m) λC n ⟨y,o,p,q,r⟩ =>
  bq (f a n b o _ p r) λws D t=>by obtain⟨w,z,A,c,B⟩:=t;exact⟨(x,y):: w,z,A,.cons ⟨l,q⟩ c,B⟩)
noncomputable def oq(EZ more:List (Key×V)):List (Key×V):=more.foldl (λacc kv=>rX acc kv.1 kv.2) EZ
theorem KV.merge:∀{more:List (Key×V)}{c:List (Key×Ο)}{a:List (Key×V)}{b:List (Key×Ο)},KV more c->KV a b->KV (oq a more) (merged b c):=by
 intro more c a b r
 unfold KV at r
 induction r generalizing a b with
 |nil=>intro q;exact q
 | @cons p q ps qs h t ih =>
  intro d
  have e:KV (rX a p.1 p.2) (stored b q.1 q.2):=by
   have:=d.put p.1 h.2
   rw[←h.1];exact this
  exact ih e
theorem jp:∀(more a:List (Key×V)),(oq a more).length<=a.length+more.length
 |[],a=>by show a.length<=a.length+0;omega
 | p:: r,a=>by
  have b:=jp r (rX a p.1 p.2)
  have c:=sA a p.1 p.2
  show(oq (rX a p.1 p.2) r).length<=_
  rw[Ϛ];omega
theorem oQ:∀{e:List (Key×V)}{ws:List (Ο×Ο)},VV (e.map λf=>(kV f.1,f.2)) ws->∃d,Carries (bZ P w) ws d/\KV e d
 |[],_,r=>by rw[gM]at r;cases r;exact⟨[],È,.nil⟩
 | p:: e,_,r=>by
  rw[ϳ]at r
  cases r with
  | @cons a b as bs h t =>
   obtain⟨d,c,q⟩:=oQ (P:=P) (w:=w) t
   obtain⟨i,g⟩:=b
   exact⟨(p.1,g):: d,⟨zU h.1,Λ,c⟩,.cons ⟨Λ,h.2⟩ q⟩
def C0(J7:List (TE×TE)):TE:=λσ H Q=>∀p,H p=Β->tV J7 σ (ο H p (.dK [])) λps H2=>H2 p=Α (.dK [])/\∃EZ:List (Key×V),ps=EZ.map (λkv=>(kV kv.1,kv.2))/\EZ.length<=15/\Q (.ref p) (ο H2 p (.dK (oq [] EZ)))
theorem Bw(h:RH X pos keys values J7)(m:keys.all (·.isSome)=Δ)(n:keys.length=values.length)(p:keys≠[])
  (d:keys.length<=15):PE X (.Dict keys values pos) (C0 J7):=by
 intro b s r H Q I q
 have t:=I.Fi.fresh (ϛ s.heap.objs.size)
 have u:=I.laid (a:=s.heap.objs.size) (o:=.dK []) (h':=s.heap.push {cls:=.type "dict",data:=.dict #[]}) (t':=s.toks) (λ_ _ q=>Υ _ q) (ϛ _) (Am s.heap I.big)
 refine wpAny_Dict_walk (knd:=bZ X.prog X.w) m n p d (bq (h b _ r _ _ u (q _ t)) λws L v=>?_)
 obtain⟨M,N,i,f,e,j,x,lk,y⟩:=v
 subst x
 obtain⟨A,c,B⟩:=oQ (P:=X.prog) (w:=X.w) f
 obtain⟨z,C,O,D,E⟩:=RG i.Fi e
 cases D
 refine⟨A,c,E,λh' l F=>⟨.ref s.heap.objs.size,_,?_,Λ,y⟩⟩
 have G:(oq [] j).length<=Τ:=by
  have J:=jp j []
  rw[hX]at J
  rw[Χ];omega
 have K:∃q,h'.get? s.heap.objs.size=Α q:=let ⟨q,_,_,hq,_⟩:=l;⟨q,hq⟩
 exact Ch i (by rw[e];exact È) F K (EA G C (B.merge .nil) l)
structure M2(X:Cx)(o:Expr)(m:Str)(apos:Pos)(e f:Expr)(FE:Pos):Prop where
 μ:ŕ o m X.env (eval o X.env)=eval o X.env
 F3:((Ė FE (Ϭ [e,f] X.env)).all (λx=>!x.1)&& (pM FE (Ś [] X.env)).all (λx=>x.1.isSome)
  && decide (([e,f]:List Expr).length+([]:List IC).length+(if ([]:List IC).isEmpty then 0 else 1)<30))=Δ
 line:(apos.endLine == FE.line)=Δ
 trees:Ė FE (Ϭ [e,f] X.env)=[(Ε,eval e X.env),(Ε,eval f X.env)]
def IsD(H:Hp)(a:Ν):Prop:=(∃EZ,Rd H a (.dK EZ))∨∃EZ,Rd H a (.dT EZ)
theorem Ey{j:St}(I:ς X ν j H s)(d:IsD H a):
  s.TypeIs (.ref a) "dict"/\(∀b,ϭ a=.ref b->∃c,s.heap.get? b=Α c/\c.dict=Β)/\(a == Č)=Ε:=by
 rcases d with ⟨l,e⟩|⟨l,e⟩
 ·obtain⟨_,g,m,_,f⟩:=Al I.Fi e
  refine⟨f.typeIs,λb q=>?_,g⟩
  cases q
  obtain⟨c,_,_,h,i,_⟩:=f
  exact⟨c,h,i.2.1⟩
 ·obtain⟨_,g,xs,_,f⟩:=CM I.Fi e
  refine⟨f.typeIs,λb q=>?_,g⟩
  cases q
  obtain⟨c,_,_,h,i,_⟩:=f
  exact⟨c,h,i.2.1⟩
section
variable {X:Cx}{ν:List (Ν×Obj)}{σ:St}{H:Hp}{s:Ω}{a:Ν}{y d:V}{u r:Ο}{o:Option V}{A:é}{E:Ο->Ω->Prop}
theorem EC(q:A.units+1<ŷ)(I:ς X ν σ H s)(g:L6 H a y o)(m:RelV y u)(rd:RelV d r)(h:∀n p,ς X ν σ H p->RelV (o.getD d) n->Q n p):
  ϩ (Ϧ X.prog X.w) A (call (.builtin "dict.get") [.ref a,u,r]) Q E s:=by
 rcases g with ⟨t,k,e,i,l⟩|⟨t,k,b,e,i,v,l⟩
 ·subst i
  obtain⟨z,j,x,c,f⟩:=Al I.Fi e
  refine VB slot_dict_get f.typeIs entry_dict_get (args_dict_get_3 _ _ _) (meets_dict_get_default (bZ X.prog X.w) a (zU m) j r) ⟨_,f.mapOf,h _ _ (I.tok _) ?_⟩
  rw[l]
  exact(c.val k).getD rd
 ·subst i
  cases (m)
  obtain⟨z,j,xs,c,f⟩:=CM I.Fi e
  refine VB slot_dict_get f.typeIs entry_dict_get (args_dict_get_3 _ _ _) (RE (Ņ (bZ X.prog X.w)) a b j r) ⟨Ū q,k,xs,zS I.Fi v,f,h _ _ (I.tok _) ?_⟩
  rw[l]
  exact(c.val k).getD rd
end
inductive Uau(ty:TE)(tx:TE)(σ:St)(Q:VK)(x:V)(H1:Hp):Prop
 |mk (a)(_:x=.ref a)(_:IsD H1 a)(_:ty σ H1 λy H2=>tx σ H2 λz H3=>∃o,L6 H3 a y o/\Q (o.getD z) H3)
def Dj(td ty tx:TE):TE:=λσ H Q=>td σ H λx H1=>Uau ty tx σ Q x H1
section
variable {X:Cx}{o e f:Expr}{apos FE:Pos}{td ty tx:TE}
theorem yY(j:X.A.units+1<ŷ)(l:PE X o td)(n:PE X e ty)(p:PE X f tx)(m:M2 X o "get" apos e f FE):PE X (.Call (.Attribute o "get" apos) [e,f] [] FE) (Dj td ty tx):=by
 intro b s c H Q I h
 refine wpAny_Call_method m.μ m.F3 m.line PySem.F.plainAttrs_dict slot_dict_get PySem.F.type_dict_get (bq (l b s c H _ I h) λu q r=>?_)
 obtain⟨x,t,i,v,a,ex,d,w⟩:=r
 subst ex
 obtain rfl:u=ϭ a:=v
 obtain⟨B,C,_⟩:=Ey i d
 refine⟨B,C,?_⟩
 rw[m.trees]
 refine ľ Λ (c0 (mu (bq (n b q c t _ i w) λS D ⟨y,E,G,J,K⟩ =>
  mu (bq (p b D c E _ G K) λT U ⟨z,L,M,N,Y,g,O⟩=>Tq ?_))))
 exact EC j M g J N λZ s4 P R=>⟨_,L,P,R,O⟩
end
section
variable {X:Cx}{ν:List (Ν×Obj)}{σ:St}{H:Hp}{s:Ω}{a:Ν}{EZ:List (Key×V)}{A:é}{E:Ο->Ω->Prop}
end
section
variable {X:Cx}{ν:List (Ν×Obj)}{σ:St}{H:Hp}{s:Ω}{a:Ν}{y:V}{u:Ο}{A:é}{E:Ο->Ω->Prop}
end
section
variable {X:Cx}
end
section
variable {κ:Type}[DecidableEq κ]
end
section
variable {X:Cx}{tg:Expr}
end
section
variable {X:Cx}
end
end L2
namespace L2
open PySem
theorem b8(n:Nat)(v:n<Τ)(W:Nat->List V->Hp->Prop)(p:W 0 [] H)(c:∀i acc a,W i acc a->acc.length<=i)
  (d:∀i acc a,i<n->W i acc a->J.go i a/\∀x f,J.LW i a x f->g x σ0 f λh r=>tt h r λb j=>if b=Δ then te h j λy s=>W (i+1) (acc++[y]) s else W (i+1) acc j)
  (stop:∀acc a,W n acc a->J.stop n a/\∀D,a D=Β->Q (.ref D) (ο a D (.π acc))):ge J g tt te σ0 Q H:=by
 refine⟨λi m acc a=>m=n - i/\i<=n/\W i acc a,⟨n,by simp,Ä _,p⟩,?_⟩
 rintro i m acc a ⟨rfl,z,w⟩
 refine⟨by have:=c i acc a w;omega,?_⟩
 by_cases l:i<n
 ·obtain⟨t,q⟩:=d i acc a l w
  exact .inr ⟨t,λo f=>W (i+1) o f,λo f u=>⟨n - (i+1),by omega,Λ,l,u⟩,q⟩
 ·have e:i=n:=by omega
  subst e
  exact .inl (stop acc a w)
theorem EU.new(h:EU H H')(n:H' a=Β):EU H (ο H' a o):=λb u e=>by rw[af (ai (h _ _ e) n)];exact h _ _ e
end L2
namespace L2
open PySem
theorem F4(a:autoParam (sc.kind=.function) η)(b:autoParam (sc.isCoroutine=Ε) η)(c:autoParam (sc.isGenerator=Ε) η)(d:autoParam (N.Nodup) ξ)(e:autoParam (N.take P.length=P) η)(f:autoParam (∀x∈P,sc.names.lookup x=Α .local∨sc.names.lookup x=Α .cell) ξ)(g:autoParam (∀y∈sc.names,y.2≠.free) ξ):ap N P sc:=⟨a,b,c,d,e,f,g⟩
theorem GR(a:autoParam (scope.kind=.function) η)(b:autoParam (∀y∈scope.names,y.2≠.cell) ξ)(c:autoParam (∀y∈scope.names,y.2=.local->scope.names.lookup y.1=Α .local) ξ)(d:autoParam (∀y∈scope.names,y.2=.free->sc.names.lookup y.1=Α .cell∨sc.names.lookup y.1=Α .free) ξ)(e:autoParam (cap.length=capN.length) η)(f:autoParam (∀p∈capN.zip cap,scope.names.lookup p.1=Α .free/\N[p.2]?=Α p.1) ξ):FQ N sc scope capN cap:=⟨a,b,c,d,e,f⟩
end L2
namespace K83
open PySem L2
variable {P:Program}{w:À}{K:Ϣ}{mg:Str->Option Ο}{μ:ò}
noncomputable def c9(i:Nat):Ã:=PySem.Challenge.pw_wormyard_k83_yards_read.main.body.getD i (.Pass ⟨0,0,0,0⟩)
abbrev n0:Ã:=c9 16
abbrev qC:Ã:=c9 17
abbrev D6:Ã:=c9 18
abbrev Dz:Ã:=c9 22
abbrev Bh:Ã:=c9 25
abbrev y9:Ã:=c9 26
abbrev D4:Ã:=c9 27
abbrev rS:Ã:=c9 29
abbrev Y4:Ã:=c9 30
abbrev uq:Ã:=c9 36
abbrev jO:Ã:=c9 37
abbrev qD:Ã:=c9 38
abbrev nv:Ã:=c9 39
abbrev nA:Ã:=c9 40
abbrev jy:Ã:=c9 47
abbrev yq:Ã:=c9 48
abbrev rP:Ã:=c9 49
abbrev n8:Ã:=c9 53
abbrev i5:Ã:=c9 54
abbrev n9:Ã:=c9 55
abbrev nu:Ã:=c9 56
abbrev jM:Ã:=c9 57
abbrev i6:Ã:=c9 58
abbrev i7:Ã:=c9 59
abbrev rV:Ã:=c9 60
abbrev nD:Ã:=c9 61
abbrev jP:Ã:=c9 62
abbrev kP:Ã:=c9 63
abbrev yG:Ã:=c9 65
abbrev nG:Ã:=c9 66
abbrev yE:Ã:=c9 67
abbrev ut:Ã:=c9 68
abbrev rO:Ã:=c9 69
abbrev rT:Ã:=c9 70
abbrev rL:Ã:=c9 71
abbrev jL:Ã:=c9 72
abbrev uw:Ã:=c9 73
abbrev kQ:Ã:=c9 74
abbrev RI:Ã:=aO (c9 5) 0
abbrev RJ:Ã:=aO (c9 6) 0
abbrev V9:Ã:=aO (c9 11) 0
abbrev rR:Ã:=aO (c9 23) 0
abbrev DD:Ã:=aO (c9 23) 2
abbrev yz:Ã:=aO (c9 23) 3
abbrev rQ:Ã:=aO (c9 23) 4
abbrev D3:Ã:=aO (c9 31) 0
abbrev yr:Ã:=aO (c9 32) 0
abbrev ur:Ã:=aO (c9 32) 1
abbrev D8:Ã:=aO (c9 42) 0
abbrev y4:Ã:=aO (c9 42) 1
abbrev D5:Ã:=aO (c9 42) 2
abbrev ux:Ã:=aO (c9 42) 3
abbrev yt:Ã:=aO (c9 42) 4
abbrev uz:Ã:=aO (c9 42) 5
abbrev D7:Ã:=aO (c9 42) 7
abbrev yC:Ã:=aO (c9 50) 0
abbrev yB:Ã:=aO (c9 50) 1
abbrev kO:Ã:=aO (c9 51) 0
abbrev jN:Ã:=aO (c9 51) 1
abbrev uv:Ã:=aO (c9 51) 2
abbrev rN:Ã:=aO (c9 51) 3
abbrev rM:Ã:=aO (c9 51) 4
abbrev uu:Ã:=aO (c9 51) 5
abbrev qF:Ã:=aO (c9 51) 6
abbrev jK:Ã:=aO (c9 51) 7
abbrev yA:Ã:=aO (c9 51) 8
abbrev Y5:Ã:=aO (c9 51) 9
abbrev yF:Ã:=aO (c9 51) 10
abbrev uy:Ã:=aO (c9 51) 11
abbrev DA:Ã:=aO (c9 51) 12
abbrev yw:Ã:=aO (c9 51) 13
abbrev yu:Ã:=aO (c9 51) 14
abbrev yD:Ã:=aO (c9 51) 21
structure Txt(mg:Str->Option Ο):Prop where
 O8:mg "isinstance"=Β
 int:mg "int"=Β
 bool:mg "bool"=Β
 len:mg "len"=Β
 enum:mg "enumerate"=Β
 tuple:mg "tuple"=Β
 range:mg "range"=Β
 list:mg "list"=Β
 all:mg "all"=Β
 abs:mg "abs"=Β
 str:mg "str"=Β
 min:mg "min"=Β
def Cr(H:Hp)(v:V)(p:Int×Int):Prop:=∃t,v=.ref t/\H t=Α (.tup [.int p.1,.int p.2])
abbrev F6(H:Hp):List V->List (Int×Int)->Prop:=Paired (Cr H)
theorem F6.same(h:EU H H'):∀{a:List V}{b:List (Int×Int)},F6 H a b->F6 H' a b:=λc=>by
 induction c with
 |nil=>exact .nil
 |cons d r f=>obtain⟨t,e,q⟩:=d;exact .cons ⟨t,e,h _ _ q⟩ f
theorem F6.get:∀{a:List V}{b:List (Int×Int)}{i:Nat}{v:V},F6 H a b->a[i]?=Α v->∃p,b[i]?=Α p/\Cr H v p:=by
 intro _ _ i _ c
 induction c generalizing i with
 |nil=>intro h;cases h
 | cons x r d =>
  intro h
  cases i with
  |zero=>cases h;exact⟨_,Λ,x⟩
  |succ i=>exact d (i:=i) h
theorem F6.O9:∀{a:List V}{b:List (Int×Int)}{i:Nat}{p:Int×Int},F6 H a b->b[i]?=Α p->∃v,a[i]?=Α v/\Cr H v p:=by
 intro _ _ i _ c
 induction c generalizing i with
 |nil=>intro h;cases h
 | cons x r d =>
  intro h
  cases i with
  |zero=>cases h;exact⟨_,Λ,x⟩
  |succ i=>exact d (i:=i) h
theorem F6.snoc(h:Cr H v p):∀{a:List V}{b:List (Int×Int)},F6 H a b->F6 H (a++[v]) (b++[p]):=λc=>by
 induction c with
 |nil=>exact .cons h .nil
 |cons q r d=>exact .cons q d
noncomputable def gQ(n:Int)(p:Int×Int):Bool:=decide (0<=p.1/\p.1<=n - 1)&& (decide (0<=p.2/\p.2<=n - 1)&& !decide (p.1=p.2))
theorem Bc:ap ["value"] ["value"] (ag n0):=L2.F4
theorem yp:ap ["value","least","most"] ["value","least","most"] (ag qC):=L2.F4
theorem N4:ap ["places","one","other","last"] ["places","one","other"] (ag Dz):=L2.F4
theorem Paired.mono{R c:α->β->Prop}(h:∀a b,R a b->c a b):∀{as:List α}{bs:List β},Paired R as bs->Paired c as bs:=λd=>by
 induction d with
 |nil=>exact .nil
 |cons x r e=>exact .cons (h _ _ x) e
theorem Paired.snoc{a:α}{b:β}(h:R a b):∀{as:List α}{bs:List β},Paired R as bs->Paired R (as++[a]) (bs++[b]):=λc=>by
 induction c with
 |nil=>exact .cons h .nil
 |cons x r d=>exact .cons x d
theorem Paired.at:∀{as:List α}{bs:List β}{i:Nat}{a:α},Paired R as bs->as[i]?=Α a->∃b,bs[i]?=Α b/\R a b:=by
 intro _ _ i _ c
 induction c generalizing i with
 |nil=>intro h;cases h
 | cons x r d =>
  intro h
  cases i with
  |zero=>cases h;exact⟨_,Λ,x⟩
  |succ i=>exact d (i:=i) h
theorem Paired.at2:∀{as:List α}{bs:List β}{i:Nat}{b:β},Paired R as bs->bs[i]?=Α b->∃a,as[i]?=Α a/\R a b:=by
 intro _ _ i _ c
 induction c generalizing i with
 |nil=>intro h;cases h
 | cons x r d =>
  intro h
  cases i with
  |zero=>cases h;exact⟨_,Λ,x⟩
  |succ i=>exact d (i:=i) h
noncomputable def isI:V->Bool
 |.int _=>Δ
 |_=>Ε
noncomputable def kX:V->Int->Int->Bool
 |.int i,a,b=>decide (a<=i/\i<=b)
 |_,_,_=>Ε
inductive tH:V->Prop
 |int (i:Int):tH (.int i)
 |bl (b:Bool):tH (.bl b)
 |Fp:tH .Fp
structure wj(K:Ϣ):Prop where
 ii:ü K (.type "int") (.type "int")=Α Δ
 ib:ü K (.type "int") (.type "bool")=Α Ε
 bi:ü K (.type "bool") (.type "int")=Α Δ
 bb:ü K (.type "bool") (.type "bool")=Α Δ
 ni:ü K (.type "NoneType") (.type "int")=Α Ε
inductive gr(vs:List V)(H:Hp)(Q:VK)(_:XK):Prop
 |mk (v)(_:vs=[v])(_:tH v)(_:Q (.bl (isI v)) H)
inductive e9(vs:List V)(H:Hp)(Q:VK)(E:XK):Prop
 |mk (v:V) (a b:Int) (_:vs=[v,.int a,.int b]) (_:tH v) (_:Q (.bl (kX v a b)) H)
structure Xc where
 yc:Ν
 np:Ν
 nr:Ν
 ne:Ν
 rm:Ν
 pl:Ν
 ln:Ν
 wd:Ν
 wy:Ν
 mv:Ν
 tx:Ν
def Rf(K:Ϣ)(x:Xc)(E:XK)(H:Hp):Prop:=∀cl dd H',PySem.W.exmOne K cl (.ref x.yc)=Α Δ->EU H H'->E cl dd H'
theorem Rf.same(h:Rf K x E H)(s:EU H H1):Rf K x E H1:=λa b c e d=>h a b c e (s.trans d)
structure tJ(K:Ϣ)(mg:Str->Option Ο)(yc:Ν)(n:Str)(C:Ν):Prop where
 m:mg n=Α (.ref C)
 x:cn K C Β=Δ
 k:Ϩ K (.ref C)=Δ
 e:PySem.W.exmOne K (.ref C) (.ref yc)=Α Δ
structure VA(K:Ϣ)(mg:Str->Option Ο)(yc:Ν)(n q fl:Str)(st:Ã)(C f:Ν)(d:ë):Prop where
 m:mg n=Α (.ref C)
 x:cn K C (Α (.ref f))=Δ
 k:Ϩ K (.ref C)=Δ
 e:PySem.W.exmOne K (.ref C) (.ref yc)=Α Δ
 c:iu K C
 a:ϯ K (.ref C) fl=Α Β
 i:isFn K (.ref f)=Δ
 F:F0 K "__init__" q st f d
 b:Binds K d ["self",fl] []
inductive AZ(K:Ϣ)(fld:Str)(vs:List V)(H:Hp)(Q:VK)(_:XK):Prop
 |mk (e C tt v)(_:vs=[.ref e,v])(_:H e=Α (cT e C tt Β))(_:iu K C)(_:ϯ K (.ref C) fld=Α Β)(_:∀d,H d=Β->Q .Fp (ο (ο H d (.xd [(fld,v)])) e (cT e C tt (Α d))))
noncomputable def oV:Option Nat->V
 |some n =>.int (n:Int)
 |none =>.Fp
theorem rJ(o:Option Nat):tH (oV o):=by
 cases o
 ·exact .Fp
 ·exact .int _
theorem pK(h:H1 e=Β)(a:ο H1 e o d=Β):
  EU H1 (AI (ο (ο (ο H1 e o) d x) e o') e)/\(ο (ο (ο H1 e o) d x) e o') e=Α o':=by
 have i:d≠e:=λz=>by rw[z,ET]at a;cases a
 have c:H1 d=Β:=by rw[af i]at a;exact a
 refine⟨λb u q=>?_,ET⟩
 have f:=ai q h
 have g:=ai q c
 rw[iL f,af f,af g,af f];exact q
noncomputable def zx(n:Int)(q:Option Nat×Option Nat):Bool:=match q with
 |(Α a,Α b)=>gQ n ((a:Int),(b:Int))
 |_=>Ε
inductive ql(vs:List V)(H:Hp)(Q:VK)(E:XK):Prop
 |mk (n:Int) (a b:Option Nat) (_:vs=[.int n,oV a,oV b]) (_:Q (.bl (zx n (a,b))) H)
theorem kY(F:F0 K "is_whole" "is_whole" n0 f fd)(T:Txt mg)(Z:wj K):EW P w K mg μ aL 1 f fd ["value"] gr:=by
 refine F.ok Bc λ_ _ _ s H _ Q E c h=>?_
 obtain⟨v,rfl,a,q⟩:=h
 refine⟨_,ah (az (gi (aF iN Λ T.O8 ä (aa (pv 0) (aa (jU (v:=.ty "int") Λ T.int PySem.Pv.boot_int Λ) ac)))
  (gh (yX (aF iN Λ T.O8 ä (aa (pv 0) (aa (jU (v:=.ty "bool") Λ T.bool PySem.Pv.boot_bool Λ) ac))))))),?_⟩
 cases a with
 |int i=>exact⟨.int i,_,"int",Δ,Λ,.int i,Z.ii,Δ,Λ,aI ⟨.int i,_,"bool",Ε,Λ,.int i,Z.ib,Ε,Λ,q⟩⟩
 |bl b=>exact⟨.bl b,_,"int",Δ,Λ,.bl b,Z.bi,Δ,Λ,aI ⟨.bl b,_,"bool",Δ,Λ,.bl b,Z.bb,Δ,Λ,q⟩⟩
 |Fp=>exact⟨.Fp,_,"int",Ε,Λ,.Fp,Z.ni,Ε,Λ,aH q⟩
theorem uD(F:F0 K "is_within" "is_within" qC f fd)(T:Txt mg)(Z:wj K)(g:mg "is_whole"=Α (.ref fh))(e:F0 K "is_whole" "is_whole" n0 fh Ks)(j:Binds K Ks ["value"] []):
  EW P w K mg μ aL 2 f fd ["value","least","most"] e9:=by
 have G:EW P w K mg μ aL 1 fh Ks ["value"] gr:=kY e T Z
 refine F.ok yp λ_ _ _ s H _ Q E l h=>?_
 obtain⟨v,a,b,rfl,m,q⟩:=h
 refine⟨_,ah (az (gi (au G l Λ g e.kp j .nil aw (aa (pv 0) ac)) (gh (za CC CC (pv 1) (pv 0) (pv 2))))),?_⟩
 cases m with
 |bl x=>exact⟨_,Λ,.bl x,Ε,Λ,aH q⟩
 |Fp=>exact⟨_,Λ,.Fp,Ε,Λ,aH q⟩
 | int i =>
  refine⟨_,Λ,.int i,Δ,Λ,aI ?_⟩
  refine⟨_,_,Λ,Λ,_,Λ,?_⟩
  have q:Q (V.bl (decide (a<=i/\i<=b))) H:=q
  by_cases c:a<=i
  ·rw[Ζ c]
   refine aI ⟨_,_,Λ,Λ,?_⟩
   by_cases d:i<=b
   ·rw[Ζ d];rw[Ζ ⟨c,d⟩]at q;exact q
   ·rw[Η d];rw[Η λz=>d z.2]at q;exact q
  ·rw[Η c]
   refine aH ?_
   rw[Η λz=>c z.1]at q;exact q
theorem B3(F:F0 K "are_two_places" "are_two_places" Dz f fd)(g:mg "is_within"=Α (.ref fh))(j:Ϩ K (.ref fh)=Δ)(l:Binds K Ks ["value","least","most"] [])
  (G:EW P w K mg μ aL 2 fh Ks ["value","least","most"] e9):
  EW P w K mg μ aL 3 f fd ["places","one","other"] ql:=by
 refine F.ok N4 λ_ _ _ s H _ Q E m h=>?_
 obtain⟨n,a,b,rfl,q⟩:=h
 refine⟨_,ad (aA (i:=3) N4.nd Λ (ό Λ) (ax fF (pv 0) ae))
  (ah (az (gi (au G m Λ g j l .nil aw (aa (pv 1) (aa ae (aa (pv 3) ac))))
   (gi (au G m Λ g j l .nil aw (aa (pv 2) (aa ae (aa (pv 3) ac)))) (gh (dq lB (pv 1) (pv 2) (aq _))))))),?_⟩
 refine⟨_,_,Λ,Λ,oV a,0,n - 1,Λ,rJ a,_,Λ,?_⟩
 cases a with
 |none=>exact aH q
 |some a =>
 show(if kX (.int (a:Int)) 0 (n - 1)=Δ then _ else _)
 cases c:kX (.int (a:Int)) 0 (n - 1) with
 | false =>
  refine aH ?_
  have e:zx n (Α a,b)=Ε:=by
   cases b with
   |none=>rfl
   | some b =>
    show gQ n ((a:Int),(b:Int))=Ε
    have c:decide ((0:Int)<=(a:Int)/\(a:Int)<=n - 1)=Ε:=c
    unfold gQ
    dsimp only
    rw[c];rfl
  rw[e]at q;exact q
 |true =>
 have c:decide ((0:Int)<=(a:Int)/\(a:Int)<=n - 1)=Δ:=c
 refine aI ⟨oV b,0,n - 1,Λ,rJ b,_,Λ,?_⟩
 cases b with
 |none=>exact aH q
 |some b =>
 have q:Q (.bl (gQ n ((a:Int),(b:Int)))) H:=q
 unfold gQ at q
 dsimp only at q
 rw[c,Ý]at q
 show(if kX (.int (b:Int)) 0 (n - 1)=Δ then _ else _)
 cases d:kX (.int (b:Int)) 0 (n - 1) with
 | false =>
  have d:decide ((0:Int)<=(b:Int)/\(b:Int)<=n - 1)=Ε:=d
  rw[d,ö]at q
  exact aH q
 | true =>
  have d:decide ((0:Int)<=(b:Int)/\(b:Int)<=n - 1)=Δ:=d
  rw[d,Ý]at q
  refine aI ⟨Λ,?_⟩
  have e:decide (V.int (a:Int)=V.int (b:Int))=decide ((a:Int)=(b:Int)):=by
   by_cases h:(a:Int)=(b:Int)
   ·rw[h];simp
   ·rw[Η h,Η λz=>h (by injection z)]
  show Q (V.bl (!decide (V.int (a:Int)=V.int (b:Int)))) H
  rw[e];exact q
theorem Y6:ap ["self","lane"] ["self","lane"] (ag RI):=L2.F4
theorem Y7:ap ["self","row"] ["self","row"] (ag RJ):=L2.F4
theorem RK(F:F0 K "__init__" "NoRoad.__init__" RI f fd):EW P w K mg μ aL 1 f fd ["self","lane"] (AZ K "lane"):=by
 refine F.ok Y6 λ_ _ _ s H _ Q E g h=>?_
 obtain⟨e,C,a,v,rfl,b,c,d,q⟩:=h
 exact⟨_,ah (vx (pv 0) (pv 1) Λ),e,C,a,Λ,b,c,d,q⟩
theorem RL(F:F0 K "__init__" "NoEntry.__init__" RJ f fd):EW P w K mg μ aL 1 f fd ["self","row"] (AZ K "row"):=by
 refine F.ok Y7 λ_ _ _ s H _ Q E g h=>?_
 obtain⟨e,C,a,v,rfl,b,c,d,q⟩:=h
 exact⟨_,ah (vx (pv 0) (pv 1) Λ),e,C,a,Λ,b,c,d,q⟩
structure Cs where
 land:Ν
def fX(H:Hp)(c:Cs)(x dx t:Ν)(n:Int)(Fo:List V)(ps:List (Int×Int)):Prop:=H x=Α (.ρ c.land dx [("places",.int n),("lanes",.ref t)])/\H t=Α (.tup Fo)/\F6 H Fo ps
noncomputable def xK(s:Ã):Scope:=match s with
 |.Assign _ (.Call _ [.ListComp _ _ sc _] _ _) _=>sc
 |_=>zQ0
noncomputable def nK(s:Ã):Scope:=match aJ s with
 |.Return (Α (.ListComp _ _ sc _)) _:: _=>sc
 |_=>zQ0
abbrev NI:List Str:=["self","places","lanes","lane","pair"]
structure tI(K:Ϣ)(c:Cs):Prop where
 cl:IK K c.land
 np:Ft K c.land "places"
 nl:Ft K c.land "lanes"
def Off(x:Ν)(H H':Hp):Prop:=∀b o,b≠x->H b=Α o->H' b=Α o
theorem Off.sq(o:Off x H H')(a:H x=Α (.ρ C dx fs))(h:EX K H p xs):EX K H' p xs:=by
 rcases h with (h|⟨ob,h⟩)|h
 ·exact .inl (.inl (o _ _ (bH h a (by intro z;cases z)) h))
 ·exact .inl (.inr ⟨ob,o _ _ (bH h a (by intro z;cases z)) h⟩)
 ·exact .inr h
theorem Off.L7(o:Off x H H')(c:H x=Α (.ρ C dx fs)):∀{a:List V}{b:List (Int×Int)},F6 H a b->F6 H' a b:=λd=>by
 induction d with
 |nil=>exact .nil
 |cons f r g=>obtain⟨t,e,q⟩:=f;exact .cons ⟨t,e,o _ _ (bH q c (by intro z;cases z)) q⟩ g
def OA(H:Hp)(v:V)(q:Option Nat×Option Nat):Prop:=∃t,v=.ref t/\H t=Α (.tup [oV q.1,oV q.2])
noncomputable def oP(p:Int×Int):Option Nat×Option Nat:=(Α p.1.toNat,Α p.2.toNat)
noncomputable def x8(q:Option Nat×Option Nat):Int×Int:=((q.1.getD 0:Nat),(q.2.getD 0:Nat))
theorem zw(h:zx n q=Δ):gQ n (x8 q)=Δ/\oP (x8 q)=q:=by
 obtain⟨a,b⟩:=q
 cases a with
 |none=>cases h
 | some a=>cases b with
  |none=>cases h
  |some b=>exact⟨h,Λ⟩
theorem nW(h:gQ n p=Δ):0<=p.1/\0<=p.2:=by
 unfold gQ at h
 simp only[ϫ,decide_eq_true_eq]at h
 exact⟨h.1.1,h.2.1.1⟩
theorem RN(h:gQ n p=Δ):zx n (oP p)=Δ:=by
 obtain⟨a,b⟩:=nW h
 show gQ n (((p.1.toNat:Nat):Int),((p.2.toNat:Nat):Int))=Δ
 rw[å a,å b];exact h
def RO(no:Option Nat)(qs:List (Option Nat×Option Nat)):Prop:=∃(n:Nat)(ps:List (Int×Int)),no=Α n/\1<=n/\n<=12/\qs=ps.map oP/\∀p∈ps,gQ n p=Δ
theorem OA.same(h:OA H v q)(s:EU H H'):OA H' v q:=let ⟨t,e,g⟩:=h;⟨t,e,s _ _ g⟩
theorem zN:∀{c:List V}{a:List (Int×Int)},F6 H c a->(∀p∈a,gQ n p=Δ)->Paired (OA H) c (a.map oP)
 |_,_,.nil,_ =>.nil
 | _,_,.cons (b:=p) ⟨t,e,g⟩ r,h =>.cons ⟨t,e,by
   obtain⟨d,f⟩:=nW (h p ϙ)
   show H t=Α (.tup [.int ((p.1.toNat:Nat):Int),.int ((p.2.toNat:Nat):Int)])
   rw[å d,å f];exact g⟩ (zN r λp i=>h p (ϊ _ i))
inductive ui(K:Ϣ)(c:Cs)(x:Xc)(vs:List V)(H:Hp)(Q:VK)(E:XK):Prop
 | mk (a dx:Ν) (no:Option Nat) (p:Ν) (Fx:List V) (qs:List (Option Nat×Option Nat)) (_:vs=[.ref a,oV no,.ref p]) (_:H a=Α (.ρ c.land dx [])) (_:EX K H p Fx) (_:Paired (OA H) Fx qs) (_:Fx.length<=40) (_:¬RO no qs->Rf K x E H)
  (_:∀(n:Nat)(ps:List (Int×Int)),no=Α n->1<=n->n<=12->qs=ps.map oP->(∀p∈ps,gQ n p=Δ)->∀H' t Fo,Off a H H'->fX H' c a dx t n Fo ps->Q .Fp H')
theorem Ka:ap NI ["self","places","lanes"] (ag rR):=L2.F4
theorem EF:FQ NI (ag rR) (xK ((aJ rR).getD 4 (.Pass ⟨0,0,0,0⟩))) [] []:=L2.GR
theorem En:(["pair"]:List Str).Nodup:=by decide +kernel
theorem BJ(F:F0 K "__init__" "Land.__init__" rR f fd)(T:Txt mg)(L:tI K c)(X1:tJ K mg x.yc "NoPlaces" x.np)(B:VA K mg x.yc "NoRoad" "NoRoad.__init__" "lane" RI x.nr f2 d2)
  (mw:mg "is_within"=Α (.ref fw)) (kw:Ϩ K (.ref fw)=Δ) (bw:Binds K dw ["value","least","most"] []) (Gw:EW P w K mg μ aL 2 fw dw ["value","least","most"] e9)
  (mt:mg "are_two_places"=Α (.ref ft)) (kt:Ϩ K (.ref ft)=Δ) (bt:Binds K dt ["places","one","other"] []) (Gt:EW P w K mg μ aL 3 ft dt ["places","one","other"] ql)
  (mp:mg "MOST_PLACES"=Α (.int 12 t1)) (ml:mg "MOST_LANES"=Α (.int 40 t2)):
  EW P w K mg μ (ix P w) 4 f fd ["self","places","lanes"] (ui K c x):=by
 have Gr:EW P w K mg μ aL 1 f2 d2 ["self","lane"] (AZ K "lane"):=RK B.F
 refine F.KD Ka (λ_ _ _ _ h=>?_) (λ_ _ _ s H _ Q E hr h=>?_)
 ·obtain⟨a,dx,no,p,A,l,rfl,_⟩:=h
  rfl
 ·obtain⟨a,dx,no,p,A,l,rfl,hx,Y,hl,hlen,hE,h4⟩:=h
  have G6:Fj 2 _:=hr.mono (by decide)
  refine⟨_,ad (aN (bV (b9 (au Gw G6 Λ mw kw bw .nil aw (aa (pv 1) (aa ae (aa (dj (v:=.int 12) Λ mp ⟨_,Λ⟩) ac))))))
    (ah (cu Λ X1.x Fg (dF X1.x X1.k Λ Λ X1.m (aa aD ac)))) aG)
   (ad (aN (ak jW (aF aC Λ T.len PySem.boot_len (aa (pv 2) ac)) (dj (v:=.int 40) Λ ml ⟨_,Λ⟩) (aq _))
    (ah fc) aG)
   (ad (cF lT Λ (nQ Λ T.enum (aa (pv 2) ac)) (jz Λ (bX (aE (i:=3) Ka.nd Λ (ό Λ)) (bX (aE (i:=4) Ka.nd Λ (ό Λ)) gZ)))
    (ah (aN (bV (b9 (au Gt hr Λ mt kt bt .nil aw (aa (pv 1) (aa (ay aK (pv 4) ae (λ_ _=>rfl)) (aa (ay aK (pv 4) ae (λ_ _=>rfl)) ac))))))
     (ah (cu Λ B.x Fg (qJ B.x B.i B.k Gr G6 B.b Λ B.m (aa (pv 3) ac)))) aG)))
   (ad (bE (pv 0) (pv 1) Λ)
   (ah (bE (pv 0) (aS dJ Λ T.tuple PySem.Pv.boot_tuple (aa (aV (own:=["pair"]) (capN:=[]) (cap:=[]) EF Λ (bu (pv 2))
    (λC s' H' fp=>⟨aE (i:=0) En Λ (ό Λ),bB,bF (aa (ay (show oS _ (nM K) from aK) (pv 0) ae (λ_ _=>rfl)) (aa (ay (show oS _ (nM K) from aK) (pv 0) ae (λ_ _=>rfl)) ac))⟩)) ac)) Λ))))),?_⟩
  have Hz:=Paired.length hl
  refine⟨oV no,1,12,Λ,rJ no,_,Λ,?_⟩
  cases X:kX (oV no) 1 12 with
  | false =>
   refine aI ⟨by show 1<=Τ;decide,hE (fun⟨n,J,e,h1,h2,_⟩=>?_) _ _ _ X1.e (EU.refl H)⟩
   subst e
   have X:=X
   exact of_decide_eq_false X ⟨by omega,by omega⟩
  |true =>
  cases no with
  |none=>cases X
  |some n =>
  have X:=X
  obtain⟨Y8,K4⟩:=of_decide_eq_true X
  refine aH ?_
  refine⟨p,_,Λ,.inl Y,_,_,Λ,Λ,_,Λ,?_⟩
  rw[Η (show ¬(40:Int)<(A.length:Nat) by omega)]
  refine aH ?_
  refine⟨p,Λ,⟨_,Y⟩,oG (sq:=λH=>EX K H p) (xs:=A) (λi σ O=>∃u v:Option V,EU H O/\σ=[Α (.ref a),Α (.int (n:Int)),Α (.ref p),u,v]/\∀q∈l.take i,zx n q=Δ)
   ⟨Β,Β,EU.refl H,Λ,λq M=>by simp at M⟩ (λi σ O _ Fc=>by obtain⟨u,v,Z,_⟩:=Fc;exact Z.seq Y) ?_ ?_⟩
  ·rintro i v q σ O hv ⟨u,u2,Z,rfl,GH⟩ M
   obtain⟨G,R,t,rfl,S⟩:=Paired.at hl hv
   have s3:EU H (ο O q (.tup [.int i,.ref t])):=Z.new M
   refine⟨q,_,Λ,Fn.of ET,Λ,_,_,Λ,_,_,Λ,Λ,?_⟩
   have Lr:Fn K (ο O q (.tup [.int i,.ref t])) t [oV G.1,oV G.2]:=Fn.of (s3 _ _ S)
   generalize ο O q (.tup [.int i,.ref t])=U at s3 Lr⊢
   refine⟨t,_,0,_,Λ,Λ,Lr,aj (j:=0) Λ,t,_,1,_,Λ,Λ,Lr,aj (j:=1) Λ,n,G.1,G.2,Λ,_,Λ,?_⟩
   cases ho:zx n (G.1,G.2) with
   | true =>
    refine aH ⟨Α (.int i),Α (.ref t),s3,Λ,λz I=>?_⟩
    rw[í,R]at I
    rcases ϝ.mp I with I|I
    ·exact GH z I
    ·have:z=G:=by simpa using I
     rw[this];exact ho
   | false =>
    refine aI ⟨by show 1<=Τ;decide,λe tt he=>⟨e,_,tt,_,Λ,ET,B.c,B.a,λd hd=>⟨Λ,?_⟩⟩⟩
    obtain⟨m1,m3⟩:=pK (o:=cT e x.nr tt Β) (o':=cT e x.nr tt (Α d)) (x:=.xd [("lane",.int (i:Nat))]) he hd
    refine⟨Α d,m3,hE (fun⟨n',J,e1,_,_,e2,h⟩=>?_) _ _ _ B.e (s3.trans m1)⟩
    cases e1
    rw[e2,Ç]at R
    cases I:J[i]? with
    |none=>rw[I]at R;cases R
    | some z =>
     rw[I]at R
     cases R
     have:=RN (h z (Ϫ I))
     rw[show zx (n:Int) (oP z)=zx n ((oP z).1,(oP z).2) from Λ,ho]at this
     cases this
  ·rintro σ O ⟨u,v,Z,rfl,GH⟩
   rw[Hz,Ó]at GH
   have eqs:l=(l.map x8).map oP:=by
    rw[Á]
    conv=>lhs;rw[←ŋ l]
    exact Æ λq M=>(zw (GH q M)).2.symm
   have Fi:∀p∈l.map x8,gQ n p=Δ:=λp Y=>by
    obtain⟨q,M,rfl⟩:=ϟ.mp Y
    exact(zw (GH q M)).1
   have Ie:F6 H A (l.map x8):=by
    have go:∀{vs:List V}{l:List (Option Nat×Option Nat)},Paired (OA H) vs l->(∀q∈l,zx n q=Δ)->F6 H vs (l.map x8):=λ{vs l} h=>by
     induction h with
     |nil=>intro _;exact .nil
     | @cons v q vs l z r ih =>
      intro hk
      refine .cons ?_ (ih λq M=>hk q (ϊ _ M))
      obtain⟨t,e,g⟩:=z
      refine⟨t,e,?_⟩
      have:=hk q ϙ
      obtain⟨a,b⟩:=q
      cases a with
      |none=>cases this
      | some a=>cases b with
       |none=>cases this
       |some b=>exact g
    exact go hl GH
   generalize l.map x8=J at eqs Fi Ie
   have Y9:=Paired.length Ie
   have Lb:=Z _ _ hx
   refine⟨a,c.land,dx,_,Λ,Lb,L.cl,L.np,by show 0<1000;decide,?_⟩
   generalize hH3:ο O a (.ρ c.land dx (aT "places" (.int (n:Int)) []))=U
   have o3:Off a H U:=λb o hb e=>by rw[←hH3,af hb];exact Z _ _ e
   have x3:U a=Α (.ρ c.land dx [("places",.int (n:Int))]):=by rw[←hH3,ET];rfl
   have l3:=o3.L7 hx Ie
   have p3:=o3.sq hx Y
   refine⟨p,Λ,⟨_,p3⟩,b8 A.length (by rw[Χ];omega) (λi acc N=>EU U N/\acc.length=i/\F6 N acc (J.take i)) ⟨EU.refl _,Λ,.nil⟩ (λi acc N h=>Yj h.2.1) ?_ ?_⟩
   ·rintro i acc N hi ⟨s4,ha,hA⟩
    have q4:=s4.seq p3
    refine⟨⟨A,A[i],q4,by simp[hi]⟩,λy H5 ⟨e5,hy⟩=>?_⟩
    subst e5
    have hy:=hy A q4
    obtain⟨G,R,t,rfl,S⟩:=F6.get l3 hy
    have Lr:Fn K H5 t [.int G.1,.int G.2]:=Fn.of (s4 _ _ S)
    refine⟨t,_,0,_,Λ,Λ,Lr,aj (j:=0) Λ,t,_,1,_,Λ,Λ,Lr,aj (j:=1) Λ,by show 2<=Τ;decide,λr LX=>?_⟩
    refine⟨s4.new LX,by rw[Ξ,ha];rfl,?_⟩
    rw[í,R]
    exact F6.snoc ⟨r,Λ,ET⟩ (F6.same (EU.new (EU.refl _) LX) hA)
   ·rintro acc N ⟨s4,ha,hA⟩
    have q4:=s4.seq p3
    refine⟨⟨A,q4,ϛ _⟩,λD hD=>?_⟩
    have s5:EU U (ο N D (.π acc)):=s4.new hD
    refine⟨D,acc,Λ,.inl ⟨EX.of ET,λt S=>?_⟩⟩
    have s6:EU U (ο (ο N D (.π acc)) t (.tup acc)):=s5.new S
    have x6:=s6 _ _ x3
    refine⟨a,c.land,dx,_,Λ,x6,L.cl,L.nl,by show 1<1000;decide,?_⟩
    have htx:t≠a:=λz=>by rw[z,s5 _ _ x3]at S;cases S
    refine h4 n J Λ (by omega) (by omega) eqs Fi _ t acc (λb o hb e=>?_) ⟨by rw[ET];rfl,by rw[af htx,ET],?_⟩
    ·rw[af hb];exact s6 _ _ (o3 b o hb e)
    ·have hA':F6 N acc J:=by rw[Y9,Ó]at hA;exact hA
     have hA6:F6 (ο (ο N D (.π acc)) t (.tup acc)) acc J:=F6.same (EU.new (EU.new (EU.refl _) hD) S) hA'
     exact Off.L7 (x:=a) (λb o hb e=>by rw[af hb];exact e) x6 hA6
noncomputable def oy(sel:Int×Int->Int)(ps:List (Int×Int))(pl:Int)(m:Nat):List V:=((Ϝ m).filter λk=>decide (sel (ps.getD k (0,0))=pl)).map λk:Nat=>V.int k
inductive wx(c:Cs)(sel:Int×Int->Int)(vs:List V)(H:Hp)(Q:VK)(E:XK):Prop
 |mk (x dx t:Ν) (n:Int) (Fo:List V) (ps:List (Int×Int)) (pl:Int) (_:vs=[.ref x,.int pl]) (_:fX H c x dx t n Fo ps) (_:ps.length<=1000) (_:∀H' D,EU H H'->H' D=Β->Q (.ref D) (ο H' D (.π (oy sel ps pl ps.length))))
theorem sG(h:ps[i]?=Α pr):oy sel ps pl (i+1)=if decide (sel pr=pl) then oy sel ps pl i++[V.int i] else oy sel ps pl i:=by
 have e:ps.getD i (0,0)=pr:=by rw[Ò,h];rfl
 unfold oy
 rw[Œ,Ú]
 by_cases a:sel pr=pl
 ·rw[Ι (Ζ a),O1 (by rw[e];exact Ζ a)];simp
 ·rw[Θ (by rw[Η a];decide),O2 (by rw[e,Η a];decide)];simp
theorem vF:(oy sel ps pl i).length<=i:=by
 unfold oy
 rw[Μ]
 have:=É (λk=>decide (sel (ps.getD k (0,0))=pl)) (Ϝ i)
 rwa [ĝ]at this
theorem RP:ap ["self","place"] ["self","place"] (ag yz):=L2.F4
theorem RQ:FQ ["self","place"] (ag yz) (nK yz) ["place"] [1]:=L2.GR
theorem Dy:ap ["self","place"] ["self","place"] (ag rQ):=L2.F4
theorem EE:FQ ["self","place"] (ag rQ) (nK rQ) ["place"] [1]:=L2.GR
theorem v9:(["lane","pair","place"]:List Str).Nodup:=by decide +kernel
theorem lp(a b:Int):decide (V.int a=V.int b)=decide (a=b):=by
 by_cases h:a=b
 ·rw[h];simp
 ·rw[Η h,Η λz=>h (by injection z)]
theorem Ea(F:F0 K "out_of" "Land.out_of" yz f fd)(T:Txt mg)(L:tI K c):EW P w K mg μ aL 1 f fd ["self","place"] (wx c Ø):=by
 refine F.ok RP λ_ _ _ s H _ Q E Z h=>?_
 obtain⟨x,G,t,n,b,e,m,rfl,⟨I,g,o⟩,p,q⟩:=h
 refine⟨_,ah (az (aV (own:=["lane","pair"]) (capN:=["place"]) (cap:=[1]) RQ Λ (rZ Λ T.enum (aa (ao (pv 0) Λ) ac))
  (λC s' H' fp=>⟨(show PG _ _ (E7 K 2 _) from jz Λ (bX (aE (i:=0) v9 Λ (ό Λ)) (bX (aE (i:=1) v9 Λ (ό Λ)) gZ))),
   cU (ak aQ (ay (show oS _ (nM K) from aK) (pv 1) ae (λ_ _=>rfl)) (pv 2) (aq _)),pv 0⟩))),?_⟩
 have z:=Paired.length o
 refine⟨x,c.land,G,_,_,Λ,I,L.cl,L.nl,Λ,t,Λ,⟨_,Fn.of g⟩,b8 e.length (by rw[Χ];omega) (λi acc a=>EU H a/\acc=oy Ø e m i) ⟨EU.refl _,Λ⟩ (λi acc a h=>by rw[h.2];exact vF) ?_ ?_⟩
 ·rintro i acc a J ⟨d,rfl⟩
  have A:Fn K a t b:=Fn.of (d _ _ g)
  refine⟨⟨b,b[i]'(by omega),A,by simp[z,J]⟩,λy H5 ⟨r,M,N,O⟩=>?_⟩
  obtain⟨v,R,rfl⟩:=O b A
  subst N
  obtain⟨S,U,u,rfl,X⟩:=F6.get o R
  have l:EU H (ο a r (.tup [.int i,.ref u])):=d.new M
  refine⟨r,_,Λ,Fn.of ET,Λ,_,_,Λ,_,_,Λ,Λ,u,_,0,_,Λ,Λ,Fn.of (l _ _ X),aj (j:=0) Λ,Λ,_,Λ,?_⟩
  rw[lp,sG U]
  cases B:decide (S.1=m) with
  |true=>exact aI ⟨l,by simp[B]⟩
  |false=>exact aH ⟨l,by simp[B]⟩
 ·rintro acc a ⟨d,rfl⟩
  exact⟨⟨b,Fn.of (d _ _ g),z⟩,λD Y=>q a D d Y⟩
theorem BI(F:F0 K "into" "Land.into" rQ f fd)(T:Txt mg)(L:tI K c):EW P w K mg μ aL 1 f fd ["self","place"] (wx c Í):=by
 refine F.ok Dy λ_ _ _ s H _ Q E Z h=>?_
 obtain⟨x,G,t,n,b,e,m,rfl,⟨I,g,o⟩,p,q⟩:=h
 refine⟨_,ah (az (aV (own:=["lane","pair"]) (capN:=["place"]) (cap:=[1]) EE Λ (rZ Λ T.enum (aa (ao (pv 0) Λ) ac))
  (λC s' H' fp=>⟨(show PG _ _ (E7 K 2 _) from jz Λ (bX (aE (i:=0) v9 Λ (ό Λ)) (bX (aE (i:=1) v9 Λ (ό Λ)) gZ))),
   cU (ak aQ (ay (show oS _ (nM K) from aK) (pv 1) ae (λ_ _=>rfl)) (pv 2) (aq _)),pv 0⟩))),?_⟩
 have z:=Paired.length o
 refine⟨x,c.land,G,_,_,Λ,I,L.cl,L.nl,Λ,t,Λ,⟨_,Fn.of g⟩,b8 e.length (by rw[Χ];omega) (λi acc a=>EU H a/\acc=oy Í e m i) ⟨EU.refl _,Λ⟩ (λi acc a h=>by rw[h.2];exact vF) ?_ ?_⟩
 ·rintro i acc a J ⟨d,rfl⟩
  have A:Fn K a t b:=Fn.of (d _ _ g)
  refine⟨⟨b,b[i]'(by omega),A,by simp[z,J]⟩,λy H5 ⟨r,M,N,O⟩=>?_⟩
  obtain⟨v,R,rfl⟩:=O b A
  subst N
  obtain⟨S,U,u,rfl,X⟩:=F6.get o R
  have l:EU H (ο a r (.tup [.int i,.ref u])):=d.new M
  refine⟨r,_,Λ,Fn.of ET,Λ,_,_,Λ,_,_,Λ,Λ,u,_,1,_,Λ,Λ,Fn.of (l _ _ X),aj (j:=1) Λ,Λ,_,Λ,?_⟩
  rw[lp,sG U]
  cases B:decide (S.2=m) with
  |true=>exact aI ⟨l,by simp[B]⟩
  |false=>exact aH ⟨l,by simp[B]⟩
 ·rintro acc a ⟨d,rfl⟩
  exact⟨⟨b,Fn.of (d _ _ g),z⟩,λD Y=>q a D d Y⟩
inductive C6(vs:List V)(H:Hp)(Q:VK)(E:XK):Prop
 |mk (m k:Nat) (_:vs=[.int m,.int k]) (_:Q (.bl (m.testBit k)) H)
noncomputable def lg(m:Nat):List V:=(Yd.Js m (Ü (m:Int))).map λk:Nat=>V.int k
inductive yd(vs:List V)(H:Hp)(Q:VK)(E:XK):Prop
 |mk (m:Nat) (_:vs=[.int m]) (_:m<2^400) (_:∀p,H p=Β->Q (.ref p) (ο H p (.π (lg m))))
inductive xY(K:Ϣ)(vs:List V)(H:Hp)(Q:VK)(E:XK):Prop
 |mk (a:Ν) (ks:List Nat) (_:vs=[.ref a]) (_:EX K H a (ks.map λk:Nat=>V.int k)) (_:(∀k∈ks,k<=1000)) (_:Q (.int (Yd.FU ks 0:Nat)) H)
theorem RS:ap ["some","number"] ["some","number"] (ag Bh):=L2.F4
theorem Ej(F:F0 K "has" "has" Bh f fd):EW P w K mg μ aL 1 f fd ["some","number"] C6:=by
 refine F.ok RS λ_ _ _ s H _ Q E a h=>?_
 obtain⟨m,k,rfl,q⟩:=h
 refine⟨_,ah (az (gi (dq CD (pv 1) ae (aq _)) (gh (dq aQ (ax zd (ax uB (pv 0) (pv 1)) ae) ae (aq _))))),_,_,Λ,Λ,_,Λ,?_⟩
 rw[Ζ (show (0:Int)<=(k:Int) by omega)]
 refine aI ?_
 refine⟨_,_,Λ,Λ,(show (0:Int)<=(k:Int) by omega),_,_,Λ,Λ,Λ,?_⟩
 have e:decide (V.int (Ă ((m:Int) / 2^(k:Int).toNat) 1)=V.int 1)=m.testBit k:=by
  rw[Ϙ,←Yd.M9 m k]
  by_cases h:Ă ((m:Int) / 2^k) 1=1
  ·rw[h];simp
  ·rw[Η h,Η λz=>h (by injection z)]
 rw[e]
 exact q
theorem zE{a:List Nat}{i:Nat}(h:(a.map λk:Nat=>V.int k)[i]?=Α x):∃k,a[i]?=Α k/\x=V.int k:=by
 rw[Ç]at h
 cases e:a[i]? with
 |none=>rw[e]at h;cases h
 |some k=>rw[e]at h;exact⟨k,Λ,(ϥ h).symm⟩
theorem Kt:ap ["numbers","some","number"] ["numbers"] (ag D4):=L2.F4
theorem DY(F:F0 K "set_of" "set_of" D4 f fd):EW P w K mg μ aL 1 f fd ["numbers"] (xY K):=by
 refine F.ok Kt λ_ _ _ s H _ Q E o h=>?_
 obtain⟨a,b,rfl,g,l,q⟩:=h
 refine⟨_,ad (aA (i:=1) Kt.nd Λ (ό Λ) ae)
  (ad (cF ç Λ (bu (pv 0)) (aE (i:=2) Kt.nd Λ (ό Λ))
   (ah (aA (i:=1) Kt.nd Λ (ό Λ) (ax QS (pv 1) (ax DT ae (pv 2))))))
  (ah (az (pv 1)))),?_⟩
 refine⟨a,Λ,⟨_,g⟩,kq (K:=K) (a:=a) (xs:=b.map λk:Nat=>V.int k) (λi c d=>∃v:Option V,d=H/\c=[Α (.ref a),Α (.int (Yd.FU (b.take i) 0:Nat)),v])
  ⟨Β,Λ,Λ⟩ (λi c d _ m=>by obtain⟨_,e,_⟩:=m;rw[e];exact g) ?_ ?_⟩
 ·rintro i x c d n ⟨v,rfl,rfl⟩
  obtain⟨k,j,rfl⟩:=zE n
  have p:=l k (Ϫ j)
  refine⟨_,_,Λ,Λ,⟨(show (0:Int)<=(k:Int) by omega),(show (k:Int)<=1000000 by omega),(by decide)⟩,_,_,Λ,Λ,Α (.int k),Λ,?_⟩
  have e:ek ((Yd.FU (b.take i) 0:Nat):Int) (1* 2^(k:Int).toNat)=((Yd.FU (b.take (i+1)) 0:Nat):Int):=by
   rw[í,j,Ϙ,Int.one_mul,show (2:Int)^k=((2^k:Nat):Int) by rw[Int.natCast_pow];rfl,Yd.K7,Yd.Ls]
   rfl
  show [Α (V.ref a),Α (V.int _),Α (V.int k)]=_
  rw[e]
 ·rintro c d ⟨v,rfl,rfl⟩
  rw[Μ,Ó]
  exact q
theorem RT:ap ["some"] ["some"] (ag y9):=L2.F4
theorem RU:(["number","some"]:List Str).Nodup:=by decide +kernel
theorem RV:FQ ["some"] (ag y9) (nK y9) ["some"] [0]:=L2.GR
theorem Ec(F:F0 K "members" "members" y9 f fd)(T:Txt mg)(b:mg "has"=Α (.ref fh))(a:F0 K "has" "has" Bh fh Ks)(c:Binds K Ks ["some","number"] []):EW P w K mg μ aL 2 f fd ["some"] yd:=by
 have G:EW P w K mg μ aL 1 fh Ks ["some","number"] C6:=Ej a
 refine F.ok RT λ_ _ _ s H _ Q E d h=>?_
 obtain⟨m,rfl,g,q⟩:=h
 refine⟨_,ah (az (aV (own:=["number"]) (capN:=["some"]) (cap:=[0]) RV Λ
  (b6 Λ T.range (aa (DP PySem.F.plainAttrs_int PySem.F.slot_int_bit_length PySem.F.type_int_bit_length BT (pv 0)) ac))
  (λC j l n=>⟨aE (i:=0) RU Λ (ό Λ),cU (b9 (au G d Λ b a.kp c .nil aw (aa (pv 1) (aa (pv 0) ac)))),pv 0⟩))),?_⟩
 have o:=Yd.bits_le g
 refine⟨Λ,_,Λ,Λ,(Ü (m:Int):Nat),Λ,by omega,by omega,?_⟩
 rw[Ϙ]
 refine oO (λk=>m.testBit k) (λk=>V.int k) (by rw[Χ];omega) (λi acc N p h=>?_) q
 refine⟨m,i,by simp,_,Λ,?_⟩
 cases e:m.testBit i with
 | true =>
  rw[e]at h
  refine aI (show N (acc++[V.int (0+i)]) H from ?_)
  simpa using h
 | false =>
  rw[e]at h
  exact aH (by simpa using h)
noncomputable def iz(ks:List Nat):List Int:=ks.map λk:Nat=>(k:Int)
theorem RW(a:List Nat):(iz a).map V.int=a.map λk:Nat=>V.int k:=by rw[iz,Á];rfl
theorem vE(h:ks.Pairwise (· < ·)):(iz ks).Pairwise (· < ·):=by
 unfold iz
 rw[List.pairwise_map]
 exact h.imp λz=>by omega
theorem GJ:k∈iz ks↔∃n∈ks,(n:Int)=k:=ϟ
theorem uK(b:ms.Pairwise (· < ·))(c:∀k,k∈ms↔k∈iz ks):iz (Yd.Js (Yd.FU ks 0) (Ü ((Yd.FU ks 0:Nat):Int)))=ms:=by
 refine Yd.Jt (vE (Yd.IP _ _)) b λk=>?_
 rw[c k,GJ,GJ]
 constructor
 ·rintro⟨n,a,e⟩
  rw[Yd.Il (Yd.IW _),Yd.Gz]at a
  exact⟨n,by simpa using a,e⟩
 ·rintro⟨n,a,e⟩
  refine⟨n,?_,e⟩
  rw[Yd.Il (Yd.IW _),Yd.Gz]
  simpa using a
theorem Dq(h:∀k∈ks,k<b):Yd.FU ks 0<2^b:=by
 rw[←Yd.M8 h]
 exact Yd.IV ks b
theorem wn:(Yd.FU ks 0).testBit k=decide ((k:Int)∈iz ks):=by
 rw[Yd.Gz,Nat.zero_testBit,Oq]
 congr 1
 refine propext ⟨λh=>GJ.mpr ⟨k,h,Λ⟩,λh=>?_⟩
 obtain⟨n,a,e⟩:=GJ.mp h
 have:n=k:=by omega
 rw[←this]
 exact a
structure Rw where
 p:Int
 g:Int
 c:Option Nat
 s:List Nat
noncomputable def aR(r:Rw):cx:=[Α r.p,Α r.g,r.c.map λk:Nat=>(k:Int)]
noncomputable def gK(sel:Int×Int->Int)(ps:List (Int×Int))(pl:Int):List Nat:=(Ϝ ps.length).filter λk=>decide (sel (ps.getD k (0,0))=pl)
noncomputable def j5(n:Int)(ps:List (Int×Int))(r:Rw):Bool:=
 gQ n (r.p,r.g)&& ((match r.c with|none=>Δ|some k=>decide (k∈gK Í ps r.p))&& r.s.all λk=>decide (k∈gK Ø ps r.p))
noncomputable def sj(sel:Int×Int->Int)(ps:List (Int×Int))(pl:Int)(k:Nat):Bool:=decide (ps.length<=k)|| !decide (sel (ps.getD k (0,0))=pl)
noncomputable def xx(n:Int)(ps:List (Int×Int))(ahead:List Rw)(r:Rw):Bool:=
 !gQ n (r.p,r.g)||((match r.c with|none=>Ε|some k=>sj Í ps r.p k)||((r.s.any λk=>sj Ø ps r.p k)||ahead.any λa=>decide (aR a=aR r)))
theorem vH:decide (k∈gK sel ps pl)= !sj sel ps pl k:=by
 unfold gK sj
 by_cases b:ps.length<=k
 ·rw[Ζ b,Η]
  ·rfl
  ·intro z
   have:=î.mp (Ì.mp z).1
   omega
 ·rw[Η b]
  by_cases a:sel (ps.getD k (0,0))=pl
  ·rw[Ζ a,Ζ]
   ·rfl
   ·exact Ì.mpr ⟨î.mpr (by omega),Ζ a⟩
  ·rw[Η a,Η]
   ·rfl
   ·intro z
    exact a (of_decide_eq_true (Ì.mp z).2)
theorem Cn{l:List Nat}:(l.all λk=>!f k)= !(l.any f):=by
 induction l with
 |nil=>rfl
 |cons a l b=>rw[rg,q7,b,Bool.not_or]
theorem iO(n:Int)(d:List (Int×Int))(b:List Rw)(r:Rw):xx n d b r=(!j5 n d r||b.any λa=>decide (aR a=aR r)):=by
 unfold xx j5
 have e:(r.s.all λk=>decide (k∈gK Ø d r.p))= !(r.s.any λk=>sj Ø d r.p k):=by
  rw[←Cn]
  congr 1
  funext k
  exact vH
 rw[e]
 cases f:r.c with
 | none =>
  dsimp only
  cases gQ n (r.p,r.g)<;>cases (r.s.any λk=>sj Ø d r.p k)<;>cases (b.any λa=>decide (aR a=aR r))<;>rfl
 | some k =>
  dsimp only
  rw[vH]
  cases gQ n (r.p,r.g)<;>cases (sj Í d r.p k)<;>cases (r.s.any λk=>sj Ø d r.p k)<;>cases (b.any λa=>decide (aR a=aR r))<;>rfl
noncomputable def dW(n:Int)(ps:List (Int×Int))(rs:List Rw)(m:Nat):Option Nat:=(Ϝ m).find? λk=>xx n ps (rs.take k) (rs.getD k ⟨0,0,Β,[]⟩)
theorem jr:∀{m:Nat},(∀k,k<m->xx n ps (rs.take k) (rs.getD k ⟨0,0,Β,[]⟩)=Ε)->dW n ps rs m=Β:=by
 intro m h
 unfold dW
 rw[Uy]
 intro k a
 rw[h k (î.mp a)]
 decide
noncomputable def dG(rs:List Rw)(k:cx):Option Rw:=rs.reverse.find? λr=>decide (aR r=k)
theorem uS:dG (rs++[r]) k=if k=aR r then Α r else dG rs k:=by
 unfold dG
 rw[List.reverse_append,List.reverse_singleton,List.singleton_append,Ķ]
 by_cases h:aR r=k
 ·rw[Ζ h,Ι h.symm]
 ·rw[Η h,Θ (ϧ h)]
theorem ki:(dG rs k).isSome=rs.any λr=>decide (aR r=k):=by
 unfold dG
 rw[Ŏ,List.find?_isSome,Oh]
 exact⟨λa=>by obtain⟨x,b,h⟩:=a;exact⟨x,Yv.mp b,h⟩,λa=>by obtain⟨x,b,h⟩:=a;exact⟨x,Yv.mpr b,h⟩⟩
noncomputable def cV:Option Nat->V
 |none =>.Fp
 |some k =>.int k
noncomputable def ji(ks:List Nat):List V:=ks.map λk:Nat=>V.int k
def RY(H:Hp)(t l:Ν)(r:Rw):Prop:=H t=Α (.tup [.int r.p,.int r.g,cV r.c,.ref l])/\H l=Α (.π (ji r.s))
def Qh(H:Hp)(v:V)(r:Rw):Prop:=∃t l,v=.ref t/\RY H t l r
abbrev Mc(H:Hp):List V->List Rw->Prop:=Paired (Qh H)
theorem RY.same(h:EU H H')(x:RY H t l r):RY H' t l r:=⟨h _ _ x.1,h _ _ x.2⟩
theorem Qh.same(h:EU H H'):Qh H v r->Qh H' v r:=λa=>by obtain⟨t,l,e,x⟩:=a;exact⟨t,l,e,x.same h⟩
theorem Mc.imp(h:∀v r,Qh H v r->Qh H' v r):∀{a:List V}{b:List Rw},Mc H a b->Mc H' a b:=λc=>by
 induction c with
 |nil=>exact .nil
 |cons x r d=>exact .cons (h _ _ x) d
theorem Mc.same(h:EU H H')(x:Mc H vs rs):Mc H' vs rs:=Mc.imp (λ_ _ z=>z.same h) x
theorem vC(r:Rw):(aR r).map AH=[.int r.p,.int r.g,cV r.c]:=by
 cases r with
 |mk p g c s=>cases c<;>rfl
theorem zX:oy sel ps pl ps.length=(iz (gK sel ps pl)).map V.int:=by rw[RW];rfl
theorem zW{k:Nat}:decide ((k:Int)∈iz l)=decide (k∈l):=by
 congr 1
 refine propext ⟨λh=>?_,λh=>GJ.mpr ⟨k,h,Λ⟩⟩
 obtain⟨n,a,e⟩:=GJ.mp h
 have:n=k:=by omega
 rw[←this]
 exact a
structure Ro where
 p:Option Nat
 g:Option Nat
 c:Option Nat
 s:List (Option Nat)
def OB(H:Hp)(t l:Ν)(r:Ro):Prop:=H t=Α (.tup [oV r.p,oV r.g,oV r.c,.ref l])/\H l=Α (.π (r.s.map oV))
def N5(H:Hp)(v:V)(r:Ro):Prop:=∃t l,v=.ref t/\OB H t l r
theorem OB.same(h:EU H H')(x:OB H t l r):OB H' t l r:=⟨h _ _ x.1,h _ _ x.2⟩
theorem N5.same(h:EU H H'):N5 H v r->N5 H' v r:=λa=>by obtain⟨t,l,e,x⟩:=a;exact⟨t,l,e,x.same h⟩
noncomputable def oX(r:Rw):Ro:=⟨Α r.p.toNat,Α r.g.toNat,r.c,r.s.map Α⟩
noncomputable def ze(o:Option Nat)(ls:List Nat):Bool:=match o with
 |some k=>decide (k∈ls)
 |none=>Ε
noncomputable def ku(n:Int)(ps:List (Int×Int))(r:Ro):Bool:=zx n (r.p,r.g)&& ((match r.c with|none=>Δ|some k=>decide (k∈gK Í ps ((r.p.getD 0:Nat):Int)))&& r.s.all λo=>ze o (gK Ø ps ((r.p.getD 0:Nat):Int)))
theorem RZ(c:Option Nat):cV c=oV c:=by cases c<;>rfl
theorem sI(a:0<=r.p)(b:0<=r.g):ku n ps (oX r)=j5 n ps r:=by
 obtain⟨p,g,c,s⟩:=r
 obtain⟨p,rfl⟩:=Ï a
 obtain⟨g,rfl⟩:=Ï b
 clear a b
 cases c<;>(unfold ku j5 oX;dsimp only;rw[W3];rfl)
theorem Af(h:ku n ps r=Δ):∃z:Rw,r=oX z/\0<=z.p/\0<=z.g/\j5 n ps z=Δ:=by
 have d:=h
 unfold ku at h
 simp only[ϫ]at h
 obtain⟨a,i,e⟩:=h
 obtain⟨p,g,c,s⟩:=r
 cases p with
 |none=>cases a
 | some p=>cases g with
  |none=>cases a
  | some g =>
   have b:s=(s.map (·.getD 0)).map Α:=by
    rw[Á]
    conv=>lhs;rw[←ŋ s]
    refine Æ λo f=>?_
    have:=Ā.mp e o f
    cases o with
    |none=>cases this
    |some k=>rfl
   refine⟨⟨p,g,c,s.map (·.getD 0)⟩,?_,ĸ _,ĸ _,?_⟩
   ·unfold oX
    dsimp only
    rw[←b];rfl
   ·rw[←sI (ĸ _) (ĸ _)]
    unfold oX
    dsimp only
    rw[←b]
    exact d
inductive ub(K:Ϣ)(vs:List V)(H:Hp)(Q:VK)(E:XK):Prop
 |mk (o:Option Nat) (p:Ν) (ls:List Nat) (_:vs=[oV o,.ref p]) (_:EX K H p ((iz ls).map V.int)) (_:Q (.bl (ze o ls)) H)
inductive qx(c:Cs)(vs:List V)(H:Hp)(Q:VK)(E:XK):Prop
 |mk (x dx lt t l:Ν) (n:Int) (Fo:List V) (ps:List (Int×Int)) (r:Ro) (_:vs=[.ref x,.ref t]) (_:fX H c x dx lt n Fo ps) (_:OB H t l r) (_:ps.length<=1000) (_:r.s.length<=1000) (_:∀H',EU H H'->Q (.bl (ku n ps r)) H')
structure Sa(K:Ϣ)(c:Cs)(f3 f4:Ν)(d3 d4:ë):Prop where
 m3:ck K c.land "out_of" f3
 m4:ck K c.land "into" f4
 b3:Binds K d3 ["self","place"] []
 b4:Binds K d4 ["self","place"] []
abbrev NF:List Str:=["land","row","place","came","begin_here"]
noncomputable def AC(s:Ã):Scope:=match s with
 |.Return (Α (.Call _ [.ListComp _ _ sc _] _ _)) _=>sc
 |_=>zQ0
theorem Sb:ap ["value","numbers"] ["value","numbers"] (ag D6):=L2.F4
theorem BB(F:F0 K "is_one_of" "is_one_of" D6 f fd)(T:Txt mg)(Z:wj K)(b:mg "is_whole"=Α (.ref fh))(a:F0 K "is_whole" "is_whole" n0 fh Ks)(c:Binds K Ks ["value"] []):
  EW P w K mg μ aL 2 f fd ["value","numbers"] (ub K):=by
 have G:EW P w K mg μ aL 1 fh Ks ["value"] gr:=kY a T Z
 refine F.ok Sb λ_ _ _ s H _ Q E d h=>?_
 obtain⟨o,p,e,rfl,g,q⟩:=h
 refine⟨_,ah (az (gi (au G d Λ b a.kp c .nil aw (aa (pv 0) ac)) (gh (dq pC (pv 0) (pv 1) (by with_unfolding_all rfl))))),oV o,Λ,rJ o,_,Λ,?_⟩
 cases o with
 |none=>exact aH q
 | some i =>
  refine aI ⟨p,_,Λ,.inl g,Λ,lu _,?_⟩
  show Q (V.bl (Ca (V.int (i:Int)) ((iz e).map V.int))) H
  rw[qT,zW]
  exact q
theorem IX:ap NF ["land","row"] (ag rS):=L2.F4
theorem EG:FQ NF (ag rS) (AC ((aJ rS).getD 5 (.Pass ⟨0,0,0,0⟩))) ["begin_here"] [4]:=L2.GR
theorem Eo:(["lane","begin_here"]:List Str).Nodup:=by decide +kernel
theorem zq(F:F0 K "row_fits" "row_fits" rS f fd)(T:Txt mg)(L:tI K c)(M:Sa K c f3 f4 d3 d4)
  (mt:mg "are_two_places"=Α (.ref ft)) (kt:Ϩ K (.ref ft)=Δ) (bt:Binds K dt ["places","one","other"] []) (Gt:EW P w K mg μ aL 3 ft dt ["places","one","other"] ql)
  (X:mg "is_one_of"=Α (.ref fo)) (Y:Ϩ K (.ref fo)=Δ) (Z:Binds K d1 ["value","numbers"] []) (Go:EW P w K mg μ aL 2 fo d1 ["value","numbers"] (ub K))
  (G3:EW P w K mg μ aL 1 f3 d3 ["self","place"] (wx c Ø)) (G4:EW P w K mg μ aL 1 f4 d4 ["self","place"] (wx c Í)):
  EW P w K mg μ aL 4 f fd ["land","row"] (qx c):=by
 refine F.ok IX λ_ _ _ s H _ Q E O h=>?_
 obtain⟨x,A,lt,t,l,n,Fo,a,r,rfl,m,hR,d,Qe,q⟩:=h
 have FI:Fj 1 _:=O.mono (by decide)
 have G6:Fj 2 _:=O.mono (by decide)
 refine⟨_,ad (aA (i:=2) IX.nd Λ (ό Λ) (ay aK (pv 1) ae (λ_ _=>rfl)))
  (ad (aA (i:=3) IX.nd Λ (ό Λ) (ay aK (pv 1) ae (λ_ _=>rfl)))
  (ad (aN (bV (b9 (au Gt O Λ mt kt bt .nil aw (aa (ao (pv 0) Λ) (aa (pv 2) (aa (ay aK (pv 1) ae (λ_ _=>rfl)) ac)))))) (ah (az iD)) aG)
  (ad (aN (gc (PW.pt (fR (ak By (pv 3) bA (aq _)) (dR (bV (b9 (au Go G6 Λ X Y Z .nil aw (aa (pv 3) (aa (aM (pv 0) L.cl M.m4 G4 FI M.b4 .nil aw (aa (pv 2) ac)) ac))))))))) (ah (az iD)) aG)
  (ad (aA (i:=4) IX.nd Λ (Ř Λ) (aM (pv 0) L.cl M.m3 G3 FI M.b3 .nil aw (aa (pv 2) ac)))
  (ah (az (aF (kB Λ) Λ T.all Ļ (aa (aV (own:=["lane"]) (capN:=["begin_here"]) (cap:=[4]) EG Λ (bu (ay aK (pv 1) ae (λ_ _=>rfl)))
   (λC s' e fp=>⟨aE (i:=0) Eo Λ (ό Λ),bB,au Go G6 Λ X Y Z .nil aw (aa (pv 0) (aa (pv 1) ac))⟩)) ac)))))))),?_⟩
 obtain⟨R,G⟩:=hR
 have I:Fn K H t [oV r.p,oV r.g,oV r.c,.ref l]:=Fn.of R
 refine⟨t,_,0,_,Λ,Λ,I,aj (j:=0) Λ,t,_,2,_,Λ,Λ,I,aj (j:=2) Λ,x,c.land,A,_,_,Λ,m.1,L.cl,L.np,Λ,t,_,1,_,Λ,Λ,I,aj (j:=1) Λ,n,r.p,r.g,Λ,_,Λ,?_⟩
 unfold ku at q
 cases J:zx n (r.p,r.g) with
 | false =>
  rw[J,ö]at q
  exact aI (q H (EU.refl H))
 |true =>
 rw[J,Ý]at q
 refine aH ?_
 obtain⟨p,S⟩:∃p,r.p=Α p:=by
  cases S:r.p with
  |none=>rw[S]at J;cases J
  |some p=>exact⟨p,Λ⟩
 rw[S]at I R q⊢
 dsimp only [Option.getD_some]at q
 refine⟨λb e=>EU H e/\b= !(match r.c with|none=>Δ|some k=>decide (k∈gK Í a (p:Int))),?_,?_⟩
 ·cases hc:r.c with
  |none=>exact⟨Λ,_,Λ,aH ⟨EU.refl H,Λ⟩⟩
  | some k =>
   refine⟨Λ,_,Λ,aI ?_⟩
   refine⟨x,A,_,Λ,m.1,Λ,x,A,lt,n,Fo,a,(p:Int),Λ,m,d,λe D s' U=>?_⟩
   refine⟨Α k,D,gK Í a p,Λ,by rw[←zX];exact EX.of ET,_,Λ,s'.new U,Λ⟩
 rintro b H1 ⟨z,rfl⟩
 cases B:(match r.c with|none=>Δ|some k=>decide (k∈gK Í a (p:Int))) with
 | false =>
  rw[B,ö]at q
  exact aI (q H1 z)
 |true =>
 rw[B,Ý]at q
 refine aH ?_
 refine⟨x,A,_,Λ,z _ _ m.1,Λ,x,A,lt,n,Fo,a,(p:Int),Λ,⟨z _ _ m.1,z _ _ m.2.1,F6.same z m.2.2⟩,d,λH2 N s2 Hd=>?_⟩
 have u:=(z.trans s2).new (o:=.π (oy Ø a p a.length)) Hd
 have g2:(ο H2 N (.π (oy Ø a p a.length))) N=Α (.π (oy Ø a p a.length)):=ET
 generalize ο H2 N (.π (oy Ø a p a.length))=H3 at u g2⊢
 refine⟨t,_,3,_,Λ,Λ,Fn.of (u _ _ R),aj (j:=3) Λ,l,Λ,⟨_,EX.of (u _ _ G)⟩,?_⟩
 refine b8 r.s.length (by rw[Χ];omega) (λi acc e=>e=H3/\acc=((r.s.take i).map λo=>ze o (gK Ø a p)).map V.bl) ⟨Λ,Λ⟩ (λi acc e h=>by rw[h.2,Μ,Μ];exact æ _ _) (λi acc e hi h=>?_) (λacc e h=>?_)
 ·obtain⟨rfl,rfl⟩:=h
  have hx:(r.s.map oV)[i]?=Α (oV r.s[i]):=by rw[Ç,Ψ hi];rfl
  refine⟨⟨_,_,EX.of (u _ _ G),hx⟩,λv H5 y=>?_⟩
  obtain⟨rfl,y⟩:=y
  have hv:=y _ (EX.of (u _ _ G))
  rw[hx]at hv
  cases hv
  refine⟨r.s[i],N,gK Ø a p,Λ,by rw[←zX];exact EX.of g2,Λ,?_⟩
  rw[í,Ψ hi,ϗ,ϗ]
  rfl
 obtain⟨rfl,rfl⟩:=h
 rw[Ó]
 refine⟨⟨_,EX.of (u _ _ G),by rw[Μ];exact ϛ _⟩,λD U=>?_⟩
 refine⟨D,r.s.map λo=>ze o (gK Ø a p),Λ,EX.of ET,?_⟩
 have:=q _ (u.new (o:=.π ((r.s.map λo=>ze o (gK Ø a p)).map V.bl)) U)
 rw[W3]
 exact this
structure Ts where
 tab:Ν
 told:Ν
inductive xV(K:Ϣ)(vs:List V)(H:Hp)(Q:VK)(E:XK):Prop
 |mk (x C dx:Ν) (lv:V) (_:vs=[.ref x,lv]) (_:H x=Α (.ρ C dx [])) (_:IK K C) (_:Ft K C "land") (_:Q .Fp (ο H x (.ρ C dx [("land",lv)])))
noncomputable def yo(r:Rw):V:=.int (Yd.FU r.s 0:Nat)
inductive vj(P:Program)(w:À)(ts:Ts)(vs:List V)(H:Hp)(Q:VK)(E:XK):Prop
 |mk (x dx de:Ν) (lv:V) (EZ:List kE) (r:Rw) (m:Nat) (_:vs=[.ref x,.int r.p,.int r.g,cV r.c]) (_:H x=Α (.ρ ts.told dx [("land",lv),("entries",.ref de)])) (_:FY P w H de EZ) (_:(fO EZ (aR r)).getD (.int 0)=.int m) (_:m<2^400) (_:∀H' D,EU H H'->H' D=Β->Q (.ref D) (ο H' D (.π (lg m))))
noncomputable def jg(r:Ro):Rw:=⟨((r.p.getD 0:Nat):Int),((r.g.getD 0:Nat):Int),r.c,r.s.map (·.getD 0)⟩
theorem rD(a:0<=z.p)(b:0<=z.g):jg (oX z)=z:=by
 obtain⟨p,g,c,s⟩:=z
 obtain⟨p,rfl⟩:=Ï a
 obtain⟨g,rfl⟩:=Ï b
 unfold jg oX
 dsimp only
 rw[Á,show((λo:Option Nat=>o.getD 0) ∘ Α)=id from Λ,ŋ]
 rfl
theorem Sd(h:ku n ps r=Δ):oX (jg r)=r/\j5 n ps (jg r)=Δ:=by
 obtain⟨z,rfl,a,b,c⟩:=Af h
 rw[rD a b]
 exact⟨Λ,c⟩
def Ku(n:Int)(ps:List (Int×Int))(Im:List Ro):Prop:=∃rs:List Rw,Im=rs.map oX/\(∀r∈rs,0<=r.p/\0<=r.g)/\dW n ps rs rs.length=Β
theorem Ku.un(h:Ku n ps Im):(∀r∈Im,ku n ps r=j5 n ps (jg r))/\dW n ps (Im.map jg) (Im.map jg).length=Β:=by
 obtain⟨c,rfl,b,d⟩:=h
 refine⟨λr e=>?_,?_⟩
 ·obtain⟨z,a,rfl⟩:=ϟ.mp e
  rw[rD (b z a).1 (b z a).2,sI (b z a).1 (b z a).2]
 ·rw[Á,show c.map (jg ∘ oX)=c by
   conv=>rhs;rw[←ŋ c]
   exact Æ λz a=>rD (b z a).1 (b z a).2]
  exact d
theorem iK(h:dW n ps rs rs.length=Β)(a:i<rs.length):xx n ps (rs.take i) (rs.getD i ⟨0,0,Β,[]⟩)=Ε:=by
 have:=Uy.mp h i (î.mpr a)
 simpa using this
def RfO(K:Ϣ)(x:Xc)(E:XK)(H:Hp)(a:Ν):Prop:=∀cl dd H',PySem.W.exmOne K cl (.ref x.yc)=Α Δ->Off a H H'->E cl dd H'
inductive tX(P:Program)(w:À)(K:Ϣ)(c:Cs)(ts:Ts)(x:Xc)(vs:List V)(H:Hp)(Q:VK)(E:XK):Prop
 | mk (a dx lx F1 lt p:Ν) (n:Int) (Fo Fl:List V) (ps:List (Int×Int)) (Im:List Ro) (_:vs=[.ref a,.ref lx,.ref p]) (_:H a=Α (.ρ ts.told dx [])) (_:fX H c lx F1 lt n Fo ps) (_:EX K H p Fl) (_:Paired (N5 H) Fl Im) (_:Fl.length<=100000) (_:ps.length<=1000) (_:∀r∈Im,r.s.length<=1000) (_:¬Ku n ps Im->RfO K x E H a)
  (_:∀rs:List Rw,Im=rs.map oX->(∀r∈rs,0<=r.p/\0<=r.g)->dW n ps rs rs.length=Β->∀H' de EZ,Off a H H'->H' a=Α (.ρ ts.told dx [("land",.ref lx),("entries",.ref de)])->FY P w H' de EZ->(∀k,fO EZ k=(dG rs k).map yo)->Q .Fp H')
structure YB(K:Ϣ)(mg:Str->Option Ο)(ts:Ts)(f1:Ν)(d1:ë):Prop where
 ct:IK K ts.tab
 nt:Ft K ts.tab "land"
 cd:IK K ts.told
 nd1:Ft K ts.told "land"
 VC:Ft K ts.told "entries"
 mt:mg "Table"=Α (.ref ts.tab)
 cm:CQ K ts.tab "__init__" f1
 bt:Binds K d1 ["self","land"] []
abbrev NT:List Str:=["self","land","rows","number","row","key"]
theorem Off.land(o:Off x H H')(a:H x=Α (.ρ C dx []))(h:fX H c lx F1 lt n Fo ps):fX H' c lx F1 lt n Fo ps:=
 ⟨o _ _ (bH h.1 a (by intro z;cases z)) h.1,o _ _ (bH h.2.1 a (by intro z;cases z)) h.2.1,o.L7 a h.2.2⟩
theorem xn(h:j5 n ps r=Δ):∀k∈r.s,k<ps.length:=by
 unfold j5 at h
 simp only[ϫ,Ā,decide_eq_true_eq]at h
 intro k a
 exact î.mp (Ì.mp (h.2.2 k a)).1
theorem Se:ap ["self","land"] ["self","land"] (ag D3):=L2.F4
theorem DX(F:F0 K "__init__" "Table.__init__" D3 f fd):EW P w K mg μ aL 1 f fd ["self","land"] (xV K):=by
 refine F.ok Se λ_ _ _ s H _ Q E e h=>?_
 obtain⟨x,C,a,g,rfl,b,c,d,q⟩:=h
 exact⟨_,ah (bE (pv 0) (pv 1) Λ),x,C,a,_,Λ,b,c,d,by show 0<1000;decide,q⟩
theorem Bd:ap ["self","place","goal","came"] ["self","place","goal","came"] (ag ur):=L2.F4
theorem zh(F:F0 K "ways" "Told.ways" ur f fd)(B:YB K mg ts f1 d1)(i:mg "members"=Α (.ref fm))(j:Ϩ K (.ref fm)=Δ)(l:Binds K dm ["some"] [])
  (n:EW P w K mg μ aL 2 fm dm ["some"] yd):EW P w K mg μ aL 3 f fd ["self","place","goal","came"] (vj P w ts):=by
 refine F.ok Bd λ_ _ _ s H _ Q E b h=>?_
 obtain⟨x,o,u,I,a,r,m,rfl,v,d,y,z,q⟩:=h
 have A:=CJ b
 refine⟨_,ah (az (au n b Λ i j l .nil aw (aa (yV A (ao (pv 0) Λ) (aa (bF (aa (pv 1) (aa (pv 2) (aa (pv 3) ac)))) (aa ae ac))) ac))),x,ts.told,o,_,_,Λ,v,B.cd,B.VC,Λ,u,a,Λ,d,by show 3<=Τ;decide,λt C=>?_⟩
 have e:EU H (ο H t (.tup [.int r.p,.int r.g,cV r.c])):=(EU.refl H).new C
 refine⟨_,_,fO a (aR r),Λ,⟨a,aR r,t,d.same e,Λ,by rw[vC];exact ET,Λ⟩,?_⟩
 rw[y]
 exact⟨m,Λ,z,λD G=>q _ D e G⟩
theorem IY:ap NT ["self","land","rows"] (ag yr):=L2.F4
theorem B4(F:F0 K "__init__" "Told.__init__" yr f fd)(T:Txt mg)(B:YB K mg ts f1 d1)(G:VA K mg x.yc "NoEntry" "NoEntry.__init__" "row" RJ x.ne f2 d2)(G1:EW P w K mg μ aL 1 f1 d1 ["self","land"] (xV K))
  (mf:mg "row_fits"=Α (.ref ff)) (kf:Ϩ K (.ref ff)=Δ) (bf:Binds K df ["land","row"] []) (Gf:EW P w K mg μ aL 4 ff df ["land","row"] (qx c))
  (ms:mg "set_of"=Α (.ref fs)) (ks:Ϩ K (.ref fs)=Δ) (bs:Binds K ds ["numbers"] []) (Gs:EW P w K mg μ aL 1 fs ds ["numbers"] (xY K)):
  EW P w K mg μ (ix P w) 5 f fd ["self","land","rows"] (tX P w K c ts x):=by
 have Gn:EW P w K mg μ aL 1 f2 d2 ["self","row"] (AZ K "row"):=RL G.F
 refine F.KD IY (λ_ _ _ _ h=>?_) (λ_ _ _ s H _ Q E Y h=>?_)
 ·obtain⟨a,M,U,F1,lt,p,n,Fo,Fl,ps,Z,rfl,_⟩:=h
  rfl
 ·obtain⟨I,M,U,F1,lt,p,n,Fo,Fl,ps,Z,rfl,hx,hL,hp,hR,hlen,Hz,hsm,hE,hQ⟩:=h
  have FI:Fj 1 _:=Y.mono (by decide)
  have G6:Fj 2 _:=Y.mono (by decide)
  have hu:=CJ Y
  refine⟨_,ad (aU (yZ (dj (v:=.ref ts.tab) Λ B.mt Λ) B.cm G1 FI B.bt .nil aw (aa (pv 0) (aa (pv 1) ac))))
   (ad (bE (pv 0) (show PE _ _ (Cy P w) from Bv) Λ)
   (ah (cF lT Λ (nQ Λ T.enum (aa (pv 2) ac)) (jz Λ (bX (aE (i:=3) IY.nd Λ (ό Λ)) (bX (aE (i:=4) IY.nd Λ (ό Λ)) gZ)))
    (ad (aA (i:=5) IY.nd Λ (ό Λ) (bF (aa (ay aK (pv 4) ae (λ_ _=>rfl)) (aa (ay aK (pv 4) ae (λ_ _=>rfl)) (aa (ay aK (pv 4) ae (λ_ _=>rfl)) ac)))))
    (ad (aN (PW.pt (dQ (bV (b9 (au Gf Y Λ mf kf bf .nil aw (aa (pv 1) (aa (pv 4) ac))))) (dL (DJ (DQ hu (pv 5) (ao (pv 0) Λ))))))
     (ah (cu Λ G.x Fg (qJ G.x G.i G.k Gn G6 G.b Λ G.m (aa (pv 3) ac)))) aG)
    (ah (Bs hu (ao (pv 0) Λ) (pv 5) (au Gs FI Λ ms ks bs .nil aw (aa (ay aK (pv 4) ae (λ_ _=>rfl)) ac)) Λ))))))),?_⟩
  refine⟨Λ,I,ts.told,M,_,Λ,hx,B.cd,B.nd1,?_⟩
  refine λC MC=>⟨I,ts.told,M,[("land",.ref U)],Λ,by rw[af (ai ET MC)];exact ET,B.cd,B.VC,by show 1<1000;decide,?_⟩
  have YC:=ai ET MC
  have Sf:H C=Β:=by rw[af (ϧ YC)]at MC;exact MC
  generalize Oy:ο (ο (ο H I (.ρ ts.told M [("land",.ref U)])) C (tE P w C [])) I (.ρ ts.told M (aT "entries" (.ref C) [("land",.ref U)]))=H2
  have o2:Off I H H2:=λb o X e=>by rw[←Oy,af X,af (ai e Sf),af X];exact e
  have x2:H2 I=Α (.ρ ts.told M [("land",.ref U),("entries",.ref C)]):=by rw[←Oy,ET];rfl
  have d2:FY P w H2 C []:=⟨by rw[←Oy,af (ϧ YC),ET],λy hy=>by cases hy⟩
  have hrs:=Paired.length hR
  generalize Md:Z.map jg=N
  have KG:Z.length=N.length:=by rw[←Md,Μ]
  refine⟨p,Λ,⟨_,o2.sq hx hp⟩,oG (sq:=λH=>EX K H p) (xs:=Fl) (λi σ D=>∃(a b k:Option V)(J:List kE),Off I H D/\D I=Α (.ρ ts.told M [("land",.ref U),("entries",.ref C)])/\FY P w D C J/\J.length<=i/\
    (∀k,fO J k=(dG (N.take i) k).map yo)/\(∀j,j<i->xx n ps (N.take j) (N.getD j ⟨0,0,Β,[]⟩)=Ε)/\(∀q∈Z.take i,oX (jg q)=q)/\σ=[Α (.ref I),Α (.ref U),Α (.ref p),a,b,k])
   ⟨Β,Β,Β,[],o2,x2,d2,ϛ _,λk=>rfl,λj hj=>Κ hj (Yh _),λq L=>by simp at L,Λ⟩ (λi σ D _ Fc=>by obtain⟨_,_,_,_,O,_⟩:=Fc;exact O.sq hx hp) ?_ ?_⟩
  ·rintro i v q σ D hv ⟨a,b,k,J,O,x3,d3,l3,v3,g3,gO,rfl⟩ L
   obtain⟨u,R,t,l,rfl,hT⟩:=Paired.at hR hv
   have Ji:N[i]?=Α (jg u):=by rw[←Md,Ç,R];rfl
   have hi:=(gQ0 Ji)
   have Sg:N.getD i ⟨0,0,Β,[]⟩=jg u:=by rw[Ò,Ji];rfl
   have OC:OB D t l u:=⟨O _ _ (bH hT.1 hx (by intro z;cases z)) hT.1,O _ _ (bH hT.2 hx (by intro z;cases z)) hT.2⟩
   have L8:=O.land hx hL
   have s4:EU D (ο D q (.tup [.int i,.ref t])):=(EU.refl D).new L
   refine⟨q,_,Λ,Fn.of ET,Λ,_,_,Λ,_,_,Λ,Λ,?_⟩
   generalize ο D q (.tup [.int i,.ref t])=H4 at s4⊢
   have Sh:Fn K H4 t [oV u.p,oV u.g,oV u.c,.ref l]:=Fn.of (s4 _ _ OC.1)
   refine⟨t,_,0,_,Λ,Λ,Sh,aj (j:=0) Λ,t,_,1,_,Λ,Λ,Sh,aj (j:=1) Λ,t,_,2,_,Λ,Λ,Sh,aj (j:=2) Λ,by show 3<=Τ;decide,λS hkt=>?_⟩
   have s5:EU D (ο H4 S (.tup [oV u.p,oV u.g,oV u.c])):=s4.new hkt
   have k5:(ο H4 S (.tup [oV u.p,oV u.g,oV u.c])) S=Α (.tup [oV u.p,oV u.g,oV u.c]):=ET
   generalize ο H4 S (.tup [oV u.p,oV u.g,oV u.c])=H5 at s5 k5⊢
   refine⟨U,F1,lt,t,l,n,Fo,ps,u,Λ,⟨s5 _ _ L8.1,s5 _ _ L8.2.1,F6.same s5 L8.2.2⟩,OC.same s5,Hz,hsm u (Ϫ R),λH6 Jj=>⟨_,Λ,?_⟩⟩
   have s6:=s5.trans Jj
   have x6:=s6 _ _ x3
   have d6:=d3.same s6
   have N6:¬Ku n ps Z->∀e A,H6 e=Β->∀d,ο H6 e (cT e x.ne A Β) d=Β->
     ∃dd,(ο (ο (ο H6 e (cT e x.ne A Β)) d (.xd [("row",.int i)])) e (cT e x.ne A (Α d))) e=Α (cT e x.ne A dd)/\E (.ref x.ne) dd (AI (ο (ο (ο H6 e (cT e x.ne A Β)) d (.xd [("row",.int i)])) e (cT e x.ne A (Α d))) e):=by
    intro X e A he d hd
    obtain⟨m1,m3⟩:=pK (o:=cT e x.ne A Β) (o':=cT e x.ne A (Α d)) (x:=.xd [("row",.int i)]) he hd
    exact⟨Α d,m3,hE X _ _ _ G.e (λb o X e=>m1 _ _ (s6 _ _ (O b o X e)))⟩
   cases hf:ku n ps u with
   | false =>
    refine aI (aI ⟨by show 1<=Τ;decide,λe A he=>⟨e,_,A,_,Λ,ET,G.c,G.a,λd hd=>⟨Λ,N6 (λhG=>?_) e A he d hd⟩⟩⟩)
    obtain⟨h1,h2⟩:=hG.un
    rw[Md]at h2
    have:=iK h2 hi
    rw[Sg,iO,←h1 u (Ϫ R),hf]at this
    cases this
   | true =>
    obtain⟨Qi,Kv⟩:=Sd hf
    have k6:H6 S=Α (.tup ((aR (jg u)).map AH)):=by
     rw[Jj _ _ k5,vC,RZ]
     show Α (HO.tup [oV u.p,oV u.g,oV u.c])=Α (.tup [oV (oX (jg u)).p,oV (oX (jg u)).g,oV (jg u).c])
     rw[Qi]
     rfl
    refine aH ⟨I,ts.told,M,_,_,Λ,x6,B.cd,B.VC,Λ,C,_,Λ,⟨J,aR (jg u),S,d6,Λ,k6,Λ⟩,_,Λ,?_⟩
    have eS:(fO J (aR (jg u))).isSome=(N.take i).any λa=>decide (aR a=aR (jg u)):=by rw[v3,nE,ki]
    cases hS:(fO J (aR (jg u))).isSome with
    | true =>
     refine aI ⟨by show 1<=Τ;decide,λe A he=>⟨e,_,A,_,Λ,ET,G.c,G.a,λd hd=>⟨Λ,N6 (λhG=>?_) e A he d hd⟩⟩⟩
     obtain⟨h1,h2⟩:=hG.un
     rw[Md]at h2
     have:=iK h2 hi
     rw[Sg,iO,Kv,←eS,hS]at this
     cases this
    | false =>
     refine aH ?_
     have hT6:=OC.same s6
     have hsn:u.s.map oV=ji (jg u).s:=by
      rw[show u.s=(oX (jg u)).s by rw[Qi]]
      show(((jg u).s).map Α).map oV=_
      rw[Á];rfl
     have F9:∀k∈(jg u).s,k<=1000:=λk hk=>by
      have:=xn Kv k hk
      omega
     refine⟨t,_,3,_,Λ,Λ,Fn.of hT6.1,aj (j:=3) Λ,l,(jg u).s,Λ,EX.of (hT6.2.trans (congrArg (λz=>Α (HO.π z)) hsn)),F9,I,ts.told,M,_,_,Λ,x6,B.cd,B.VC,Λ,C,J,aR (jg u),S,Λ,d6,Λ,k6,by rw[Χ];omega,_,_,_,kR J (aR (jg u)) S (yo (jg u)),λb' o X e=>?_,?_,⟨ET,wD (F:=λk a=>(ο H6 C (tE P w C (kR J (aR (jg u)) S (yo (jg u))))) a=Α (.tup (k.map AH))) (λy hy=>?_) ?_⟩,?_,λk'=>?_,λj hj=>?_,λq L=>?_,Λ⟩
     ·rw[af (ai e Sf)];exact s6 _ _ (O _ _ X e)
     ·rw[af YC];exact x6
     ·rw[af (bH (d6.2 y hy) d6.1 (by intro z;cases z))];exact d6.2 y hy
     ·rw[af (bH k6 d6.1 (by intro z;cases z))];exact k6
     ·exact ώ lA (Nat.succ_le_succ l3)
     ·rw[xG,í,Ji,QV,uS,v3]
      by_cases hk:k'=aR (jg u)
      ·rw[Ι hk,Ι hk];rfl
      ·rw[Θ hk,Θ hk]
     ·rcases Nat.lt_or_ge j i with h|h
      ·exact g3 j h
      ·have:j=i:=by omega
       subst this
       rw[Sg,iO,Kv,←eS,hS];rfl
     ·rw[í,R]at L
      rcases ϝ.mp L with L|L
      ·exact gO q L
      ·have:q=u:=by simpa using L
       rw[this];exact Qi
  ·rintro σ D ⟨a,b,k,J,O,x3,d3,l3,v3,g3,gO,rfl⟩
   rw[hrs,Ó]at gO
   rw[hrs,KG]at g3 v3
   rw[Ó]at v3
   refine hQ N ?_ (λr Y=>?_) (jr g3) D C J O x3 d3 v3
   ·rw[←Md,Á]
    conv=>lhs;rw[←ŋ Z]
    exact Æ λq L=>(gO q L).symm
   ·rw[←Md]at Y
    obtain⟨q,_,rfl⟩:=ϟ.mp Y
    exact⟨ĸ _,ĸ _⟩
noncomputable def nV(ps:List Nat):List V:=ps.map λq:Nat=>V.int (q:Int)
theorem eC(a:List Nat):(nV a).length=a.length:=by simp[nV]
theorem zG{k q:Nat}(h:ps[k]?=Α q):(nV ps)[k]?=Α (V.int (q:Int)):=by simp[nV,h]
theorem Ep(a b:List Nat):nV (a++b)=nV a++nV b:=by unfold nV;rw[ϗ]
theorem iF(h:v∈nV ps):∃q:Nat,q∈ps/\v=.int (q:Int):=by
 obtain⟨q,a,e⟩:=ϟ.mp h
 exact⟨q,a,e.symm⟩
inductive yi(c:Cs)(sel:Int×Int->Int)(vs:List V)(H:Hp)(Q:VK)(E:XK):Prop
 |mk (x dx t:Ν) (n:Int) (Fo:List V) (ps:List (Int×Int)) (k:Nat) (pr:Int×Int) (_:vs=[.ref x,.int k]) (_:fX H c x dx t n Fo ps) (_:ps[k]?=Α pr) (_:Q (.int (sel pr)) H)
structure Cu(K:Ϣ)(c:Cs)(f:Ν)(d:ë):Prop where
 m:ck K c.land "end_of" f
 b:Binds K d ["self","lane"] []
theorem dz(a b:Int):decide (V.int a=V.int b)=decide (a=b):=by
 by_cases h:a=b
 ·rw[h];simp
 ·rw[Η h,Η λz=>h (by injection z)]
theorem ig(h:i<n):xf n (i:Int)=Α i:=by
 unfold xf
 rw[Ι (by omega),Ι (by omega),Ϙ]
noncomputable def mN(m:Nat):List Nat:=Yd.Js m (Ü (m:Int))
theorem Si:ap ["self","lane"] ["self","lane"] (ag DD):=L2.F4
theorem Ek(F:F0 K "end_of" "Land.end_of" DD f fd)(L:tI K c):EW P w K mg μ aL 1 f fd ["self","lane"] (yi c Í):=by
 refine F.ok Si λ_ _ _ s H _ Q E m h=>?_
 obtain⟨x,a,t,n,o,p,k,r,rfl,⟨b,d,e⟩,g,q⟩:=h
 refine⟨_,ah (az (ay aK (ay aK (ao (pv 0) Λ) (pv 1) (λ_ _=>rfl)) ae (λ_ _=>rfl))),?_⟩
 obtain⟨v,i,u,rfl,l⟩:=F6.O9 e g
 refine⟨x,c.land,a,_,_,Λ,b,L.cl,L.nl,Λ,t,_,_,_,Λ,Λ,Fn.of d,aj i,u,_,1,_,Λ,Λ,Fn.of l,aj (j:=1) Λ,q⟩
theorem F6.imp(h:∀v p,Cr H v p->Cr H' v p):∀{a:List V}{b:List (Int×Int)},F6 H a b->F6 H' a b:=λc=>by
 induction c with
 |nil=>exact .nil
 |cons z r d=>exact .cons (h _ _ z) d
noncomputable def hV:Option Int->V
 |none =>.Fp
 |some z =>.int z
abbrev Fs:=List (Str×V)
noncomputable def lG(r b:Int)(h:V)(pa:Ν):Fs:=[("rights",.int r),("returning",.int b),("holder",h),("pieces",.ref pa)]
structure Fy(H:Hp)(C x dx pa:Ν)(r b:Int)(h:Option Int)(F2:List V)(qs:List (Int×Int)):Prop where
 ρ:H x=Α (.ρ C dx (lG r b (hV h) pa))
 π:H pa=Α (.π F2)
 GS:F6 H F2 qs
def GU(x pa:Ν)(H H':Hp):Prop:=∀a o,a≠x->a≠pa->H a=Α o->H' a=Α o
theorem GU.L7{fs:Fs}(h:GU x pa H H')(a:H x=Α (.ρ C dx fs))(b:H pa=Α (.π F2)):F6 H vs qs->F6 H' vs qs:=
 F6.imp λ_ _ c=>by obtain⟨t,e,q⟩:=c;exact⟨t,e,h _ _ (bH q a (by intro z;cases z)) (bH q b (by intro z;cases z)) q⟩
theorem Fy.same(L:Fy H C x dx pa r b h F2 qs)(s:EU H H'):Fy H' C x dx pa r b h F2 qs:=⟨s _ _ L.ρ,s _ _ L.π,F6.same s L.GS⟩
noncomputable def dZ(r:Int)(h:Option Int)(l c:Int):Bool:=if r=0 then Ε else if c=0 then decide (h=Β) else decide (h=Α l)
theorem E5(h:Option Int):decide (hV h=V.Fp)=decide (h=Β):=by cases h<;>rfl
theorem E6(h:Option Int)(l:Int):decide (hV h=V.int l)=decide (h=Α l):=by
 cases h with
 |none=>rfl
 | some z =>
  show decide (V.int z=V.int l)=_
  rw[dz]
  by_cases e:z=l
  ·rw[Ζ e,Ζ (by rw[e])]
  ·rw[Η e,Η λq=>e (ϥ q)]
theorem Cb(h:Option Int)(l:Int):Ds (hV h) (.int l)=Δ:=by cases h<;>rfl
structure CP(K:Ϣ)(C:Ν):Prop where
 cl:IK K C
 n1:Ft K C "rights"
 n2:Ft K C "returning"
 n3:Ft K C "holder"
 n4:Ft K C "pieces"
inductive vn(C:Ν)(vs:List V)(H:Hp)(Q:VK)(E:XK):Prop
 |mk (x dx:Ν) (room:Int) (_:vs=[.ref x,.int room]) (_:H x=Α (.ρ C dx [])) (_:∀(pa:Ν)(H':Hp),H pa=Β->(∀a o,a≠x->H a=Α o->H' a=Α o)->Fy H' C x dx pa room 0 Β [] []->Q .Fp H')
inductive nc(C:Ν)(vs:List V)(H:Hp)(Q:VK)(E:XK):Prop
 |mk (x dx pa:Ν) (r b:Int) (h:Option Int) (l c:Int) (_:vs=[.ref x,.int l,.int c]) (_:H x=Α (.ρ C dx (lG r b (hV h) pa))) (_:Q (.bl (dZ r h l c)) H)
inductive ya(C:Ν)(vs:List V)(H:Hp)(Q:VK)(E:XK):Prop
 |mk (x dx pa:Ν) (r b:Int) (h:Option Int) (F2:List V) (qs:List (Int×Int)) (l c:Int) (last:Bool) (_:vs=[.ref x,.int l,.int c,.bl last]) (_:Fy H C x dx pa r b h F2 qs) (_:F2.length<100000) (_:(dZ r h l c=Ε->False)) (_:(dZ r h l c=Δ->∀(t:Ν)(H':Hp),GU x pa H H'->Fy H' C x dx pa (r - 1) b (if last then Β else Α l) (F2++[.ref t]) (qs++[(l,c)])->Q .Fp H'))
noncomputable def uU:List V->V
 |[] =>.Fp
 |v:: _=>v
inductive jH(C:Ν)(vs:List V)(H:Hp)(Q:VK)(E:XK):Prop
 |mk (x dx pa:Ν) (r b:Int) (h:Option Int) (F2:List V) (qs:List (Int×Int)) (_:vs=[.ref x]) (_:Fy H C x dx pa r b h F2 qs) (_:Q (uU F2) H)
inductive qq(C:Ν)(vs:List V)(H:Hp)(Q:VK)(E:XK):Prop
 |mk (x dx pa:Ν) (r b:Int) (h:Option Int) (F2:List V) (qs:List (Int×Int)) (_:vs=[.ref x]) (_:Fy H C x dx pa r b h F2 qs) (_:(F2=[]->False)) (_:(∀v rest,F2=v:: rest->∀H':Hp,GU x pa H H'->Fy H' C x dx pa r (b+1) h rest qs.tail->Q v H'))
inductive qy(C:Ν)(vs:List V)(H:Hp)(Q:VK)(E:XK):Prop
 |mk (x dx pa:Ν) (r b:Int) (h:Option Int) (F2:List V) (qs:List (Int×Int)) (_:vs=[.ref x]) (_:Fy H C x dx pa r b h F2 qs) (_:(b=0->False)) (_:(b≠0->∀H':Hp,GU x pa H H'->Fy H' C x dx pa (r+1) (b - 1) h F2 qs->Q .Fp H'))
theorem YD(n:Nat):LP 0 (n+1)=Α 0:=by
 unfold LP
 simp
theorem Sj:ap ["self","room"] ["self","room"] (ag D8):=L2.F4
theorem Eg(F:F0 K "__init__" "Lane.__init__" D8 f fd)(L:CP K C):EW P w K mg μ aL 1 f fd ["self","room"] (vn C):=by
 refine F.ok Sj λ_ _ _ s H _ Q E n h=>?_
 obtain⟨x,c,room,rfl,m,q⟩:=h
 refine⟨_,ad (bE (pv 0) (pv 1) Λ) (ad (bE (pv 0) ae Λ) (ad (bE (pv 0) bA Λ) (ah (bE (pv 0) (aP ac) Λ)))),x,C,c,_,Λ,m,L.cl,L.n1,by show 0<1000;decide,x,C,c,_,Λ,ET,L.cl,L.n2,by show 1<1000;decide,x,C,c,_,Λ,ET,L.cl,L.n3,by show 2<1000;decide,Ä _,λd i=>?_⟩
 have b:=ai ET i
 refine⟨x,C,c,_,Λ,by rw[af b];exact ET,L.cl,L.n4,by show 3<1000;decide,?_⟩
 have l:H d=Β:=by
  rw[af (ϧ b),af (ϧ b),af (ϧ b)]at i
  exact i
 refine q d _ l (λa o g e=>?_) ⟨ET,by rw[af (ϧ b)];exact ET,.nil⟩
 have j:a≠d:=λz=>by
  rw[z,l]at e
  cases e
 rw[af g,af j,af g,af g,af g]
 exact e
theorem Dx:ap ["self","letter","count"] ["self","letter","count"] (ag y4):=L2.F4
theorem BA(F:F0 K "open_to" "Lane.open_to" y4 f fd)(L:CP K C):EW P w K mg μ aL 1 f fd ["self","letter","count"] (nc C):=by
 refine F.ok Dx λ_ _ _ s H _ Q E i h=>?_
 obtain⟨x,e,j,r,b,h,l,c,rfl,g,q⟩:=h
 refine⟨_,ad (aN (ak aQ (ao (pv 0) Λ) ae (aq _)) (ah (az iD)) aG)
  (ad (aN (ak aQ (pv 2) ae (aq _)) (ah (az (dq kW (ao (pv 0) Λ) bA (aq _)))) aG)
  (ah (az (dq aQ (ao (pv 0) Λ) (pv 1) (aq _))))),?_⟩
 refine⟨x,C,e,_,_,Λ,g,L.cl,L.n1,Λ,Λ,_,Λ,?_⟩
 rw[dz]
 unfold dZ at q
 by_cases a:r=0
 ·rw[Ζ a]
  rw[Ι a]at q
  exact aI q
 rw[Η a]
 rw[Θ a]at q
 refine aH ⟨Λ,_,Λ,?_⟩
 rw[dz]
 by_cases d:c=0
 ·rw[Ζ d]
  rw[Ι d]at q
  refine aI ⟨x,C,e,_,_,Λ,g,L.cl,L.n3,Λ,Λ,?_⟩
  rw[E5]
  exact q
 ·rw[Η d]
  rw[Θ d]at q
  refine aH ⟨x,C,e,_,_,Λ,g,L.cl,L.n3,Λ,Cb h l,?_⟩
  rw[E6]
  exact q
theorem Sk:ap ["self","letter","count","last"] ["self","letter","count","last"] (ag D5):=L2.F4
theorem DZ(F:F0 K "put" "Lane.put" D5 f fd)(L:CP K C)(Y:ck K C "open_to" fo)(Z:Binds K Jk ["self","letter","count"] [])(Go:EW P w K mg μ aL 1 fo Jk ["self","letter","count"] (nc C)):
  EW P w K mg μ aL 2 f fd ["self","letter","count","last"] (ya C):=by
 refine F.ok Sk λ_ _ _ s H _ Q E hr h=>?_
 obtain⟨x,g,d,r,b,h,j,qs,l,c,last,rfl,i,O,h1,R⟩:=h
 refine⟨_,ad (aN (bV (b9 (aM (pv 0) L.cl Y Go hr Z .nil aw (aa (pv 1) (aa (pv 2) ac))))) (ah fc) aG)
  (ad (gE (pv 0) ae vK)
  (ad (aU (aZ plainAttrs_list PySem.F.slot_list_append PySem.F.type_list_append cy (ao (pv 0) Λ) (aa (bF (aa (pv 1) (aa (pv 2) ac))) ac)))
  (ah (bE (pv 0) (cI (b9 (pv 3)) bA (pv 1)) Λ)))),?_⟩
 refine⟨x,g,_,Λ,i.ρ,Λ,x,g,d,r,b,h,l,c,Λ,i.ρ,_,Λ,?_⟩
 cases y:dZ r h l c with
 | false =>
  exact aI (h1 y)
 | true =>
  refine aH ?_
  refine⟨x,C,g,_,_,Λ,i.ρ,L.cl,L.n1,Λ,_,_,Λ,Λ,g,_,i.ρ,by show 4<1000;decide,?_⟩
  have A:=bH i.π i.ρ (by intro z;cases z)
  have B:(ο H x (.ρ C g (aT "rights" (.int (r - 1)) (lG r b (hV h) d)))) x=Α (.ρ C g (lG (r - 1) b (hV h) d)):=ET
  have u:(ο H x (.ρ C g (aT "rights" (.int (r - 1)) (lG r b (hV h) d)))) d=Α (.π j):=by rw[af A];exact i.π
  have S:GU x d H (ο H x (.ρ C g (aT "rights" (.int (r - 1)) (lG r b (hV h) d)))):=λa o m _ e=>by rw[af m];exact e
  generalize ο H x (.ρ C g (aT "rights" (.int (r - 1)) (lG r b (hV h) d)))=D at B u S⊢
  refine⟨x,C,g,_,_,Λ,B,L.cl,L.n4,Λ,.inl ⟨Λ,_,EX.of u⟩,by show 2<=Τ;decide,λt ht=>?_⟩
  have p:=(EU.refl D).new (o:=.tup [.int l,.int c]) ht
  have gt:(ο D t (.tup [.int l,.int c])) t=Α (.tup [.int l,.int c]):=ET
  generalize ο D t (.tup [.int l,.int c])=q at p gt⊢
  refine⟨d,j,_,Λ,Λ,p _ _ u,by rw[Χ];omega,?_⟩
  have v:(ο q d (.π (j++[.ref t]))) x=Α (.ρ C g (lG (r - 1) b (hV h) d)):=by rw[af (ϧ A)];exact p _ _ B
  have T:(ο q d (.π (j++[.ref t]))) d=Α (.π (j++[.ref t])):=ET
  have G:GU x d H (ο q d (.π (j++[.ref t]))):=λa o m n e=>by rw[af n];exact p _ _ (S a o m n e)
  have I:=bH gt (p _ _ u) (by intro z;cases z)
  have J:(ο q d (.π (j++[.ref t]))) t=Α (.tup [.int l,.int c]):=by rw[af I];exact gt
  generalize ο q d (.π (j++[.ref t]))=U at v T G J⊢
  have M:=bH J v (by intro z;cases z)
  have fin:∀N:Option Int,Fy (ο U x (.ρ C g (aT "holder" (hV N) (lG (r - 1) b (hV h) d)))) C x g d (r - 1) b N (j++[.ref t]) (qs++[(l,c)]):=λN =>
   ⟨ET,by rw[af A];exact T,F6.snoc ⟨t,Λ,by rw[af M];exact J⟩ (GU.L7 (λa o m n e=>by rw[af m];exact G a o m n e) i.ρ i.π i.GS)⟩
  have off:∀X,GU x d H (ο U x X):=λX a o m n e=>by rw[af m];exact G a o m n e
  refine⟨_,Λ,?_⟩
  cases last with
  |true=>exact aI ⟨x,C,g,_,Λ,v,L.cl,L.n3,by show 4<1000;decide,R y t _ (off _) (fin Β)⟩
  |false=>exact aH ⟨x,C,g,_,Λ,v,L.cl,L.n3,by show 4<1000;decide,R y t _ (off _) (fin (Α l))⟩
theorem Be:ap ["self"] ["self"] (ag ux):=L2.F4
theorem zp(F:F0 K "front" "Lane.front" ux f fd)(L:CP K C):EW P w K mg μ aL 1 f fd ["self"] (jH C):=by
 refine F.ok Be λ_ _ _ s H _ Q E g h=>?_
 obtain⟨x,c,d,r,b,h,e,i,rfl,a,q⟩:=h
 refine⟨_,ah (az (cI (iB (ao (pv 0) Λ) (λ_=>rfl)) (ay aB (ao (pv 0) Λ) ae (λ_ _=>rfl)) bA)),x,C,c,_,_,Λ,a.ρ,L.cl,L.n4,Λ,_,.inl ⟨_,EX.of a.π,Λ⟩,?_⟩
 cases e with
 |nil=>exact aH q
 |cons v rest=>exact aI ⟨x,C,c,_,_,Λ,a.ρ,L.cl,L.n4,Λ,d,_,0,v,Λ,Λ,EX.of a.π,aj (j:=0) Λ,q⟩
theorem Dt:ap ["self"] ["self"] (ag yt):=L2.F4
theorem B6(F:F0 K "pull" "Lane.pull" yt f fd)(L:CP K C):EW P w K mg μ aL 1 f fd ["self"] (qq C):=by
 refine F.ok Dt λ_ _ _ s H _ Q E D h=>?_
 obtain⟨x,g,c,r,b,h,u,G,rfl,d,y,A⟩:=h
 refine⟨_,ad (aN (bV (iB (ao (pv 0) Λ) (λ_=>rfl))) (ah fc) aG)
  (ad (gE (pv 0) ae qR)
  (ah (az (aZ plainAttrs_list slot_list_pop type_list_pop om (ao (pv 0) Λ) (aa ae ac))))),?_⟩
 refine⟨x,C,g,_,_,Λ,d.ρ,L.cl,L.n4,Λ,_,.inl ⟨_,EX.of d.π,Λ⟩,?_⟩
 have m:=bH d.π d.ρ (by intro z;cases z)
 cases u with
 | nil =>
  exact aI (y Λ)
 | cons v rest =>
  refine aH ?_
  refine⟨x,C,g,_,_,Λ,d.ρ,L.cl,L.n2,Λ,_,_,Λ,Λ,g,_,d.ρ,by show 4<1000;decide,?_⟩
  have i:(ο H x (.ρ C g (aT "returning" (.int (b+1)) (lG r b (hV h) c)))) x=Α (.ρ C g (lG r (b+1) (hV h) c)):=ET
  have j:(ο H x (.ρ C g (aT "returning" (.int (b+1)) (lG r b (hV h) c)))) c=Α (.π (v:: rest)):=by rw[af m];exact d.π
  have n:GU x c H (ο H x (.ρ C g (aT "returning" (.int (b+1)) (lG r b (hV h) c)))):=λa o l _ e=>by rw[af l];exact e
  generalize ο H x (.ρ C g (aT "returning" (.int (b+1)) (lG r b (hV h) c)))=B at i j n⊢
  refine⟨x,C,g,_,_,Λ,i,L.cl,L.n4,Λ,.inl ⟨Λ,_,EX.of j⟩,c,v:: rest,0,0,v,Λ,Λ,j,by decide,by decide,YD _,Λ,?_⟩
  have p:GU x c H (ο B c (.π rest)):=λa o l q e=>by rw[af q];exact n a o l q e
  refine A v rest Λ _ p ⟨by rw[af (ϧ m)];exact i,ET,?_⟩
  have z:=GU.L7 p d.ρ d.π d.GS
  cases z with
  |cons _ t=>exact t
theorem Bf:ap ["self"] ["self"] (ag uz):=L2.F4
theorem zu(F:F0 K "bring" "Lane.bring" uz f fd)(L:CP K C):EW P w K mg μ aL 1 f fd ["self"] (qy C):=by
 refine F.ok Bf λ_ _ _ s H _ Q E D h=>?_
 obtain⟨x,c,d,r,b,h,u,G,rfl,g,v,y⟩:=h
 refine⟨_,ad (aN (ak aQ (ao (pv 0) Λ) ae (aq _)) (ah fc) aG)
  (ad (gE (pv 0) ae vK) (ah (gE (pv 0) ae qR))),?_⟩
 refine⟨x,C,c,_,_,Λ,g.ρ,L.cl,L.n2,Λ,Λ,_,Λ,?_⟩
 have m:=bH g.π g.ρ (by intro z;cases z)
 rw[dz]
 by_cases i:b=0
 ·rw[Ζ i]
  exact aI (v i)
 ·rw[Η i]
  refine aH ?_
  refine⟨x,C,c,_,_,Λ,g.ρ,L.cl,L.n2,Λ,_,_,Λ,Λ,c,_,g.ρ,by show 4<1000;decide,?_⟩
  have l:(ο H x (.ρ C c (aT "returning" (.int (b - 1)) (lG r b (hV h) d)))) x=Α (.ρ C c (lG r (b - 1) (hV h) d)):=ET
  have n:GU x d H (ο H x (.ρ C c (aT "returning" (.int (b - 1)) (lG r b (hV h) d)))):=λa o j _ e=>by rw[af j];exact e
  have p:(ο H x (.ρ C c (aT "returning" (.int (b - 1)) (lG r b (hV h) d)))) d=Α (.π u):=by rw[af m];exact g.π
  generalize ο H x (.ρ C c (aT "returning" (.int (b - 1)) (lG r b (hV h) d)))=A at l p n⊢
  refine⟨x,C,c,_,_,Λ,l,L.cl,L.n1,Λ,_,_,Λ,Λ,c,_,l,by show 4<1000;decide,?_⟩
  have q:∀t,GU x d H (ο A x t):=λt a o j B e=>by rw[af j];exact n a o j B e
  exact y i _ (q _) ⟨ET,by rw[af m];exact p,GU.L7 (q _) g.ρ g.π g.GS⟩
noncomputable def pf(m:Nat)(Fl:List V):Bool:=decide (Fl.length=m)&& Fl.all λv=>kX v 1 60
def Sq(K:Ϣ)(H:Hp)(a:Ν)(xs:List V):Prop:=EX K H a xs∨Fn K H a xs
inductive qo(K:Ϣ)(c:Cs)(x:Xc)(vs:List V)(H:Hp)(Q:VK)(E:XK):Prop
 |mk (lx F1 lt:Ν) (n:Int) (Fo:List V) (ps:List (Int×Int)) (rv:V) (_:vs=[.ref lx,rv]) (_:fX H c lx F1 lt n Fo ps) (_:ps.length<=1000) (_:((rv=.Fp/\∀t H',EU H H'->H' t=Α (.tup (è ps.length (.int 1)))->Q (.ref t) H')∨(∃ra Fl,rv=.ref ra/\Sq K H ra Fl/\Fl.length<=1000/\(∀v∈Fl,tH v)/\(pf ps.length Fl=Ε->Rf K x E H)/\(pf ps.length Fl=Δ->∀t H',EU H H'->Fn K H' t Fl->Q (.ref t) H'))))
noncomputable def E4(s:Ã):Scope:=match s with
 |.If _ (.Return (Α (.Call _ [.ListComp _ _ sc _] _ _)) _:: _) _ _=>sc
 |_=>zQ0
noncomputable def DR(s:Ã):Scope:=match s with
 |.If (.BoolOp _ [_,.UnaryOp _ (.Call _ [.ListComp _ _ sc _] _ _) _] _) _ _ _=>sc
 |_=>zQ0
noncomputable def Qj:V->Bool
 |.int i=>decide ((if i<0 then -i else i)<10^(60:Int).toNat)
 |_=>Ε
inductive tW(vs:List V)(H:Hp)(Q:VK)(_:XK):Prop
 |mk (v)(_:vs=[v])(_:tH v)(_:Q (.bl (Qj v)) H)
theorem bM(e:EU H H')(h:Fn K H a xs):Fn K H' a xs:=by
 rcases h with h|h
 ·refine .inl ?_
  rcases h with h|⟨o,h⟩
  ·exact .inl (e _ _ h)
  ·exact .inr ⟨o,e _ _ h⟩
 ·exact .inr h
theorem CB(e:PI X tg it a)(f:PI X tg it b):PI X tg it (λd H R=>a d H R∨b d H R):=λc s d H R I h=>h.elim (e c s d H R I) (f c s d H R I)
theorem sW{xs:List V}(f:V->V)(l:xs.length<Τ)(c:∀i,i<xs.length->J.go i H)(m:J.stop xs.length H)(n:∀i x a,J.LW i H x a->a=H/\xs[i]?=Α x)
  (o:∀(x:V)(N:V->Hp->Prop),x∈xs->N (f x) H->g x σ0 H λd b=>te d b N)
  (p:∀D,H D=Β->Q (.ref D) (ο H D (.π (xs.map f)))):ge J g tU te σ0 Q H:=by
 refine b8 xs.length l (λi acc a=>a=H/\acc=(xs.take i).map f) ⟨Λ,Λ⟩ (λi acc a h=>by rw[h.2,Μ];exact æ _ _) (λi acc a q h=>?_) (λacc a h=>?_)
 ·obtain⟨rfl,rfl⟩:=h
  refine⟨c i q,λv b y=>?_⟩
  obtain⟨e,j⟩:=n i v b y
  subst e
  exact o v (λy r=>r=b/\(xs.take i).map f++[y]=(xs.take (i+1)).map f) (Ϫ j) ⟨Λ,by rw[í,j,ϗ];rfl⟩
 ·obtain⟨rfl,rfl⟩:=h
  rw[Ó]
  exact⟨m,p⟩
theorem rh(f:V->V)(d:xs.length<Τ)(b:EX K H a xs)(e:∀(x:V) (N:V->Hp->Prop),x∈xs->N (f x) H->g x σ0 H λc h=>te c h N)
  (j:∀D,H D=Β->Q (.ref D) (ο H D (.π (xs.map f)))):ge (AF K a) g tU te σ0 Q H:=
 sW f d (λi l=>⟨xs,xs[i],b,by simp[l]⟩) ⟨xs,b,ϛ _⟩ (λi x m y=>⟨y.1,y.2 xs b⟩) e j
theorem rf(f:V->V)(d:xs.length<Τ)(b:Fn K H a xs)(e:∀(x:V) (N:V->Hp->Prop),x∈xs->N (f x) H->g x σ0 H λc h=>te c h N)
  (j:∀D,H D=Β->Q (.ref D) (ο H D (.π (xs.map f)))):ge (Vs K a) g tU te σ0 Q H:=
 sW f d (λi l=>⟨xs,xs[i],b,by simp[l]⟩) ⟨xs,b,ϛ _⟩ (λi x m y=>⟨y.1,y.2 xs b⟩) e j
theorem YF:ap ["land","rooms"] ["land","rooms"] (ag jy):=L2.F4
theorem YG:FQ ["land","rooms"] (ag jy) (E4 ((aJ jy).getD 0 (.Pass ⟨0,0,0,0⟩))) [] []:=L2.GR
theorem YH:FQ ["land","rooms"] (ag jy) (DR ((aJ jy).getD 1 (.Pass ⟨0,0,0,0⟩))) [] []:=L2.GR
theorem YI:(["lane"]:List Str).Nodup:=by decide +kernel
theorem Sl:(["room"]:List Str).Nodup:=by decide +kernel
theorem zk(F:F0 K "rooms_of" "rooms_of" jy f fd)(T:Txt mg)(L:tI K c)
  (U:mg "is_within"=Α (.ref fw)) (Y:Ϩ K (.ref fw)=Δ) (Z:Binds K dw ["value","least","most"] []) (Gw:EW P w K mg μ aL 2 fw dw ["value","least","most"] e9) (mp:mg "MOST_ROOM"=Α (.int 60 t1)) (X:tJ K mg x.yc "NoRooms" x.rm):
  EW P w K mg μ (ix P w) 3 f fd ["land","rooms"] (qo K c x):=by
 refine F.KD YF (λ_ _ _ _ h=>?_) (λ_ _ _ s H _ Q E hr h=>?_)
 ·obtain⟨z,A,lt,n,B,g,rv,rfl,_⟩:=h
  rfl
 ·obtain⟨z,A,lt,n,B,g,rv,rfl,r,FJ,hh⟩:=h
  refine⟨_,ad (aN (ak kW (pv 1) bA (aq _)) (ah (az (aS dJ Λ T.tuple PySem.Pv.boot_tuple (aa (aV (own:=["lane"]) (capN:=[]) (cap:=[]) YG Λ (kS (ao (pv 0) Λ))
     (λC j y fp=>⟨aE (i:=0) YI Λ (ό Λ),bB,ae⟩)) ac)))) aG)
   (ad (aN (gc (PW.pt (dQ (ak lB (aF aC Λ T.len PySem.boot_len (aa (pv 1) ac)) (aF aC Λ T.len PySem.boot_len (aa (ao (pv 0) Λ) ac)) (aq _))
     (dL (bV (b9 (aF (kB Λ) Λ T.all Ļ (aa (aV (own:=["room"]) (capN:=[]) (cap:=[]) YH Λ (CB (bu (pv 1)) (kS (pv 1)))
      (λC j y fp=>⟨aE (i:=0) Sl Λ (ό Λ),bB,au Gw hr Λ U Y Z .nil aw (aa (pv 0) (aa ae (aa (dj (v:=.int 60) Λ mp ⟨_,Λ⟩) ac)))⟩)) ac))))))))
    (ah (cu Λ X.x Fg (dF X.x X.k Λ Λ X.m (aa aD ac)))) aG)
   (ah (az (aS dJ Λ T.tuple PySem.Pv.boot_tuple (aa (pv 1) ac))))),?_⟩
  have O:=Paired.length r.2.2
  refine⟨Λ,_,Λ,?_⟩
  rcases hh with ⟨rfl,q⟩|⟨l,a,rfl,d,KG,G,qE,q⟩
  ·refine aI ⟨z,c.land,A,_,_,Λ,r.1,L.cl,L.nl,Λ,lt,Λ,⟨_,Fn.of r.2.1⟩,?_⟩
   refine rf (λ_ =>.int 1) (by rw[Χ];omega) (Fn.of r.2.1) (λx N u h=>h) (λD I=>?_)
   have s1:=(EU.refl H).new (o:=.π (B.map λ_=>V.int 1)) I
   refine⟨D,_,Λ,.inl ⟨EX.of ET,λt J=>q t _ (s1.new J) ?_⟩⟩
   rw[ET,List.map_const',O]
  ·refine aH ?_
   have R:∀{H:Hp},Sq K H l a->(EX K H l a∨Fn K H l a):=λh=>h
   refine⟨λb y=>EU H y/\b= !pf g.length a,?_,?_⟩
   ·refine⟨l,a,Λ,d,z,c.land,A,_,_,Λ,r.1,L.cl,L.nl,Λ,lt,_,Λ,.inr (Fn.of r.2.1),Λ,_,Λ,?_⟩
    rw[dz,O]
    by_cases S:a.length=g.length
    rotate_left
    ·rw[Η (show ¬((a.length:Nat):Int)=(g.length:Nat) by omega)]
     refine aI ⟨EU.refl H,?_⟩
     unfold pf
     rw[Η S];rfl
    rw[Ζ (show((a.length:Nat):Int)=(g.length:Nat) by omega)]
    have step:∀(x:V)(N:V->Hp->Prop),x∈a->N (.bl (kX x 1 60)) H->tH x:=λx _ u _=>G x u
    have fin:∀D,H D=Β->∃(p:Ν)(bs:List Bool),[V.ref D]=[.ref p]/\EX K (ο H D (.π (a.map λv=>V.bl (kX v 1 60)))) p (bs.map V.bl)/\Uaa (λc r=>EU H r/\(!c)= !pf g.length a) (.bl (bs.all id)) (ο H D (.π (a.map λv=>V.bl (kX v 1 60)))):=λD I=>by
     refine⟨D,a.map λv=>kX v 1 60,Λ,EX.of (by rw[ET,Á];rfl),_,Λ,(EU.refl H).new I,?_⟩
     unfold pf
     rw[Ζ S,Ý,W3];rfl
    refine aH ?_
    rcases d with d|d
    ·refine .inl ⟨l,Λ,⟨_,d⟩,?_⟩
     exact rh (λv =>.bl (kX v 1 60)) (by rw[Χ];omega) d (λx N u h=>⟨x,1,60,Λ,G x u,h⟩) fin
    ·refine .inr ⟨l,Λ,⟨_,d⟩,?_⟩
     exact rf (λv =>.bl (kX v 1 60)) (by rw[Χ];omega) d (λx N u h=>⟨x,1,60,Λ,G x u,h⟩) fin
   rintro b y ⟨j,rfl⟩
   cases M:pf g.length a with
   |false=>exact aI ⟨by show 1<=Τ;decide,qE M _ _ _ X.e j⟩
   | true =>
    refine aH ⟨l,a,Λ,?_⟩
    rcases d with d|d
    ·exact .inl ⟨j.seq d,λt J=>q M t _ (j.new J) (Fn.of ET)⟩
    ·exact .inr ⟨bM j d,q M l _ j (bM j d)⟩
theorem YJ:ap ["word"] ["word"] (ag yq):=L2.F4
theorem B1(F:F0 K "is_word" "is_word" yq f fd)(T:Txt mg)(a:mg "is_whole"=Α (.ref fh))(c:Ϩ K (.ref fh)=Δ)(d:Binds K dh ["value"] [])(G:EW P w K mg μ aL 1 fh dh ["value"] gr):
  EW P w K mg μ aL 2 f fd ["word"] tW:=by
 refine F.ok YJ λ_ _ _ s H _ Q E e h=>?_
 obtain⟨v,rfl,g,q⟩:=h
 refine⟨_,ah (az (gi (au G e Λ a c d .nil aw (aa (pv 0) ac)) (gh (dq lC (aF Ay Λ T.abs PyProof.Rows.boot_abs (aa (pv 0) ac)) (ax zb ae ae) (aq _))))),?_⟩
 cases g with
 |int i=>exact⟨_,Λ,.int i,Δ,Λ,aI ⟨i,Λ,_,_,Λ,Λ,⟨by decide,by decide,by decide⟩,_,_,Λ,Λ,q⟩⟩
 |bl b=>exact⟨_,Λ,.bl b,Ε,Λ,aH q⟩
 |Fp=>exact⟨_,Λ,.Fp,Ε,Λ,aH q⟩
end K83
namespace L2
open PySem PySem.Spec PyProof.Rows
structure KI(K:Ϣ)(x qual:Str)(st:Ã)(f:Ν)(fd:ë):Prop where
 ex:∃(oc:Ο)(od:Option Ν)(dV kV doc pm:Ο)(an:Option Ν)(cdv ct:Ο)(JM:Array (Option Ο)),
  fd=xi x qual (cp st) (aJ st) (ag st) dV kV doc pm an cdv ct/\K.lookup f=Α ⟨oc,od,.func fd,JM⟩/\x4 K cdv qual=Δ
 kp:Ϩ K (.ref f)=Δ
theorem KI.KD{K:Ϣ}{b:Bool}{x qual:Str}{st:Ã}{f:Ν}{fd:ë}{N ps:List Str}{k:Nat}{sp:Sp}(F:KI K x qual st f fd)(S:ap N ps (ag st))(len:∀vs H Q E,sp vs H Q E->vs.length=ps.length)
  (Ij:∀(cdv:Ο)(A:é)(outer:List Env)(s:Ω)(H:Hp)(vs:List V)(Q:VK)(E:XK),Fj k (A.deeper (gw qual (ag st) s.heap.objs.size f cdv))->sp vs H Q E->
   ∃t,Ib (jk (oY b P w) P w K mg μ N qual (ag st) f cdv A outer s H E) (aJ st) t/\t {nx:=λ_ H'=>Q .Fp H',rt:=Q} (start N vs) H):EW P w K mg μ (oY b P w) (k+1) f fd ps sp:=by
 obtain⟨oc,od,dV,kV,doc,pm,an,cdv,ct,JM,rfl,lk,Jf⟩:=F.ex
 exact Ae lk Jf S len λA outer s H vs Q E hr La=>Ij cdv A outer s H vs Q E hr La
end L2
namespace K83
open PySem L2
variable {P:Program}{w:À}{K:Ϣ}{mg:Str->Option Ο}{μ:ò}
abbrev Wf:=Nat->Nat->Option Nat->List Nat
abbrev TJ:=Hp->Ν->Nat->Wf->Prop
def NL:HO->Prop
 |.π _=>False
 |.ρ _ _ []=>False
 |.Ms _=>False
 |_=>True
def FD(H H':Hp):Prop:=∀b o,H b=Α o->NL o->H' b=Α o
theorem EU.Fw(s:EU H H'):FD H H':=λb o e _=>s b o e
theorem FD.trans(a:FD H H1)(b:FD H1 H2):FD H H2:=λx o e n=>b x o (a x o e n) n
theorem FD.L7(k:FD H H')(h:F6 H vs ps):F6 H' vs ps:=F6.imp (λ_ _ ⟨t,e,q⟩=>⟨t,e,k _ _ q È⟩) h
structure Hh(c:Cs)(C:Ν)(J:TJ)(H:Hp)(x lx F1 lt:Ν)(n:Nat)(Fo:List V)(ps:List (Int×Int))(wy:Wf):Prop where
 j:J H x n wy
 i:∃dx fs,H x=Α (.ρ C dx fs)/\fs.lookup ("land":Str)=Α (.ref lx)/\fs.lookup ("ways":Str)=Β
 l:fX H c lx F1 lt (n:Int) Fo ps
 G0:n<=12
 F3:ps.length<=40
 ok:∀p g k,p<n->g<n->∀z∈wy p g k,z<ps.length
structure Wy(K:Ϣ)(C fw:Ν)(dw:ë)(J:TJ):Prop where
 cl:IK K C
 nl:Ft K C "land"
 m:ck K C "ways" fw
 b:Binds K dw ["self","place","goal","came"] []
 Ho:∀H H' x n wy,J H x n wy->FD H H'->J H' x n wy
theorem Hh.keep(W:Wy K C fw dw J)(h:Hh c C J H x lx F1 lt n Fo ps wy)(k:FD H H'):Hh c C J H' x lx F1 lt n Fo ps wy:=
 ⟨W.Ho _ _ _ _ _ h.j k,let ⟨dx,fs,h1,h2⟩:=h.i;⟨dx,fs,k _ _ h1 (by cases fs with|nil=>cases h2.1|cons _ _=>exact È),h2⟩,⟨k _ _ h.l.1 È,k _ _ h.l.2.1 È,k.L7 h.l.2.2⟩,h.G0,h.F3,h.ok⟩
inductive iR(J:TJ)(vs:List V)(H:Hp)(Q:VK)(E:XK):Prop
 |mk (x:Ν) (n:Nat) (wy:Wf) (p g:Nat) (k:Option Nat) (_:vs=[.ref x,.int p,.int g,cV k]) (_:J H x n wy) (_:p<n) (_:g<n) (_:∀(D:Ν)(H':Hp),EU H H'->H D=Β->H' D=Α (.π (nV (wy p g k)))->Q (.ref D) H')
structure fB where
 r:Int
 b:Int
 h:Option Int
 qs:List (Int×Int)
structure eJ where
 start:Int
 ι:Int
 len:Int
 word:Int
 δ:Int
 ω:List Nat
structure YS where
 rooms:List V
 γ:List fB
 EV:List eJ
 ε:List (List (Int×Int))
 done:List (List V)
structure Ys where
 Fb:Ν
 Fu:Ν
 EY:Ν
 ex:List Ν
def Io(H:Hp)(C:Ν)(ex:List Ν)(v:V)(s:fB):Prop:=∃x dx pa F2,v=.ref x/\Fy H C x dx pa s.r s.b s.h F2 s.qs/\pa∉ex
noncomputable def uQ(s:eJ)(wa:Ν):Fs:=[("start",.int s.start),("goal",.int s.ι),("length",.int s.len),("word",.int s.word),("gone",.int s.δ),("way",.ref wa)]
def IZ(H:Hp)(C:Ν)(ex:List Ν)(v:V)(s:eJ):Prop:=∃x dx wa,v=.ref x/\H x=Α (.ρ C dx (uQ s wa))/\H wa=Α (.π (nV s.ω))/\wa∉ex
def Hi(H:Hp)(v:V)(qs:List (Int×Int)):Prop:=∃t vs,v=.ref t/\H t=Α (.tup vs)/\F6 H vs qs
def Hl(H:Hp)(v:V)(m:List V):Prop:=∃t,v=.ref t/\H t=Α (.tup m)
def Fm(ex:List Ν)(H H':Hp):Prop:=∀b o,b∉ex->H b=Α o->H' b=Α o
theorem EU.F8(s:EU H H'):Fm ex H H':=λb o _ e=>s b o e
theorem Fm.trans(a:Fm ex H H1)(b:Fm ex H1 H2):Fm ex H H2:=λx o n e=>b x o n (a x o n e)
theorem F6.F8(c:∀b∈ex,∃xs,H b=Α (.π xs))(o:Fm ex H H')(h:F6 H vs ps):F6 H' vs ps:=
 F6.imp (λ_ _ d=>by obtain⟨t,e,q⟩:=d;exact⟨t,e,o _ _ (λz=>by obtain⟨xs,a⟩:=c _ z;rw[q]at a;cases a) q⟩) h
theorem Fm.N7(c:∀b∈ex,∃o,H b=Α o/\¬NL o)(o:Fm ex H H'):FD H H':=λb u e n=>o b u (λz=>by obtain⟨f,a,d⟩:=c _ z;rw[e]at a;cases a;exact d n) e
theorem Fm.Fw(a:∀b∈ex,∃xs,H b=Α (.π xs))(o:Fm ex H H'):FD H H':=o.N7 λb c=>let ⟨xs,hz⟩:=a b c;⟨_,hz,id⟩
theorem Io.F8(a:∀b∈ex,∃xs,H b=Α (.π xs))(o:Fm ex H H')(h:Io H C ex v s):Io H' C ex v s:=by
 obtain⟨x,c,d,f,e,L,n⟩:=h
 have k:=o.Fw a
 exact⟨x,c,d,f,e,⟨k _ _ L.ρ È,o _ _ n L.π,F6.F8 a o L.GS⟩,n⟩
theorem IZ.F8(a:∀b∈ex,∃xs,H b=Α (.π xs))(o:Fm ex H H')(h:IZ H C ex v s):IZ H' C ex v s:=by
 obtain⟨x,c,d,e,f,g,n⟩:=h
 exact⟨x,c,d,e,o.Fw a _ _ f È,o _ _ n g,n⟩
theorem Hi.keep(k:FD H H')(h:Hi H v qs):Hi H' v qs:=by
 obtain⟨t,a,e,b,c⟩:=h
 exact⟨t,a,e,k _ _ b È,k.L7 c⟩
theorem Hl.keep(k:FD H H')(h:Hl H v m):Hl H' v m:=by
 obtain⟨t,e,a⟩:=h
 exact⟨t,e,k _ _ a È⟩
noncomputable def VG(tb ro la le li dn:Ν):Fs:=[("table",.ref tb),("rooms",.ref ro),("lanes",.ref la),("letters",.ref le),("lies",.ref li),("done",.ref dn)]
structure Fq(K:Ϣ)(ys:Ys)(H:Hp)(y dy tb ro la le li dn:Ν)(s:YS):Prop where
 ρ:H y=Α (.ρ ys.Fb dy (VG tb ro la le li dn))
 hro:Fn K H ro s.rooms
 GX:∃vs,H la=Α (.π vs)/\Paired (Io H ys.Fu (la:: le:: li:: dn:: ys.ex)) vs s.γ
 χ:∃vs,H le=Α (.π vs)/\Paired (IZ H ys.EY (la:: le:: li:: dn:: ys.ex)) vs s.EV
 Jl:∃vs,H li=Α (.π vs)/\Paired (Hi H) vs s.ε
 HI:∃vs,H dn=Α (.π vs)/\Paired (Hl H) vs s.done
 ne:[la,le,li,dn].Nodup
 hex:∀b∈ys.ex,∃xs,H b=Α (.π xs)
theorem Fq.Kb(h:Fq K ys H y dy tb ro la le li dn s):∀b∈[la,le,li,dn],∃xs,H b=Α (.π xs):=by
 intro b a
 obtain⟨g,c,_⟩:=h.GX
 obtain⟨i,d,_⟩:=h.χ
 obtain⟨j,e,_⟩:=h.Jl
 obtain⟨l,f,_⟩:=h.HI
 simp only[ύ,ϡ,or_false]at a
 rcases a with rfl|rfl|rfl|rfl
 ·exact⟨_,c⟩
 ·exact⟨_,d⟩
 ·exact⟨_,e⟩
 ·exact⟨_,f⟩
theorem Fq.Kw(h:Fq K ys H y dy tb ro la le li dn s):∀b∈la:: le:: li:: dn:: ys.ex,∃xs,H b=Α (.π xs):=by
 intro b a
 have e:la:: le:: li:: dn:: ys.ex=[la,le,li,dn]++ys.ex:=rfl
 rw[e]at a
 rcases ϝ.mp a with a|a
 ·exact h.Kb b a
 ·exact h.hex b a
theorem Fq.same(h:Fq K ys H y dy tb ro a le li dn s)(e:EU H H'):Fq K ys H' y dy tb ro a le li dn s:=by
 have c:=h.Kw
 obtain⟨d,f,g⟩:=h.GX
 obtain⟨i,j,l⟩:=h.χ
 obtain⟨m,n,p⟩:=h.Jl
 obtain⟨q,r,t⟩:=h.HI
 have o:Fm (a:: le:: li:: dn:: ys.ex) H H':=EU.F8 e
 exact⟨e _ _ h.ρ,bM e h.hro,⟨d,e _ _ f,Paired.mono (λ_ _ z=>z.F8 c o) g⟩,⟨i,e _ _ j,Paired.mono (λ_ _ z=>z.F8 c o) l⟩,⟨m,e _ _ n,Paired.mono (λ_ _ z=>z.keep (EU.Fw e)) p⟩,⟨q,e _ _ r,Paired.mono (λ_ _ z=>z.keep (EU.Fw e)) t⟩,h.ne,λb u=>let ⟨xs,hz⟩:=h.hex b u;⟨xs,e _ _ hz⟩⟩
structure mB(K:Ϣ)(ys:Ys):Prop where
 cl:IK K ys.Fb
 n1:Ft K ys.Fb "table"
 n2:Ft K ys.Fb "rooms"
 n3:Ft K ys.Fb "lanes"
 n4:Ft K ys.Fb "letters"
 n5:Ft K ys.Fb "lies"
 n6:Ft K ys.Fb "done"
 ct:IK K ys.EY
 t1:Ft K ys.EY "start"
 t2:Ft K ys.EY "goal"
 t3:Ft K ys.EY "length"
 t4:Ft K ys.EY "word"
 t5:Ft K ys.EY "gone"
 t6:Ft K ys.EY "way"
 L:CP K ys.Fu
inductive vm(C:Ν)(vs:List V)(H:Hp)(Q:VK)(E:XK):Prop
 |mk (x dx:Ν) (a b l u:Int) (_:vs=[.ref x,.int a,.int b,.int l,.int u]) (_:H x=Α (.ρ C dx [])) (_:∀(wa:Ν)(H':Hp),H wa=Β->(∀z o,z≠x->H z=Α o->H' z=Α o)->H' x=Α (.ρ C dx (uQ ⟨a,b,l,u,0,[]⟩ wa))->H' wa=Α (.π (nV []))->Q .Fp H')
theorem Sm:ap ["self","start","goal","length","word"] ["self","start","goal","length","word"] (ag yC):=L2.F4
theorem Ee(F:F0 K "__init__" "Letter.__init__" yC f fd)(Y:mB K ys):EW P w K mg μ aL 1 f fd ["self","start","goal","length","word"] (vm ys.EY):=by
 refine F.ok Sm λ_ _ _ s H _ Q E r h=>?_
 obtain⟨x,d,a,b,l,u,rfl,p,q⟩:=h
 refine⟨_,ad (bE (pv 0) (pv 1) Λ) (ad (bE (pv 0) (pv 2) Λ) (ad (bE (pv 0) (pv 3) Λ) (ad (bE (pv 0) (pv 4) Λ) (ad (bE (pv 0) ae Λ) (ah (bE (pv 0) (aP ac) Λ)))))),x,ys.EY,d,_,Λ,p,Y.ct,Y.t1,by show 0<1000;decide,x,ys.EY,d,_,Λ,ET,Y.ct,Y.t2,by show 1<1000;decide,x,ys.EY,d,_,Λ,ET,Y.ct,Y.t3,by show 2<1000;decide,x,ys.EY,d,_,Λ,ET,Y.ct,Y.t4,by show 3<1000;decide,x,ys.EY,d,_,Λ,ET,Y.ct,Y.t5,by show 4<1000;decide,Ä _,λi j=>?_⟩
 have c:=ai ET j
 refine⟨x,ys.EY,d,_,Λ,by rw[af c];exact ET,Y.ct,Y.t6,by show 5<1000;decide,?_⟩
 have n:H i=Β:=by
  rw[af (ϧ c),af (ϧ c),af (ϧ c),af (ϧ c),af (ϧ c)]at j
  exact j
 refine q i _ n (λz o g e=>?_) ET (by rw[af (ϧ c)];exact ET)
 have m:=ai e n
 rw[af g,af m,af g,af g,af g,af g,af g]
 exact e
noncomputable def vI:V->Int
 |.int i=>i
 |_=>0
noncomputable def wX(v:V):fB:=⟨vI v,0,Β,[]⟩
noncomputable def Y0(rooms:List V)(n:Nat):YS:=⟨rooms,rooms.map wX,[],è n [],[]⟩
def HN(H0 H:Hp)(C:Ν)(v:V)(s:fB):Prop:=∃x dx pa,v=.ref x/\Fy H C x dx pa s.r s.b s.h [] []/\s.qs=[]/\H0 x=Β/\H0 pa=Β
theorem HN.same(h:HN H0 H C v s)(e:EU H H'):HN H0 H' C v s:=by
 obtain⟨x,a,b,c,d,f⟩:=h
 exact⟨x,a,b,c,d.same e,f⟩
def FF(y:Ν)(ex:List Ν)(H:Hp)(C:Ν)(v:V)(s:fB):Prop:=∃x dx pa,v=.ref x/\Fy H C x dx pa s.r s.b s.h [] []/\s.qs=[]/\x≠y/\pa≠y/\pa∉ex
theorem HN.So(h:HN H0 H C v s)(c:H0 y=Α u)(f:∀b∈ex,∃o,H0 b=Α o):FF y ex H C v s:=by
 obtain⟨x,g,i,j,l,m,d,a⟩:=h
 exact⟨x,g,i,j,l,m,(λz=>by rw[z,c]at d;cases d),(λz=>by rw[z,c]at a;cases a),λz=>by obtain⟨o,e⟩:=f _ z;rw[a]at e;cases e⟩
theorem FF.same(h:FF y ex H C v s)(e:EU H H'):FF y ex H' C v s:=by
 obtain⟨x,a,b,c,d,f⟩:=h
 exact⟨x,a,b,c,d.same e,f⟩
theorem FF.ο(h:FF y ex H C v s):FF y ex (ο H y o) C v s:=by
 obtain⟨x,d,e,f,a,g,b,c,i⟩:=h
 exact⟨x,d,e,f,⟨by rw[af b];exact a.ρ,by rw[af c];exact a.π,.nil⟩,g,b,c,i⟩
theorem FF.new(h:FF y ex H C v s)(b:H a=Β):FF y (a:: ex) (L2.ο H a o) C v s:=by
 obtain⟨x,d,e,f,c,g,i,j,l⟩:=h
 exact⟨x,d,e,f,c.same ((EU.refl H).new b),g,i,j,λz=>(ύ.mp z).elim (λz=>by rw[z]at c;rw[c.π]at b;cases b) l⟩
theorem FF.Sr(h:FF y ex H C v s)(b:∀a∈PM,a∈ex):Io H C PM v s:=by
 obtain⟨x,c,d,e,f,g,j,l,i⟩:=h
 exact⟨x,c,d,[],e,by rw[g];exact f,λz=>i (b _ z)⟩
theorem uY(A:Fl.length<Τ)(m:Fn K H ro Fl)(f:∀v∈Fl,∃r,v=.int r)
  (B:∀(r:Int)(a:Hp)(N:V->Hp->Prop),EU H a->(∀x n j c,a x=Β->a j=Β->EU a c->Fy c C x n j r 0 Β [] []->N (.ref x) c)->g (.int r) σ0 a λo c=>te o c N)
  (E:∀D p a,EU H a->a D=Β->Paired (HN H a C) p (Fl.map wX)->Q (.ref D) (ο a D (.π p))):ge (Vs K ro) g tU te σ0 Q H:=by
 refine b8 Fl.length A (λi acc d=>EU H d/\Paired (HN H d C) acc ((Fl.take i).map wX)) ⟨EU.refl _,.nil⟩ (λi acc d h=>by have:=Paired.length h.2;rw[this,Μ];exact æ _ _) (λi acc d F h=>?_) (λacc d h=>?_)
 ·obtain⟨s,l⟩:=h
  refine⟨⟨Fl,Fl[i],bM s m,by simp[F]⟩,λv c y=>?_⟩
  obtain⟨e,y⟩:=y
  subst e
  have q:=y _ (bM s m)
  obtain⟨r,rfl⟩:=f v (Ϫ q)
  refine B r c (λy t=>EU H t/\Paired (HN H t C) (acc++[y]) ((Fl.take (i+1)).map wX)) s λx n j M G I u J=>⟨s.trans u,?_⟩
  rw[í,q,QV,ϗ]
  exact Paired.snoc (b:=wX (.int r)) ⟨x,n,j,Λ,J,Λ,s.free G,s.free I⟩ (Paired.mono (λ_ _ z=>z.same u) l)
 ·obtain⟨s,l⟩:=h
  rw[Ó]at l
  exact⟨⟨Fl,bM s m,ϛ _⟩,λD L=>E D acc d s L l⟩
theorem xq(x:n<=1000)
  (m:∀(i:Nat)(a:Hp)(N:V->Hp->Prop),EU H a->(∀t,a t=Β->N (.ref t) (ο a t (.tup [])))->g (.int (0+i)) σ0 a λd c=>te d c N)
  (o:∀D f a,EU H a->a D=Β->Paired (Hi a) f (è n [])->Q (.ref D) (ο a D (.π f))):ge (Ct 0 n) g tU te σ0 Q H:=by
 refine b8 n (by rw[Χ];omega) (λi acc b=>EU H b/\Paired (Hi b) acc (è i [])) ⟨EU.refl _,.nil⟩ (λi acc b h=>by have:=Paired.length h.2;rw[this,Ŕ];exact ϛ _) (λi acc b p h=>?_) (λacc b h=>?_)
 ·obtain⟨s,e⟩:=h
  refine⟨p,λv c y=>?_⟩
  obtain⟨q,r⟩:=y
  subst q r
  refine m i c (λy j=>EU H j/\Paired (Hi j) (acc++[y]) (è (i+1) [])) s λt l=>⟨s.new l,?_⟩
  rw[List.replicate_succ']
  exact Paired.snoc ⟨t,[],Λ,ET,.nil⟩ (Paired.mono (λ_ _ z=>z.keep (EU.Fw ((EU.refl c).new l))) e)
 ·obtain⟨s,e⟩:=h
  exact⟨ϛ n,λD u=>o D acc b s u e⟩
theorem iQ{fs:Fs}(b:H y=Α (.ρ C d fs))(h:Fn K H a xs):Fn K (ο H y o) a xs:=by
 rcases h with h|h
 ·refine .inl ?_
  rcases h with h|⟨u,h⟩
  ·exact .inl (by rw[af (bH h b (by intro z;cases z))];exact h)
  ·exact .inr ⟨u,by rw[af (bH h b (by intro z;cases z))];exact h⟩
 ·exact .inr h
theorem AY{fs:Fs}(b:H y=Α (.ρ C d fs))(h:EX K H a xs):EX K (ο H y o) a xs:=by
 rcases h with h|h
 ·refine .inl ?_
  rcases h with h|⟨u,h⟩
  ·exact .inl (by rw[af (bH h b (by intro z;cases z))];exact h)
  ·exact .inr ⟨u,by rw[af (bH h b (by intro z;cases z))];exact h⟩
 ·exact .inr h
def RfE(K:Ϣ)(x:Xc)(E:XK)(H:Hp)(ex:List Ν):Prop:=∀cl dd H',PySem.W.exmOne K cl (.ref x.yc)=Α Δ->Fm ex H H'->E cl dd H'
inductive mU(K:Ϣ)(c:Cs)(x:Xc)(TC:Ν)(J:TJ)(ys:Ys)(vs:List V)(H:Hp)(Q:VK)(E:XK):Prop
 |mk (y dy tb lx F1 lt:Ν) (n:Nat) (Fo:List V) (ps:List (Int×Int)) (wy:Wf) (rv:V) (Fl:List V) (_:vs=[.ref y,.ref tb,rv]) (_:H y=Α (.ρ ys.Fb dy [])) (_:Hh c TC J H tb lx F1 lt n Fo ps wy) (_:(∀b∈ys.ex,∃xs,H b=Α (.π xs))) (_:((rv=.Fp/\Fl=è ps.length (.int 1))∨(∃ra,rv=.ref ra/\Sq K H ra Fl/\Fl.length<=1000/\(∀v∈Fl,tH v)/\(pf ps.length Fl=Ε->RfE K x E H [y])))) (_:(pf ps.length Fl=Δ->∀(ro la le li dn:Ν)(H':Hp),Fm [y] H H'->H la=Β->H le=Β->H li=Β->H dn=Β->Fq K ys H' y dy tb ro la le li dn (Y0 Fl n)->Q .Fp H'))
noncomputable def Ss(s:Ã):Scope:=match s with
 |.Assign _ (.ListComp _ _ sc _) _=>sc
 |_=>zQ0
theorem hZ(h:kX v a b=Δ):∃r,v=.int r:=by
 cases v<;>first|exact⟨_,Λ⟩|cases h
theorem YK:ap ["self","table","rooms"] ["self","table","rooms"] (ag kO):=L2.F4
theorem Su:FQ ["self","table","rooms"] (ag kO) (Ss ((aJ kO).getD 2 (.Pass ⟨0,0,0,0⟩))) [] []:=L2.GR
theorem Sv:FQ ["self","table","rooms"] (ag kO) (Ss ((aJ kO).getD 4 (.Pass ⟨0,0,0,0⟩))) [] []:=L2.GR
theorem Sw:(["place"]:List Str).Nodup:=by decide +kernel
theorem DV(F:KI K "__init__" "Yard.__init__" kO f fd)(T:Txt mg)(L:tI K c)(Y:mB K ys)(W:Wy K TC VH VI J)
  (mr:mg "rooms_of"=Α (.ref fr)) (kr:Ϩ K (.ref fr)=Δ) (br:Binds K dr ["land","rooms"] []) (Gr:EW P w K mg μ (ix P w) 3 fr dr ["land","rooms"] (qo K c x))
  (ml:mg "Lane"=Α (.ref ys.Fu)) (Ml:Mk K ys.Fu fl) (bl:Binds K dl ["self","room"] []) (Gl:EW P w K mg μ aL 1 fl dl ["self","room"] (vn ys.Fu)):
  EW P w K mg μ (ix P w) 4 f fd ["self","table","rooms"] (mU K c x TC J ys):=by
 refine F.KD YK (λ_ _ _ _ h=>?_) (λ_ _ _ s H _ Q E hr h=>?_)
 ·obtain⟨y,j,tb,lx,F1,lt,n,Fo,ps,wy,rv,A,rfl,_⟩:=h
  rfl
 ·obtain⟨y,j,tb,lx,F1,lt,n,Fo,ps,wy,rv,A,rfl,hy,hT,hex,Sy,q⟩:=h
  have Ld:∀b∈ys.ex,b∉[y]:=λb I z=>by obtain⟨xs,hz⟩:=hex b I;rw[ϋ.mp z,hy]at hz;cases hz
  have G6:Fj 2 _:=hr.mono (by decide)
  refine⟨_,ad (bE (pv 0) (pv 1) Λ)
   (ad (bE (pv 0) (iY (au Gr hr Λ mr kr br .nil (Fg.passes Λ) (aa (ao (pv 1) Λ) (aa (pv 2) ac)))) Λ)
   (ad (bE (pv 0) (aV (own:=["room"]) (capN:=[]) (cap:=[]) Su Λ (kS (ao (pv 0) Λ)) (λC s' H' fp=>⟨aE (i:=0) Sl Λ (ό Λ),bB,eO Ml Gl G6 Λ ml bl .nil aw (aa (pv 0) ac)⟩)) Λ)
   (ad (bE (pv 0) (aP ac) Λ)
   (ad (bE (pv 0) (aV (own:=["place"]) (capN:=[]) (cap:=[]) Sv Λ (b6 Λ T.range (aa (ao (ao (pv 1) Λ) Λ) ac)) (λC s' H' fp=>⟨aE (i:=0) Sw Λ (ό Λ),bB,bF ac⟩)) Λ)
   (ah (bE (pv 0) (aP ac) Λ)))))),?_⟩
  have YL:=hT.F3
  have Sz:=hT.G0
  obtain⟨JO,fst,JA,FK,_⟩:=hT.i
  have kp:∀{H':Hp},Fm [y] H H'->FD H H':=λo=>o.N7 λb I=>by rw[ϋ.mp I];exact⟨_,hy,id⟩
  have ntb:=bH JA hy (λz=>by injection z with _ _ z3;rw[z3]at FK;cases FK)
  refine⟨y,ys.Fb,j,_,Λ,hy,Y.cl,Y.n1,by show 0<1000;decide,?_⟩
  have o1:Fm [y] H (ο H y (.ρ ys.Fb j (aT "table" (.ref tb) []))):=λb o nb e=>by rw[af (λz=>nb (by rw[z];exact ϋ.mpr Λ))];exact e
  have g1:(ο H y (.ρ ys.Fb j (aT "table" (.ref tb) []))) y=Α (.ρ ys.Fb j [("table",.ref tb)]):=ET
  have sq1:∀ra,Sq K H ra A->Sq K (ο H y (.ρ ys.Fb j (aT "table" (.ref tb) []))) ra A:=λra h=>h.elim (λh =>.inl (AY hy h)) λh =>.inr (iQ hy h)
  generalize ο H y (.ρ ys.Fb j (aT "table" (.ref tb) []))=A1 at o1 g1 sq1⊢
  have hT1:=hT.keep W (kp o1)
  have Ql:∀{Ha Hb:Hp}{o:HO},Fm [y] Ha Hb->Fm [y] Ha (ο Hb y o):=λ{Ha Hb o} h b u nb e=>by rw[af (λz=>nb (by rw[z];exact ϋ.mpr Λ))];exact h b u nb e
  refine⟨λv O=>∃m,v=.ref m/\EU A1 O/\Fn K O m A/\pf ps.length A=Δ,?_,?_⟩
  ·refine⟨tb,TC,JO,fst,_,Λ,o1 _ _ (λz=>ntb (ϋ.mp z)) JA,W.cl,W.nl,FK,lx,F1,lt,(n:Int),Fo,ps,rv,Λ,hT1.l,by omega,?_⟩
   rcases Sy with ⟨rfl,rfl⟩|⟨ra,rfl,hR,KG,MH,qE⟩
   ·refine .inl ⟨Λ,λt O s2 ht=>⟨t,Λ,s2,Fn.of ht,?_⟩⟩
    unfold pf
    rw[Ŕ,Ζ Λ,Ý,Ā]
    intro v hv
    rw[Oc hv];rfl
   ·have hR1:=sq1 ra hR
    exact .inr ⟨ra,A,Λ,hR1,KG,MH,λI cl dd H' e s=>qE I cl dd H' e (o1.trans (EU.F8 s)),λFi t O s2 ht=>⟨t,Λ,s2,ht,Fi⟩⟩
  rintro v O ⟨m,rfl,s2,hro,Fi⟩
  have GH:A.length=ps.length/\∀v∈A,∃r,v=.int r:=by
   unfold pf at Fi
   rw[ϫ,decide_eq_true_eq,Ā]at Fi
   exact⟨Fi.1,λv hv=>hZ (Fi.2 v hv)⟩
  have o2:=o1.trans (EU.F8 s2)
  have g2:=s2 _ _ g1
  refine⟨y,ys.Fb,j,_,Λ,g2,Y.cl,Y.n2,by show 1<1000;decide,?_⟩
  have o3:=Ql (o:=.ρ ys.Fb j (aT "rooms" (.ref m) [("table",.ref tb)])) o2
  have g3:(ο O y (.ρ ys.Fb j (aT "rooms" (.ref m) [("table",.ref tb)]))) y=Α (.ρ ys.Fb j [("table",.ref tb),("rooms",.ref m)]):=ET
  have MK:Fn K (ο O y (.ρ ys.Fb j (aT "rooms" (.ref m) [("table",.ref tb)]))) m A:=iQ g2 hro
  generalize ο O y (.ρ ys.Fb j (aT "rooms" (.ref m) [("table",.ref tb)]))=A3 at o3 g3 MK⊢
  have YM:∀b∈ys.ex,∃o,A3 b=Α o:=λb I=>let ⟨xs,hz⟩:=hex b I;⟨_,o3 b _ (Ld b I) hz⟩
  refine⟨y,ys.Fb,j,_,_,Λ,g3,Y.cl,Y.n2,Λ,m,Λ,⟨_,MK⟩,?_⟩
  refine uY (C:=ys.Fu) (by rw[Χ];omega) MK GH.2 (λr B N sB hN=>?_) (λg D R s4 GX S0=>?_)
  ·refine(λx dx nx ML Ld=>⟨x,dx,r,Λ,ET,λpa B2 KH off hL=>⟨Λ,?_⟩⟩)
   have J9:B pa=Β:=by
    by_cases e1:pa=x
    ·rw[e1,ET]at KH;cases KH
    ·by_cases e2:pa=dx
     ·rw[e2,af Ld,ET]at KH;cases KH
     ·rw[af e1,af e2]at KH;exact KH
   refine hN x dx pa B2 nx J9 (λb o e=>off b o (ai e nx) ?_) hL
   rw[af (ai e nx),af (ai e ML)]
   exact e
  have o4:=o3.trans (EU.F8 s4)
  have g4:=s4 _ _ g3
  have N8:=ϧ (ai g4 GX)
  have la0:H g=Β:=by
   cases e:H g with
   |none=>rfl
   |some u=>rw[o4 _ _ (λz=>N8 (ϋ.mp z)) e]at GX;cases GX
  have hX5:Paired (FF y (g:: ys.ex) (ο R g (.π D)) ys.Fu) D (A.map wX):=Paired.mono (λ_ _ z=>(z.So g3 YM).new GX) S0
  have o5:Fm [y] H (ο R g (.π D)):=o4.trans (EU.F8 ((EU.refl R).new GX))
  have g5:(ο R g (.π D)) y=Α (.ρ ys.Fb j [("table",.ref tb),("rooms",.ref m)]):=by rw[af (ϧ N8)];exact g4
  have S1:(ο R g (.π D)) g=Α (.π D):=ET
  have S2:Fn K (ο R g (.π D)) m A:=bM ((EU.refl R).new GX) (bM s4 MK)
  refine⟨y,ys.Fb,j,_,Λ,g5,Y.cl,Y.n3,by show 2<1000;decide,?_⟩
  generalize ο R g (.π D)=A5 at hX5 o5 g5 S1 S2⊢
  have hX6:Paired (FF y (g:: ys.ex) (ο A5 y (.ρ ys.Fb j (aT "lanes" (.ref g) [("table",.ref tb),("rooms",.ref m)]))) ys.Fu) D (A.map wX):=Paired.mono (λ_ _ z=>z.ο) hX5
  have o6:=Ql (o:=.ρ ys.Fb j (aT "lanes" (.ref g) [("table",.ref tb),("rooms",.ref m)])) o5
  have g6:(ο A5 y (.ρ ys.Fb j (aT "lanes" (.ref g) [("table",.ref tb),("rooms",.ref m)]))) y=Α (.ρ ys.Fb j [("table",.ref tb),("rooms",.ref m),("lanes",.ref g)]):=ET
  have OD:(ο A5 y (.ρ ys.Fb j (aT "lanes" (.ref g) [("table",.ref tb),("rooms",.ref m)]))) g=Α (.π D):=by rw[af N8];exact S1
  have S3:=iQ (o:=.ρ ys.Fb j (aT "lanes" (.ref g) [("table",.ref tb),("rooms",.ref m)])) g5 S2
  generalize ο A5 y (.ρ ys.Fb j (aT "lanes" (.ref g) [("table",.ref tb),("rooms",.ref m)]))=S at hX6 o6 g6 OD S3⊢
  refine⟨Ä _,λle G=>?_⟩
  have OE:=ϧ (ai g6 G)
  have N9:=ai OD G
  have le0:H le=Β:=by
   cases e:H le with
   |none=>rfl
   |some u=>rw[o6 _ _ (λz=>OE (ϋ.mp z)) e]at G;cases G
  have hX7:Paired (FF y (le:: g:: ys.ex) (ο S le (.π [])) ys.Fu) D (A.map wX):=Paired.mono (λ_ _ z=>z.new G) hX6
  have o7:Fm [y] H (ο S le (.π [])):=o6.trans (EU.F8 ((EU.refl S).new G))
  have g7:(ο S le (.π [])) y=Α (.ρ ys.Fb j [("table",.ref tb),("rooms",.ref m),("lanes",.ref g)]):=by rw[af (ϧ OE)];exact g6
  have S4:(ο S le (.π [])) g=Α (.π D):=by rw[af N9];exact OD
  have S5:(ο S le (.π [])) le=Α (.π []):=ET
  have S6:Fn K (ο S le (.π [])) m A:=bM ((EU.refl S).new G) S3
  refine⟨y,ys.Fb,j,_,Λ,g7,Y.cl,Y.n4,by show 3<1000;decide,?_⟩
  generalize ο S le (.π [])=A7 at hX7 o7 g7 S4 S5 S6⊢
  have hX8:Paired (FF y (le:: g:: ys.ex) (ο A7 y (.ρ ys.Fb j (aT "letters" (.ref le) [("table",.ref tb),("rooms",.ref m),("lanes",.ref g)]))) ys.Fu) D (A.map wX):=Paired.mono (λ_ _ z=>z.ο) hX7
  have o8:=Ql (o:=.ρ ys.Fb j (aT "letters" (.ref le) [("table",.ref tb),("rooms",.ref m),("lanes",.ref g)])) o7
  have g8:(ο A7 y (.ρ ys.Fb j (aT "letters" (.ref le) [("table",.ref tb),("rooms",.ref m),("lanes",.ref g)]))) y=Α (.ρ ys.Fb j [("table",.ref tb),("rooms",.ref m),("lanes",.ref g),("letters",.ref le)]):=ET
  have OF:(ο A7 y (.ρ ys.Fb j (aT "letters" (.ref le) [("table",.ref tb),("rooms",.ref m),("lanes",.ref g)]))) g=Α (.π D):=by rw[af N8];exact S4
  have OG:(ο A7 y (.ρ ys.Fb j (aT "letters" (.ref le) [("table",.ref tb),("rooms",.ref m),("lanes",.ref g)]))) le=Α (.π []):=by rw[af OE];exact S5
  have S7:=iQ (o:=.ρ ys.Fb j (aT "letters" (.ref le) [("table",.ref tb),("rooms",.ref m),("lanes",.ref g)])) g7 S6
  generalize ο A7 y (.ρ ys.Fb j (aT "letters" (.ref le) [("table",.ref tb),("rooms",.ref m),("lanes",.ref g)]))=A8 at hX8 o8 g8 OF OG S7⊢
  have hT8:=hT.keep W (kp o8)
  refine⟨tb,TC,JO,fst,_,Λ,o8 _ _ (λz=>ntb (ϋ.mp z)) JA,W.cl,W.nl,FK,lx,c.land,F1,_,_,Λ,hT8.l.1,L.cl,L.np,Λ,(n:Int),Λ,by omega,by omega,?_⟩
  rw[Ϙ]
  refine xq (by omega) (λi B N sB hN=>⟨Ä _,λt ht=>hN t ht⟩) (λp M A9 U Jl hLi=>?_)
  have g9:=U _ _ g8
  have o9:Fm [y] H A9:=o8.trans (EU.F8 U)
  have S8:p≠y:=ϧ (ai g9 Jl)
  have S9:g≠p:=ai (U _ _ OF) Jl
  have SA:le≠p:=ai (U _ _ OG) Jl
  have li0:H p=Β:=by
   cases e:H p with
   |none=>rfl
   |some u=>rw[o9 _ _ (λz=>S8 (ϋ.mp z)) e]at Jl;cases Jl
  have Qm:=(EU.refl A9).new (o:=.π M) Jl
  have SD:Paired (FF y (p:: le:: g:: ys.ex) (ο A9 p (.π M)) ys.Fu) D (A.map wX):=Paired.mono (λ_ _ z=>(z.same U).new Jl) hX8
  have NA:Paired (Hi (ο A9 p (.π M))) M (è n []):=Paired.mono (λ_ _ z=>z.keep (EU.Fw Qm)) hLi
  have NB:(ο A9 p (.π M)) p=Α (.π M):=ET
  have o10:Fm [y] H (ο A9 p (.π M)):=o9.trans (EU.F8 Qm)
  have VJ:=Qm _ _ g9
  have NC:=Qm _ _ (U _ _ OF)
  have NG:=Qm _ _ (U _ _ OG)
  have NH:=bM Qm (bM U S7)
  refine⟨y,ys.Fb,j,_,Λ,VJ,Y.cl,Y.n5,by show 4<1000;decide,?_⟩
  generalize ο A9 p (.π M)=OH at SD NA NB o10 VJ NC NG NH⊢
  have SE:∀{B:Hp}{o:HO}{C d:Ν}{fs:Fs}{v:V}{qs:List (Int×Int)},B y=Α (.ρ C d fs)->Hi B v qs->Hi (ο B y o) v qs:=λ{B o C d fs v qs} hB h=>by
   obtain⟨t,ws,e,h1,h2⟩:=h
   exact⟨t,ws,e,by rw[af (bH h1 hB (by intro z;cases z))];exact h1,F6.imp (λ_ _ Fc=>by obtain⟨t',e',q'⟩:=Fc;exact⟨t',e',by rw[af (bH q' hB (by intro z;cases z))];exact q'⟩) h2⟩
  have SG:Paired (FF y (p:: le:: g:: ys.ex) (ο OH y (.ρ ys.Fb j (aT "lies" (.ref p) [("table",.ref tb),("rooms",.ref m),("lanes",.ref g),("letters",.ref le)]))) ys.Fu) D (A.map wX):=Paired.mono (λ_ _ z=>z.ο) SD
  have NJ:Paired (Hi (ο OH y (.ρ ys.Fb j (aT "lies" (.ref p) [("table",.ref tb),("rooms",.ref m),("lanes",.ref g),("letters",.ref le)])))) M (è n []):=Paired.mono (λ_ _ z=>SE VJ z) NA
  have VL:=Ql (o:=.ρ ys.Fb j (aT "lies" (.ref p) [("table",.ref tb),("rooms",.ref m),("lanes",.ref g),("letters",.ref le)])) o10
  have YN:(ο OH y (.ρ ys.Fb j (aT "lies" (.ref p) [("table",.ref tb),("rooms",.ref m),("lanes",.ref g),("letters",.ref le)]))) y=Α (.ρ ys.Fb j [("table",.ref tb),("rooms",.ref m),("lanes",.ref g),("letters",.ref le),("lies",.ref p)]):=ET
  have L9:(ο OH y (.ρ ys.Fb j (aT "lies" (.ref p) [("table",.ref tb),("rooms",.ref m),("lanes",.ref g),("letters",.ref le)]))) g=Α (.π D):=by rw[af N8];exact NC
  have LA:(ο OH y (.ρ ys.Fb j (aT "lies" (.ref p) [("table",.ref tb),("rooms",.ref m),("lanes",.ref g),("letters",.ref le)]))) le=Α (.π []):=by rw[af OE];exact NG
  have LB:(ο OH y (.ρ ys.Fb j (aT "lies" (.ref p) [("table",.ref tb),("rooms",.ref m),("lanes",.ref g),("letters",.ref le)]))) p=Α (.π M):=by rw[af S8];exact NB
  have NK:=iQ (o:=.ρ ys.Fb j (aT "lies" (.ref p) [("table",.ref tb),("rooms",.ref m),("lanes",.ref g),("letters",.ref le)])) VJ NH
  generalize ο OH y (.ρ ys.Fb j (aT "lies" (.ref p) [("table",.ref tb),("rooms",.ref m),("lanes",.ref g),("letters",.ref le)]))=A11 at SG NJ VL YN L9 LA LB NK⊢
  refine⟨Ä _,λdn X=>?_⟩
  have VM:dn≠y:=ϧ (ai YN X)
  have SH:g≠dn:=ai L9 X
  have SI:le≠dn:=ai LA X
  have SJ:p≠dn:=ai LB X
  have dn0:H dn=Β:=by
   cases e:H dn with
   |none=>rfl
   |some u=>rw[VL _ _ (λz=>VM (ϋ.mp z)) e]at X;cases X
  have Z:=(EU.refl A11).new (o:=.π []) X
  have SK:=Z _ _ YN
  refine⟨y,ys.Fb,j,_,Λ,SK,Y.cl,Y.n6,by show 5<1000;decide,?_⟩
  refine q Fi m g le p dn _ (Ql (VL.trans (EU.F8 Z))) la0 le0 li0 dn0 ⟨ET,iQ SK (bM Z NK),⟨D,by rw[af N8];exact Z _ _ L9,?_⟩,⟨[],by rw[af OE];exact Z _ _ LA,.nil⟩,⟨M,by rw[af S8];exact Z _ _ LB,Paired.mono (λ_ _ z=>SE SK (z.keep (EU.Fw Z))) NJ⟩,⟨[],by rw[af VM];exact ET,.nil⟩,?_,(λb I=>let ⟨xs,hz⟩:=hex b I;⟨xs,(Ql (VL.trans (EU.F8 Z))) b _ (Ld b I) hz⟩)⟩
  ·refine Paired.mono (λ_ _ z=>((z.new X).ο).Sr λa ha=>?_) SG
   simp only[ύ]at ha⊢
   rcases ha with rfl|rfl|rfl|rfl|h
   ·exact .inr (.inr (.inr (.inl Λ)))
   ·exact .inr (.inr (.inl Λ))
   ·exact .inr (.inl Λ)
   ·exact .inl Λ
   ·exact .inr (.inr (.inr (.inr h)))
  ·simp only[č,ύ,ϡ,or_false,not_or,not_false_eq_true,and_true,œ]
   exact⟨⟨N9,S9,SH⟩,⟨SA,SI⟩,SJ⟩
theorem Fq.off(h:Fq K ys H y dy tb ro c le li dn s)(o:Fm (c:: le:: li:: dn:: ys.ex) H H'):H' y=Α (.ρ ys.Fb dy (VG tb ro c le li dn))/\Fn K H' ro s.rooms/\(∀a b,Paired (Io H ys.Fu (c:: le:: li:: dn:: ys.ex)) a b->Paired (Io H' ys.Fu (c:: le:: li:: dn:: ys.ex)) a b)/\(∀a b,Paired (IZ H ys.EY (c:: le:: li:: dn:: ys.ex)) a b->Paired (IZ H' ys.EY (c:: le:: li:: dn:: ys.ex)) a b)/\(∀a b,Paired (Hi H) a b->Paired (Hi H') a b)/\∀a b,Paired (Hl H) a b->Paired (Hl H') a b:=by
 have d:=h.Kw
 have k:=o.Fw d
 refine⟨k _ _ h.ρ È,?_,λa b=>Paired.mono λ_ _ z=>z.F8 d o,λa b=>Paired.mono λ_ _ z=>z.F8 d o,λa b=>Paired.mono λ_ _ z=>z.keep k,λa b=>Paired.mono λ_ _ z=>z.keep k⟩
 rcases h.hro with r|r
 ·refine .inl ?_
  rcases r with r|⟨u,r⟩
  ·exact .inl (k _ _ r È)
  ·exact .inr ⟨u,k _ _ r È⟩
 ·exact .inr r
theorem eM(c:a∈ex):Fm ex H (ο H a o):=λb u d e=>by rw[af (λz=>d (by rw[z];exact c))];exact e
theorem vL(h:∃xs,H b=Α (.π xs)):∃xs,(ο H x (.π zs)) b=Α (.π xs):=by
 by_cases e:b=x
 ·exact⟨zs,by rw[e,ET]⟩
 ·obtain⟨xs,a⟩:=h
  exact⟨xs,by rw[af e];exact a⟩
theorem Fq.SM(h:Fq K ys H y dy tb ro c le li dn s)(f:H le=Α (.π vs))(g:IZ H ys.EY (c:: le:: li:: dn:: ys.ex) v t):Fq K ys (ο H le (.π (vs++[v]))) y dy tb ro c le li dn {s with EV:=s.EV++[t]}:=by
 obtain⟨i,j,l,d,m,n⟩:=h.off (eM (a:=le) (o:=.π (vs++[v])) (by simp))
 obtain⟨p,q,r⟩:=h.GX
 obtain⟨J,e,u⟩:=h.χ
 obtain⟨x,A,B⟩:=h.Jl
 obtain⟨C,D,E⟩:=h.HI
 rw[f]at e
 cases e
 have ne:=h.ne
 simp only[č,ύ,ϡ,or_false,not_or,not_false_eq_true,and_true,œ]at ne
 have F:=d [v] [t] (.cons g .nil)
 exact⟨i,j,⟨p,by rw[af ne.1.1];exact q,l _ _ r⟩,⟨vs++[v],ET,Paired.snoc (by cases F with|cons z _=>exact z) (d _ _ u)⟩,⟨x,by rw[af (ϧ ne.2.1.1)];exact A,m _ _ B⟩,⟨C,by rw[af (ϧ ne.2.1.2)];exact D,n _ _ E⟩,h.ne,λb G=>vL (h.hex b G)⟩
theorem Fq.NN(h:Fq K ys H y dy tb ro la le li dn s)(e:H dn=Α (.π vs))(f:Hl H v t):Fq K ys (ο H dn (.π (vs++[v]))) y dy tb ro la le li dn {s with done:=s.done++[t]}:=by
 obtain⟨g,i,j,l,m,c⟩:=h.off (eM (a:=dn) (o:=.π (vs++[v])) (by simp))
 obtain⟨n,p,q⟩:=h.GX
 obtain⟨r,u,x⟩:=h.χ
 obtain⟨A,B,C⟩:=h.Jl
 obtain⟨G,d,D⟩:=h.HI
 rw[e]at d
 cases d
 have ne:=h.ne
 simp only[č,ύ,ϡ,or_false,not_or,not_false_eq_true,and_true,œ]at ne
 have E:=c [v] [t] (.cons f .nil)
 exact⟨g,i,⟨n,by rw[af ne.1.2.2];exact p,j _ _ q⟩,⟨r,by rw[af ne.2.1.2];exact u,l _ _ x⟩,⟨A,by rw[af ne.2.2];exact B,m _ _ C⟩,⟨vs++[v],ET,Paired.snoc (by cases E with|cons z _=>exact z) (c _ _ D)⟩,h.ne,λb F=>vL (h.hex b F)⟩
noncomputable def DN(n:Nat)(wy:Wf)(sv gv lv wv:V):Bool:=kX sv 0 ((n:Int) - 1)&& (kX gv 0 ((n:Int) - 1)&& (kX lv 1 60&& (Qj wv&& !decide (vI sv=vI gv∨wy (vI sv).toNat (vI gv).toNat Β=[]))))
noncomputable def pB(s:YS)(a b l u:Int):YS:={s with EV:=s.EV++[⟨a,b,l,u,0,[]⟩],done:=s.done++[[.str "post",.int a,.int b,.int l,.int u]]}
inductive qr(K:Ϣ)(c:Cs)(x:Xc)(TC:Ν)(J:TJ)(ys:Ys)(vs:List V)(H:Hp)(Q:VK)(E:XK):Prop
 |mk (y dy tb ro la le li dn lx F1 lt:Ν) (n:Nat) (Fo:List V) (ps:List (Int×Int)) (wy:Wf) (s:YS) (sv gv lv wv:V) (_:vs=[.ref y,sv,gv,lv,wv]) (_:Fq K ys H y dy tb ro la le li dn s) (_:Hh c TC J H tb lx F1 lt n Fo ps wy) (_:tH sv) (_:tH gv) (_:tH lv) (_:tH wv) (_:s.EV.length<60) (_:s.done.length<=10000) (_:DN n wy sv gv lv wv=Ε->Rf K x E H) (_:DN n wy sv gv lv wv=Δ->∀H',Fm [le,dn] H H'->Fq K ys H' y dy tb ro la le li dn (pB s (vI sv) (vI gv) (vI lv) (vI wv))->Q (.int s.EV.length) H')
abbrev NPo:List Str:=["self","start","goal","length","word","last_place"]
abbrev EN:List Str:=["self","start","goal","length","word"]
inductive C5(K:Ϣ)(f1 f2:Str)(vs:List V)(H:Hp)(Q:VK)(_:XK):Prop
 |mk (e C tt v1 v2)(_:vs=[.ref e,v1,v2])(_:H e=Α (cT e C tt Β))(_:iu K C)(_:ϯ K (.ref C) f1=Α Β)(_:ϯ K (.ref C) f2=Α Β)(_:∀d H',H d=Β->(∀b o,b≠e->H b=Α o->H' b=Α o)->H' e=Α (cT e C tt (Α d))->H' d=Α (.xd [(f1,v1),(f2,v2)])->Q .Fp H')
structure ExW(K:Ϣ)(mg:Str->Option Ο)(yc C f:Ν)(d:ë):Prop where
 m:mg "NoWay"=Α (.ref C)
 x:cn K C (Α (.ref f))=Δ
 k:Ϩ K (.ref C)=Δ
 e:PySem.W.exmOne K (.ref C) (.ref yc)=Α Δ
 c:iu K C
 n1:ϯ K (.ref C) "start"=Α Β
 n2:ϯ K (.ref C) "goal"=Α Β
 i:isFn K (.ref f)=Δ
 F:F0 K "__init__" "NoWay.__init__" V9 f d
 b:Binds K d ["self","start","goal"] []
theorem YQ:ap ["self","start","goal"] ["self","start","goal"] (ag V9):=L2.F4
theorem SN(F:F0 K "__init__" "NoWay.__init__" V9 f fd):EW P w K mg μ aL 1 f fd ["self","start","goal"] (C5 K "start" "goal"):=by
 refine F.ok YQ λ_ _ _ s H _ Q E u h=>?_
 obtain⟨e,C,i,n,v,rfl,j,l,p,r,q⟩:=h
 refine⟨_,ad (yR (pv 0) (pv 1) Λ) (ah (yQ (pv 0) (pv 2) Λ)),e,C,i,Λ,j,l,p,λd g=>?_⟩
 have a:=ai j g
 refine⟨e,C,i,d,[("start",n)],Λ,ET,by rw[af (ϧ a)];exact ET,by show 1<1000;decide,l,r,?_⟩
 refine q d _ g (λb o t m=>?_) (by rw[af a];exact ET) (by rw[ET];rfl)
 have c:=ai m g
 rw[af c,af t,af c]
 exact m
theorem SO:ap NPo EN (ag jN):=L2.F4
theorem B7(F:KI K "post" "Yard.post" jN f fd)(T:Txt mg)(L:tI K c)(Y:mB K ys)(W:Wy K TC VH VI J)(OI:EW P w K mg μ aL 3 VH VI ["self","place","goal","came"] (iR J))
  (mw:mg "is_within"=Α (.ref fw)) (kw:Ϩ K (.ref fw)=Δ) (bw:Binds K dw ["value","least","most"] []) (Gw:EW P w K mg μ aL 2 fw dw ["value","least","most"] e9)
  (mwo:mg "is_word"=Α (.ref YR)) (kwo:Ϩ K (.ref YR)=Δ) (bwo:Binds K dwo ["word"] []) (YT:EW P w K mg μ aL 2 YR dwo ["word"] tW)
  (ml:mg "Letter"=Α (.ref ys.EY)) (Ml:Mk K ys.EY fl) (bl:Binds K dl ["self","start","goal","length","word"] []) (Gl:EW P w K mg μ aL 1 fl dl ["self","start","goal","length","word"] (vm ys.EY))
  (mL:mg "MOST_LENGTH"=Α (.int 60 t1)) (mM:mg "MOST_LETTERS"=Α (.int 60 t2)) (I:tJ K mg x.yc "NoPlace" x.pl) (S:tJ K mg x.yc "NoLength" x.ln) (U:tJ K mg x.yc "NoWord" x.wd) (r:ExW K mg x.yc x.wy fnw dnw):
  EW P w K mg μ (ix P w) 4 f fd EN (qr K c x TC J ys):=by
 have Gnw:EW P w K mg μ aL 1 fnw dnw ["self","start","goal"] (C5 K "start" "goal"):=SN r.F
 refine F.KD SO (λ_ _ _ _ h=>?_) (λ_ _ _ s H _ Q E hr h=>?_)
 ·obtain⟨y,B,tb,ro,la,le,li,C,lx,F1,lt,n,Fo,ps,X,s,sv,gv,lv,Z,rfl,_⟩:=h
  rfl
 ·obtain⟨y,B,tb,ro,la,le,li,C,lx,F1,lt,n,Fo,ps,X,st,sv,gv,lv,Z,rfl,hY,hT,cs,cg,cl,cw,VN,hd9,A,q⟩:=h
  have M:Fj 2 _:=hr.mono (by decide)
  refine⟨_,ad (aA (i:=5) SO.nd Λ (ό Λ) (ax fF (ao (ao (ao (pv 0) Λ) Λ) Λ) ae))
   (ad (aN (PW.pt (dQ (bV (b9 (au Gw M Λ mw kw bw .nil aw (aa (pv 1) (aa ae (aa (pv 5) ac)))))) (dL (bV (b9 (au Gw M Λ mw kw bw .nil aw (aa (pv 2) (aa ae (aa (pv 5) ac)))))))))
    (ah (cu Λ I.x Fg (dF I.x I.k Λ Λ I.m (aa aD ac)))) aG)
   (ad (aN (bV (b9 (au Gw M Λ mw kw bw .nil aw (aa (pv 3) (aa ae (aa (dj (v:=.int 60) Λ mL ⟨_,Λ⟩) ac))))))
    (ah (cu Λ S.x Fg (dF S.x S.k Λ Λ S.m (aa aD ac)))) aG)
   (ad (aN (bV (b9 (au YT M Λ mwo kwo bwo .nil aw (aa (pv 4) ac))))
    (ah (cu Λ U.x Fg (dF U.x U.k Λ Λ U.m (aa aD ac)))) aG)
   (ad (aN (gc (PW.pt (dQ (ak aQ (pv 1) (pv 2) (aq _)) (dL (bV (iB (aM (ao (pv 0) Λ) W.cl W.m OI hr W.b .nil aw (aa (pv 1) (aa (pv 2) (aa bA ac)))) (λ_=>rfl)))))))
    (ah (cu Λ r.x Fg (qJ r.x r.i r.k Gnw M r.b Λ r.m (aa (pv 1) (aa (pv 2) ac))))) aG)
   (ad (aN (ak CD (aF aC Λ T.len PySem.boot_len (aa (ao (pv 0) Λ) ac)) (dj (v:=.int 60) Λ mM ⟨_,Λ⟩) (aq _))
    (ah fc) aG)
   (ad (aU (aZ plainAttrs_list PySem.F.slot_list_append PySem.F.type_list_append cy (ao (pv 0) Λ) (aa (eO Ml Gl M Λ ml bl .nil aw (aa (pv 1) (aa (pv 2) (aa (pv 3) (aa (pv 4) ac))))) ac)))
   (ad (aU (aZ plainAttrs_list PySem.F.slot_list_append PySem.F.type_list_append cy (ao (pv 0) Λ) (aa (bF (aa aD (aa (pv 1) (aa (pv 2) (aa (pv 3) (aa (pv 4) ac)))))) ac)))
   (ah (az (ax fF (aF aC Λ T.len PySem.boot_len (aa (ao (pv 0) Λ) ac)) ae)))))))))),?_⟩
  obtain⟨JO,fst,JA,FK,JB⟩:=hT.i
  unfold DN at A q
  refine⟨y,ys.Fb,B,_,_,Λ,hY.ρ,Y.cl,Y.n1,Λ,tb,TC,JO,fst,_,Λ,JA,W.cl,W.nl,FK,lx,c.land,F1,_,_,Λ,hT.l.1,L.cl,L.np,Λ,_,_,Λ,Λ,sv,0,(n:Int) - 1,Λ,cs,_,Λ,?_⟩
  cases h1:kX sv 0 ((n:Int) - 1) with
  | false =>
   exact aI (aI ⟨by show 1<=Τ;decide,A (by rw[h1];rfl) _ _ _ I.e (EU.refl H)⟩)
  |true =>
  refine aH ⟨gv,0,(n:Int) - 1,Λ,cg,_,Λ,?_⟩
  cases h2:kX gv 0 ((n:Int) - 1) with
  | false =>
   exact aI ⟨by show 1<=Τ;decide,A (by rw[h1,h2];rfl) _ _ _ I.e (EU.refl H)⟩
  |true =>
  rw[h1,h2,Ý,Ý]at A q
  refine aH ⟨lv,1,60,Λ,cl,_,Λ,?_⟩
  cases h3:kX lv 1 60 with
  | false =>
   exact aI ⟨by show 1<=Τ;decide,A (by rw[h3];rfl) _ _ _ S.e (EU.refl H)⟩
  |true =>
  rw[h3,Ý]at A q
  refine aH ⟨Z,Λ,cw,_,Λ,?_⟩
  cases h4:Qj Z with
  | false =>
   exact aI ⟨by show 1<=Τ;decide,A (by rw[h4];rfl) _ _ _ U.e (EU.refl H)⟩
  |true =>
  rw[h4,Ý]at A q
  refine aH ?_
  obtain⟨a,rfl⟩:=hZ h1
  obtain⟨b,rfl⟩:=hZ h2
  obtain⟨l,rfl⟩:=hZ h3
  obtain⟨u,rfl⟩:∃u,Z=.int u:=by
   cases Z<;>first|exact⟨_,Λ⟩|cases h4
  have ha:=of_decide_eq_true h1
  have hb:=of_decide_eq_true h2
  obtain⟨g,rfl⟩:∃g:Nat,a=(g:Int):=⟨a.toNat,by omega⟩
  obtain⟨p,rfl⟩:∃p:Nat,b=(p:Int):=⟨b.toNat,by omega⟩
  have ev:∀z:Int,vI (.int z)=z:=λ_=>rfl
  rw[ev,ev,Ϙ,Ϙ]at A q
  refine⟨λk H1=>EU H H1/\k=decide ((g:Int)=(p:Int)∨X g p Β=[]),?_,?_⟩
  ·refine⟨Λ,_,Λ,?_⟩
   rw[dz]
   by_cases SQ:(g:Int)=(p:Int)
   ·rw[Ζ SQ]
    exact aI ⟨EU.refl H,by rw[Ζ (ό SQ)]⟩
   ·rw[Η SQ]
    refine aH ⟨y,ys.Fb,B,_,_,Λ,hY.ρ,Y.cl,Y.n1,Λ,tb,JO,fst,Λ,JA,JB,tb,n,X,g,p,Β,Λ,hT.j,by omega,by omega,λD H1 N hD gD=>⟨_,.inl ⟨_,EX.of gD,Λ⟩,N,?_⟩⟩
    cases hw:X g p Β with
    |nil=>rw[Ζ (Ř Λ)];rfl
    |cons z zs=>rw[Η (λz=>z.elim SQ λz=>by cases z)];rfl
  rintro k H1 ⟨N,rfl⟩
  have Ja:=hY.same N
  by_cases MN:(g:Int)=(p:Int)∨X g p Β=[]
  ·rw[Ζ MN]
   refine aI ⟨by show 2<=Τ;decide,λe tt he=>⟨e,_,tt,_,_,Λ,ET,r.c,r.n1,r.n2,λd H2 hd off Kq hd2=>⟨Λ,Α d,Kq,?_⟩⟩⟩
   refine A (by rw[Ζ MN];rfl) _ _ _ r.e (λz o G=>?_)
   have YU:=ai (N _ _ G) he
   rw[iL YU]
   exact off z o YU (by rw[af YU];exact N _ _ G)
  rw[Η MN]
  rw[Η MN]at q
  refine aH ?_
  obtain⟨Kd,HD,pl⟩:=Ja.χ
  have Mf:=Paired.length pl
  refine⟨y,ys.Fb,B,_,_,Λ,Ja.ρ,Y.cl,Y.n4,Λ,le,_,Λ,.inl (EX.of HD),_,_,Λ,Λ,_,Λ,?_⟩
  rw[Η (show ¬(60:Int)<=(Kd.length:Nat) by omega)]
  refine aH ?_
  refine⟨y,ys.Fb,B,_,_,Λ,Ja.ρ,Y.cl,Y.n4,Λ,.inl ⟨Λ,_,EX.of HD⟩,λO JC nx ML Ld=>⟨O,JC,(g:Int),(p:Int),l,u,Λ,ET,λwa H2 R off Lb VO=>⟨Λ,?_⟩⟩⟩
  have Ip:=λz o G=>off z o (ai G nx) (by rw[af (ai G nx),af (ai G ML)];exact G)
  have YV:H1 wa=Β:=by
   by_cases z1:wa=O
   ·rw[z1,ET]at R;cases R
   ·by_cases z2:wa=JC
    ·rw[z2,af Ld,ET]at R;cases R
    ·rw[af z1,af z2]at R;exact R
  have IQ:=Ja.same Ip
  have SR:=Ip _ _ HD
  have hlv:IZ H2 ys.EY (la:: le:: li:: C:: ys.ex) (.ref O) ⟨(g:Int),(p:Int),l,u,0,[]⟩:=⟨O,JC,wa,Λ,Lb,VO,λz=>by obtain⟨xs,hz⟩:=Ja.Kw wa z;rw[YV]at hz;cases hz⟩
  refine⟨le,_,_,Λ,Λ,SR,by rw[Χ];omega,?_⟩
  have JD:=IQ.SM SR hlv
  have o3:Fm [le,C] H (ο H2 le (.π (Kd++[.ref O]))):=(EU.F8 (N.trans Ip)).trans (eM (by simp))
  generalize ο H2 le (.π (Kd++[.ref O]))=H3 at JD o3⊢
  obtain⟨FW,NO,pd⟩:=JD.HI
  have Mb:FW.length=st.done.length:=Paired.length pd
  refine⟨y,ys.Fb,B,_,_,Λ,JD.ρ,Y.cl,Y.n6,Λ,.inl ⟨Λ,_,EX.of NO⟩,by show 5<=Τ;decide,λt ht=>?_⟩
  have Iq:=(EU.refl H3).new (o:=.tup [.str "post",.int (g:Int),.int (p:Int),.int l,.int u]) ht
  have gt4:(ο H3 t (.tup [.str "post",.int (g:Int),.int (p:Int),.int l,.int u])) t=Α (.tup [.str "post",.int (g:Int),.int (p:Int),.int l,.int u]):=ET
  generalize ο H3 t (.tup [.str "post",.int (g:Int),.int (p:Int),.int l,.int u])=H4 at Iq gt4⊢
  have YW:=JD.same Iq
  have SS:=Iq _ _ NO
  refine⟨C,_,_,Λ,Λ,SS,by rw[Χ];omega,?_⟩
  have Mg:=YW.NN SS ⟨t,Λ,gt4⟩
  have o5:Fm [le,C] H (ο H4 C (.π (FW++[.ref t]))):=(o3.trans (EU.F8 Iq)).trans (eM (by simp))
  generalize ο H4 C (.π (FW++[.ref t]))=H5 at Mg o5⊢
  obtain⟨tv5,YX,pl5⟩:=Mg.χ
  have VP:tv5.length=st.EV.length+1:=by rw[Paired.length pl5,Ξ];rfl
  refine⟨y,ys.Fb,B,_,_,Λ,Mg.ρ,Y.cl,Y.n4,Λ,le,_,Λ,.inl (EX.of YX),_,_,Λ,Λ,?_⟩
  have er:((tv5.length:Nat):Int) - 1=(st.EV.length:Int):=by omega
  dsimp only
  rw[er]
  exact q Λ H5 o5 Mg
end K83
namespace L2
open PySem PySem.Spec PyProof.Rows
end L2
namespace K83
open PySem L2
variable {P:Program}{w:À}{K:Ϣ}{mg:Str->Option Ο}{μ:ò}
def SU(K:Ϣ):List V->Hp->VK->Prop:=λxs H Q=>∃(p:Ν)(ys:List V),xs=[.ref p]/\(EX K H p ys∨Fn K H p ys)/\Q (.int (ys.length:Nat)) H
inductive qw(K:Ϣ)(ys:Ys)(vs:List V)(H:Hp)(Q:VK)(E:XK):Prop
 |mk (y dy tb ro la le li dn:Ν) (s:YS) (_:vs=[.ref y]) (_:Fq K ys H y dy tb ro la le li dn s) (_:∀(t:Ν)(vs:List V)(H':Hp),EU H H'->H t=Β->H' t=Α (.π vs)->Paired (Hl H') vs s.done->Q (.ref t) H')
theorem YY:ap ["self"] ["self"] (ag yD):=L2.F4
theorem BK(F:F0 K "history" "Yard.history" yD f fd)(T:Txt mg)(Y:mB K ys):EW P w K mg μ aL 1 f fd ["self"] (qw K ys):=by
 refine F.ok YY λ_ _ _ s H _ Q E j h=>?_
 obtain⟨y,c,tb,l,m,le,n,d,o,rfl,b,q⟩:=h
 refine⟨_,ah (az (aS dX Λ T.list PySem.Pv.boot_list (aa (ao (pv 0) Λ) ac))),?_⟩
 obtain⟨e,g,i⟩:=b.HI
 refine⟨y,ys.Fb,c,_,_,Λ,b.ρ,Y.cl,Y.n6,Λ,d,_,Λ,.inl (EX.of g),λt a=>?_⟩
 exact q t e _ ((EU.refl H).new a) a ET (Paired.mono (λ_ _ z=>z.keep (EU.Fw ((EU.refl H).new a))) i)
end K83
namespace L2
open PySem PySem.Spec PyProof.Rows
inductive Bm(K:Ϣ)(x:V)(y:V)(H:Hp)(Q:VK):Prop
 |mk (p:Ν)(vs:List V)(d:ĩ)(ds:List ĩ)(_:y=.ref p)(_:mF K H x d)(_:EX K H p vs)(_:oW K H vs ds)(_:Ih d 8)(_:(∀z∈ds,Ih z 8))(_:Q (.bl (!(ds.any λy=>Ĕ y d))) H)
theorem wH(o:X.A.units+64<ŷ):fW X (compareOp .NotIn) (Bm X.K):=by
 intro a s r H x y v u Q I c e h
 obtain⟨p,t,d,f,rfl,g,i,j,b,l,q⟩:=h
 obtain⟨as,m⟩:=I.den (.π i j) e
 obtain⟨bs,n⟩:=I.den g c
 refine SeqAt.notIn_list_reads m n (qA l).1 b.1 ?_ ⟨.bl _,H,I,Λ,q⟩
 have:=b.2
 have:=Nat.min_le_right (Ų f) d.depth
 omega
inductive SV(K:Ϣ)(x:V)(y:V)(H:Hp)(Q:VK):Prop
 |mk (a b xs ys)(_:x=.ref a)(_:y=.ref b)(_:Fn K H a xs)(_:Fn K H b ys)(_:ys≠[])(_:xs.length+ys.length<=Τ)(_:(xs=[]->Q (.ref b) H)/\(xs≠[]->∀p,H p=Β->Q (.ref p) (ο H p (.tup (xs++ys)))))
theorem Bz:fW X (binaryOp .Add) (SV X.K):=by
 intro c s w H x y v u Q I g i h
 obtain⟨a,b,xs,A,rfl,rfl,j,l,B,C,D,E⟩:=h
 by_cases e:xs=[]
 ·cases g
  cases i
  obtain⟨m,F,G,_⟩:=I.tuple j
  obtain⟨J,U,L,_⟩:=I.tuple l
  have M:=F.Ic.mpr e
  obtain⟨⟨N,O,data,P⟩,o,p,n,q⟩:=id G
  obtain⟨⟨Y,R,f,S⟩,r,t,T,d⟩:=id L
  simp only at p q t d
  subst p q t d
  exact V6 ⟨_,o,Λ⟩ ⟨_,r,Λ⟩ M3 Rj slot_tuple_add entry_tuple_add (args_tuple_add_2 _ _)
   (tuple_addW0 a b m.toArray J.toArray n T O R P S (by simp[M])) ⟨o,r,⟨.ref b,H,I,Λ,D e⟩⟩
 ·exact v6 c s w H _ _ v u Q I g i ⟨a,b,xs,A,Λ,Λ,j,l,e,C,λz=>Κ z B,λ_=>E e⟩
end L2
namespace K83
open PySem L2
variable {P:Program}{w:À}{K:Ϣ}{mg:Str->Option Ο}{μ:ò}
inductive yf(C:Ν)(vs:List V)(H:Hp)(Q:VK)(E:XK):Prop
 |mk (x dx pa:Ν) (r b:Int) (h:Option Int) (F2:List V) (qs:List (Int×Int)) (_:vs=[.ref x]) (_:Fy H C x dx pa r b h F2 qs) (_:∀(x' K6 Le:Ν)(H':Hp),EU H H'->H x'=Β->H Le=Β->Fy H' C x' K6 Le r b h F2 qs->Q (.ref x') H')
inductive ye(C:Ν)(vs:List V)(H:Hp)(Q:VK)(E:XK):Prop
 |mk (x dx wa:Ν) (s:eJ) (_:vs=[.ref x]) (_:H x=Α (.ρ C dx (uQ s wa))) (_:H wa=Α (.π (nV s.ω))) (_:∀(x' K6 Kx:Ν)(H':Hp),EU H H'->H x'=Β->H Kx=Β->H' x'=Α (.ρ C K6 (uQ s Kx))->H' Kx=Α (.π (nV s.ω))->Q (.ref x') H')
theorem NP:ap ["self","other"] ["self"] (ag D7):=L2.F4
theorem Ef(F:F0 K "twin" "Lane.twin" D7 f fd)(T:Txt mg)(L:CP K C)(N:mg "Lane"=Α (.ref C))(O:Mk K C fl)(R:Binds K dl ["self","room"] [])(Gl:EW P w K mg μ aL 1 fl dl ["self","room"] (vn C)):
  EW P w K mg μ aL 3 f fd ["self"] (yf C):=by
 refine F.ok NP λ_ _ _ s H _ Q E S h=>?_
 obtain⟨x,v,U,r,b,h,X,qs,rfl,l,q⟩:=h
 refine⟨_,ad (aA (i:=1) NP.nd Λ (ό Λ) (eO O Gl S Λ N R .nil aw (aa (ao (pv 0) Λ) ac)))
  (ad (bE (pv 1) (ao (pv 0) Λ) Λ)
  (ad (bE (pv 1) (ao (pv 0) Λ) Λ)
  (ad (bE (pv 1) (aS dX Λ T.list PySem.Pv.boot_list (aa (ao (pv 0) Λ) ac)) Λ)
  (ah (az (pv 1)))))),?_⟩
 refine⟨x,C,v,_,_,Λ,l.ρ,L.cl,L.n1,Λ,λa d m Y ne=>⟨a,d,r,Λ,ET,λj n Z off B=>⟨Λ,?_⟩⟩⟩
 have D:=λz o c=>off z o (ai c m) (by rw[af (ai c m),af (ai c Y)];exact c)
 have VQ:=B.ρ
 clear Z off B
 refine⟨x,C,v,_,_,Λ,D _ _ l.ρ,L.cl,L.n2,Λ,a,C,d,_,Λ,VQ,L.cl,L.n2,by show 4<1000;decide,?_⟩
 have G:∀g,EU H (ο n a g):=λg z o c=>by rw[af (ai c m)];exact D _ _ c
 refine⟨x,C,v,_,_,Λ,G _ _ _ l.ρ,L.cl,L.n3,Λ,a,C,d,_,Λ,ET,L.cl,L.n3,by show 4<1000;decide,?_⟩
 have o3:∀g p,EU H (ο (ο n a g) a p):=λg p z o c=>by rw[af (ai c m)];exact G _ _ _ c
 have t:=o3 (.ρ C d (aT "returning" (.int b) (lG r 0 (hV Β) j))) (.ρ C d (aT "holder" (hV h) (aT "returning" (.int b) (lG r 0 (hV Β) j))))
 have y:(ο (ο n a (.ρ C d (aT "returning" (.int b) (lG r 0 (hV Β) j)))) a (.ρ C d (aT "holder" (hV h) (aT "returning" (.int b) (lG r 0 (hV Β) j))))) a=Α (.ρ C d (lG r b (hV h) j)):=ET
 generalize ο (ο n a (.ρ C d (aT "returning" (.int b) (lG r 0 (hV Β) j)))) a (.ρ C d (aT "holder" (hV h) (aT "returning" (.int b) (lG r 0 (hV Β) j))))=H3 at t y⊢
 refine⟨x,C,v,_,_,Λ,t _ _ l.ρ,L.cl,L.n4,Λ,U,_,Λ,.inl (EX.of (t _ _ l.π)),λu A=>?_⟩
 have I:H u=Β:=by
  cases e:H u with
  |none=>rfl
  |some o=>rw[t _ _ e]at A;cases A
 have J:=ai y A
 refine⟨a,C,d,_,Λ,by rw[af J];exact y,L.cl,L.n4,by show 4<1000;decide,?_⟩
 have M:∀g,EU H (ο (ο H3 u (.π X)) a g):=λg z o c=>by rw[af (ai c m),af (ai c I)];exact t _ _ c
 exact q a d u _ (M _) m I ⟨ET,by rw[af (ϧ J)];exact ET,F6.same (M _) l.GS⟩
theorem NQ:ap ["self","other"] ["self"] (ag yB):=L2.F4
theorem Ed(F:F0 K "twin" "Letter.twin" yB f fd)(T:Txt mg)(Y:mB K ys)(D:mg "Letter"=Α (.ref ys.EY))(G:Mk K ys.EY fl)(I:Binds K dl ["self","start","goal","length","word"] [])(Gl:EW P w K mg μ aL 1 fl dl ["self","start","goal","length","word"] (vm ys.EY)):
  EW P w K mg μ aL 3 f fd ["self"] (ye ys.EY):=by
 refine F.ok NQ λ_ _ _ s H _ Q E J h=>?_
 obtain⟨x,d,L,t,rfl,g,M,q⟩:=h
 refine⟨_,ad (aA (i:=1) NQ.nd Λ (ό Λ) (eO G Gl J Λ D I .nil aw (aa (ao (pv 0) Λ) (aa (ao (pv 0) Λ) (aa (ao (pv 0) Λ) (aa (ao (pv 0) Λ) ac))))))
  (ad (bE (pv 1) (ao (pv 0) Λ) Λ)
  (ad (bE (pv 1) (aS dX Λ T.list PySem.Pv.boot_list (aa (ao (pv 0) Λ) ac)) Λ)
  (ah (az (pv 1))))),?_⟩
 refine⟨x,ys.EY,d,_,_,Λ,g,Y.ct,Y.t1,Λ,x,ys.EY,d,_,_,Λ,g,Y.ct,Y.t2,Λ,x,ys.EY,d,_,_,Λ,g,Y.ct,Y.t3,Λ,x,ys.EY,d,_,_,Λ,g,Y.ct,Y.t4,Λ,λb c j N ne=>⟨b,c,t.start,t.ι,t.len,t.word,Λ,ET,λn p r off O R=>⟨Λ,?_⟩⟩⟩
 have y:=λz o a=>off z o (ai a j) (by rw[af (ai a j),af (ai a N)];exact a)
 clear r off R
 refine⟨x,ys.EY,d,_,_,Λ,y _ _ g,Y.ct,Y.t5,Λ,b,ys.EY,c,_,Λ,O,Y.ct,Y.t5,by show 6<1000;decide,?_⟩
 have l:EU H (ο p b (.ρ ys.EY c (aT "gone" (.int t.δ) (uQ ⟨t.start,t.ι,t.len,t.word,0,[]⟩ n)))):=λz o a=>by rw[af (ai a j)];exact y _ _ a
 have u:(ο p b (.ρ ys.EY c (aT "gone" (.int t.δ) (uQ ⟨t.start,t.ι,t.len,t.word,0,[]⟩ n)))) b=Α (.ρ ys.EY c (uQ ⟨t.start,t.ι,t.len,t.word,t.δ,[]⟩ n)):=ET
 generalize ο p b (.ρ ys.EY c (aT "gone" (.int t.δ) (uQ ⟨t.start,t.ι,t.len,t.word,0,[]⟩ n)))=S at l u⊢
 refine⟨x,ys.EY,d,_,_,Λ,l _ _ g,Y.ct,Y.t6,Λ,L,_,Λ,.inl (EX.of (l _ _ M)),λm v=>?_⟩
 have A:H m=Β:=by
  cases e:H m with
  |none=>rfl
  |some o=>rw[l _ _ e]at v;cases v
 have B:=ai u v
 refine⟨b,ys.EY,c,_,Λ,by rw[af B];exact u,Y.ct,Y.t6,by show 6<1000;decide,?_⟩
 have U:∀C,EU H (ο (ο S m (.π (nV t.ω))) b C):=λC z o a=>by rw[af (ai a j),af (ai a A)];exact l _ _ a
 exact q b c m _ (U _) j A ET (by rw[af (ϧ B)];exact ET)
structure YA where
 y:Ν
 dy:Ν
 tb:Ν
 ro:Ν
 la:Ν
 le:Ν
 li:Ν
 dn:Ν
 lx:Ν
 F1:Ν
 lt:Ν
 n:Nat
 Fo:List V
 ps:List (Int×Int)
 wy:Wf
abbrev Gj(K:Ϣ)(ys:Ys)(H:Hp)(a:YA)(s:YS):Prop:=Fq K ys H a.y a.dy a.tb a.ro a.la a.le a.li a.dn s
abbrev YZ(c:Cs)(TC:Ν)(J:TJ)(H:Hp)(a:YA):Prop:=Hh c TC J H a.tb a.lx a.F1 a.lt a.n a.Fo a.ps a.wy
abbrev YA.four(a:YA):List Ν:=[a.la,a.le,a.li,a.dn]
theorem Paired.set{v:α}{r:β}(h:R v r):∀{a:List α}{b:List β}(i:Nat),Paired R a b->Paired R (a.set i v) (b.set i r)
 |_,_,_,.nil =>.nil
 |_,_,0,.cons _ t =>.cons h t
 |_,_,i+1,.cons x t =>.cons x (Paired.set h i t)
theorem Fm.mono(h:∀b∈ex,b∈PM)(o:Fm ex H H'):Fm PM H H':=λb u a e=>o b u (λz=>a (h b z)) e
theorem so(h:Gj K ys H a s)(c:H p=Β):p∉a.four:=λz=>by obtain⟨xs,b⟩:=h.Kb p z;rw[c]at b;cases b
theorem pF(h:Gj K ys H a s)(c:H p=Β):p∉a.la:: a.le:: a.li:: a.dn:: ys.ex:=λz=>by obtain⟨xs,b⟩:=Fq.Kw h p z;rw[c]at b;cases b
theorem qV(o:Fm [x] H H2)(a:H2 x=Α (.π zs))(h:∃xs,H b=Α (.π xs)):∃xs,H2 b=Α (.π xs):=by
 by_cases e:b=x
 ·exact⟨zs,by rw[e];exact a⟩
 ·obtain⟨xs,c⟩:=h
  exact⟨xs,o _ _ (by simpa using e) c⟩
theorem Gj.Jb(h:Gj K ys H a s)(f:H a.la=Α (.π vs))(o:Fm [a.la] H H2)(d:H2 a.la=Α (.π (vs.set k (.ref x))))
  (L:Fy H2 ys.Fu x dx pa ln.r ln.b ln.h F2 ln.qs) (g:H pa=Β):Gj K ys H2 a {s with γ:=s.γ.set k ln}:=by
 obtain⟨i,j,l,m,n,p⟩:=Fq.off h (o.mono (by simp))
 obtain⟨F,e,q⟩:=h.GX
 obtain⟨t,u,v⟩:=h.χ
 obtain⟨y,z,A⟩:=h.Jl
 obtain⟨B,C,D⟩:=h.HI
 rw[f]at e
 cases e
 have ne:=h.ne
 simp only[č,ύ,ϡ,or_false,not_or,not_false_eq_true,and_true,œ]at ne
 exact⟨i,j,⟨_,d,Paired.set ⟨x,dx,pa,F2,Λ,L,pF h g⟩ k (l _ _ q)⟩,⟨t,o _ _ (by simp;exact ϧ ne.1.1) u,m _ _ v⟩,⟨y,o _ _ (by simp;exact ϧ ne.1.2.1) z,n _ _ A⟩,⟨B,o _ _ (by simp;exact ϧ ne.1.2.2) C,p _ _ D⟩,h.ne,λb E=>qV o d (h.hex b E)⟩
theorem Gj.LC(h:Gj K ys H a s)(e:H a.le=Α (.π vs))(o:Fm [a.le] H H2)(c:H2 a.le=Α (.π (vs.set k (.ref x))))
  (f:H2 x=Α (.ρ ys.EY dx (uQ t wa))) (g:H2 wa=Α (.π (nV t.ω))) (i:H wa=Β):Gj K ys H2 a {s with EV:=s.EV.set k t}:=by
 obtain⟨j,l,m,n,p,q⟩:=Fq.off h (o.mono (by simp))
 obtain⟨r,u,v⟩:=h.GX
 obtain⟨I,d,y⟩:=h.χ
 obtain⟨z,A,B⟩:=h.Jl
 obtain⟨C,D,E⟩:=h.HI
 rw[e]at d
 cases d
 have ne:=h.ne
 simp only[č,ύ,ϡ,or_false,not_or,not_false_eq_true,and_true,œ]at ne
 exact⟨j,l,⟨r,o _ _ (by simp;exact ne.1.1) u,m _ _ v⟩,⟨_,c,Paired.set ⟨x,dx,wa,Λ,f,g,pF h i⟩ k (n _ _ y)⟩,⟨z,o _ _ (by simp;exact ϧ ne.2.1.1) A,p _ _ B⟩,⟨C,o _ _ (by simp;exact ϧ ne.2.1.2) D,q _ _ E⟩,h.ne,λb F=>qV o c (h.hex b F)⟩
theorem Gj.ON(h:Gj K ys H a s)(f:H a.li=Α (.π vs))(o:Fm [a.li] H H2)(c:H2 a.li=Α (.π (vs.set k v)))
  (L:Hi H2 v qs):Gj K ys H2 a {s with ε:=s.ε.set k qs}:=by
 obtain⟨g,i,j,l,m,n⟩:=Fq.off h (o.mono (by simp))
 obtain⟨p,q,r⟩:=h.GX
 obtain⟨t,u,x⟩:=h.χ
 obtain⟨D,e,y⟩:=h.Jl
 obtain⟨z,A,B⟩:=h.HI
 rw[f]at e
 cases e
 have ne:=h.ne
 simp only[č,ύ,ϡ,or_false,not_or,not_false_eq_true,and_true,œ]at ne
 exact⟨g,i,⟨p,o _ _ (by simp;exact ne.1.2.1) q,j _ _ r⟩,⟨t,o _ _ (by simp;exact ne.2.1.1) u,l _ _ x⟩,⟨_,c,Paired.set L k (m _ _ y)⟩,⟨z,o _ _ (by simp;exact ϧ ne.2.2) A,n _ _ B⟩,h.ne,λb C=>qV o c (h.hex b C)⟩
inductive ua(K:Ϣ)(ys:Ys)(vs:List V)(H:Hp)(Q:VK)(E:XK):Prop
 |mk (a:YA) (s:YS) (k:Nat) (ln:fB) (Fx:List V) (_:vs=[.ref a.y,.int k]) (_:Gj K ys H a s) (_:s.γ[k]?=Α ln) (_:H a.la=Α (.π Fx)) (_:∀(x dx pa:Ν)(F2:List V)(H':Hp),Fm [a.la] H H'->H x=Β->H pa=Β->H' a.la=Α (.π (Fx.set k (.ref x)))->Fy H' ys.Fu x dx pa ln.r ln.b ln.h F2 ln.qs->Q (.ref x) H')
inductive tZ(K:Ϣ)(ys:Ys)(vs:List V)(H:Hp)(Q:VK)(E:XK):Prop
 |mk (a:YA) (s:YS) (k:Nat) (t:eJ) (Fo:List V) (_:vs=[.ref a.y,.int k]) (_:Gj K ys H a s) (_:s.EV[k]?=Α t) (_:H a.le=Α (.π Fo)) (_:∀(x dx wa:Ν)(H':Hp),Fm [a.le] H H'->H x=Β->H wa=Β->H' a.le=Α (.π (Fo.set k (.ref x)))->H' x=Α (.ρ ys.EY dx (uQ t wa))->H' wa=Α (.π (nV t.ω))->Q (.ref x) H')
inductive yg(K:Ϣ)(ys:Ys)(vs:List V)(H:Hp)(Q:VK)(E:XK):Prop
 |mk (a:YA) (s:YS) (v:V) (q:Int×Int) (p:Nat) (qs:List (Int×Int)) (_:vs=[.ref a.y,v,.int p]) (_:Gj K ys H a s) (_:Cr H v q) (_:s.ε[p]?=Α qs) (_:qs.length<=100000) (_:∀H',Fm [a.li] H H'->Gj K ys H' a {s with ε:=s.ε.set p (qs++[q])}->Q .Fp H')
theorem Dv:ap ["self","lane"] ["self","lane"] (ag yw):=L2.F4
theorem B9(F:F0 K "own_lane" "Yard.own_lane" yw f fd)(Y:mB K ys)(R:ck K ys.Fu "twin" ft)(S:Binds K dt ["self"] [])(T:EW P w K mg μ aL 3 ft dt ["self"] (yf ys.Fu)):
  EW P w K mg μ aL 4 f fd ["self","lane"] (ua K ys):=by
 refine F.ok Dv λ_ _ _ s H _ Q E U h=>?_
 obtain⟨a,st,k,d,e,rfl,i,X,g,q⟩:=h
 refine⟨_,ad (iC (bY (ay aB (ao (pv 0) Λ) (pv 1) (λ_ _=>rfl)) Y.L.cl R T U S .nil aw) (kT (ao (pv 0) Λ) (pv 1) gy))
  (ah (az (ay aB (ao (pv 0) Λ) (pv 1) (λ_ _=>rfl)))),?_⟩
 obtain⟨A,B,Z⟩:=i.GX
 rw[g]at B
 cases B
 obtain⟨v,C,x,D,pa,n,rfl,G,_⟩:=Paired.at2 Z X
 have I:=(gQ0 C)
 refine⟨a.y,ys.Fb,a.dy,_,_,Λ,i.ρ,Y.cl,Y.n3,Λ,a.la,e,(k:Int),_,Λ,Λ,EX.of g,aj C,x,D,_,Λ,G.ρ,Λ,x,D,pa,d.r,d.b,d.h,n,d.qs,Λ,G,λc J o l j nx p m=>?_⟩
 refine⟨a.y,ys.Fb,a.dy,_,_,Λ,j _ _ i.ρ,Y.cl,Y.n3,Λ,a.la,e,(k:Int),k,Λ,Λ,j _ _ g,ig I,?_⟩
 have t:Fm [a.la] H (ο l a.la (.π (e.set k (.ref c)))):=(EU.F8 j).trans (eM (by simp))
 have u:(ο l a.la (.π (e.set k (.ref c)))) a.la=Α (.π (e.set k (.ref c))):=ET
 have M:Fy (ο l a.la (.π (e.set k (.ref c)))) ys.Fu c J o d.r d.b d.h n d.qs:=by
  have n1:=bH m.ρ (j _ _ g) (by intro z;cases z)
  have n2:o≠a.la:=λz=>by rw[z,g]at p;cases p
  exact⟨by rw[af n1];exact m.ρ,by rw[af n2];exact m.π,F6.F8 (ex:=[a.la]) (λb N=>by simp at N;subst N;exact⟨_,j _ _ g⟩) (eM (by simp)) m.GS⟩
 generalize ο l a.la (.π (e.set k (.ref c)))=O at t u M⊢
 have OO:=t _ _ (by simp;exact bH i.ρ g (by intro z;cases z)) i.ρ
 exact⟨a.y,ys.Fb,a.dy,_,_,Λ,OO,Y.cl,Y.n3,Λ,a.la,_,(k:Int),.ref c,Λ,Λ,EX.of u,aj (by simp[I]),q c J o n O t nx p u M⟩
theorem Du:ap ["self","number"] ["self","number"] (ag yu):=L2.F4
theorem B8(F:F0 K "own_letter" "Yard.own_letter" yu f fd)(Y:mB K ys)(J:ck K ys.EY "twin" ft)(L:Binds K dt ["self"] [])(M:EW P w K mg μ aL 3 ft dt ["self"] (ye ys.EY)):
  EW P w K mg μ aL 4 f fd ["self","number"] (tZ K ys):=by
 refine F.ok Du λ_ _ _ s H _ Q E N h=>?_
 obtain⟨a,st,k,t,c,rfl,e,O,d,q⟩:=h
 refine⟨_,ad (iC (bY (ay aB (ao (pv 0) Λ) (pv 1) (λ_ _=>rfl)) Y.ct J M N L .nil aw) (kT (ao (pv 0) Λ) (pv 1) gy))
  (ah (az (ay aB (ao (pv 0) Λ) (pv 1) (λ_ _=>rfl)))),?_⟩
 obtain⟨Kd,o,R⟩:=e.χ
 rw[d]at o
 cases o
 obtain⟨v,p,x,r,S,rfl,u,T,_⟩:=Paired.at2 R O
 have A:=(gQ0 p)
 refine⟨a.y,ys.Fb,a.dy,_,_,Λ,e.ρ,Y.cl,Y.n4,Λ,a.le,c,(k:Int),_,Λ,Λ,EX.of d,aj p,x,r,_,Λ,u,Λ,x,r,S,t,Λ,u,T,λb B i g j U l C X=>?_⟩
 refine⟨a.y,ys.Fb,a.dy,_,_,Λ,j _ _ e.ρ,Y.cl,Y.n4,Λ,a.le,c,(k:Int),k,Λ,Λ,j _ _ d,ig A,?_⟩
 have m:Fm [a.le] H (ο g a.le (.π (c.set k (.ref b)))):=(EU.F8 j).trans (eM (by simp))
 have n:(ο g a.le (.π (c.set k (.ref b)))) a.le=Α (.π (c.set k (.ref b))):=ET
 have Z:=bH C (j _ _ d) (by intro z;cases z)
 have n2:i≠a.le:=λz=>by rw[z,d]at l;cases l
 have D:(ο g a.le (.π (c.set k (.ref b)))) b=Α (.ρ ys.EY B (uQ t i)):=by rw[af Z];exact C
 have G:(ο g a.le (.π (c.set k (.ref b)))) i=Α (.π (nV t.ω)):=by rw[af n2];exact X
 generalize ο g a.le (.π (c.set k (.ref b)))=I at m n D G⊢
 have OO:=m _ _ (by simp;exact bH e.ρ d (by intro z;cases z)) e.ρ
 exact⟨a.y,ys.Fb,a.dy,_,_,Λ,OO,Y.cl,Y.n4,Λ,a.le,_,(k:Int),.ref b,Λ,Λ,EX.of n,aj (by simp[A]),q b B i I m U l n D G⟩
theorem Ta:ap ["self","piece","place"] ["self","piece","place"] (ag DA):=L2.F4
theorem Eh(F:F0 K "lay" "Yard.lay" DA f fd)(Y:mB K ys):EW P w K mg μ aL 1 f fd ["self","piece","place"] (yg K ys):=by
 refine F.ok Ta λ_ _ _ s H _ Q E hr h=>?_
 obtain⟨a,st,v,S,p,G,rfl,m,I,T,J,q⟩:=h
 refine⟨_,ah (iC (ax Bz (ay aB (ao (pv 0) Λ) (pv 2) (λ_ _=>rfl)) (bF (aa (pv 1) ac))) (kT (ao (pv 0) Λ) (pv 2) gy)),?_⟩
 obtain⟨i,j,U⟩:=m.Jl
 obtain⟨v0,n,X,l,rfl,Z,A⟩:=Paired.at2 U T
 have L:=(gQ0 n)
 have OP:=Paired.length A
 refine⟨a.y,ys.Fb,a.dy,_,_,Λ,m.ρ,Y.cl,Y.n5,Λ,a.li,i,(p:Int),_,Λ,Λ,EX.of j,aj n,by show 1<=Τ;decide,λt ht=>?_⟩
 have d:=(EU.refl H).new (o:=.tup [v]) ht
 have B:(ο H t (.tup [v])) t=Α (.tup [v]):=ET
 generalize ο H t (.tup [v])=C at d B⊢
 have fin:∀(z:Ν)(g:Hp),EU H g->Hi g (.ref z) (G++[S])->Q .Fp (ο g a.li (.π (i.set p (.ref z)))):=λz g c hz=>by
  have M:Fm [a.li] H (ο g a.li (.π (i.set p (.ref z)))):=(EU.F8 c).trans (eM (by simp))
  refine q _ M (Gj.ON m j M ET ?_)
  obtain⟨tz,vz,ez,r,D⟩:=hz
  cases ez
  have nz:=bH r (c _ _ j) (by intro y;cases y)
  exact⟨z,vz,Λ,by rw[af nz];exact r,F6.F8 (ex:=[a.li]) (λb N=>by simp at N;subst N;exact⟨_,c _ _ j⟩) (eM (by simp)) D⟩
 refine⟨X,t,l,[v],Λ,Λ,Fn.of (d _ _ Z),Fn.of B,by simp,by rw[Χ];simp;omega,λO=>?_,λO x HW=>?_⟩
 ·subst O
  cases A
  refine⟨a.y,ys.Fb,a.dy,_,_,Λ,d _ _ m.ρ,Y.cl,Y.n5,Λ,a.li,i,(p:Int),p,Λ,Λ,d _ _ j,ig L,?_⟩
  exact fin t C d ⟨t,[v],Λ,B,.cons (let ⟨u,e,hu⟩:=I;⟨u,e,d _ _ hu⟩) .nil⟩
 ·have c:=d.new (o:=.tup (l++[v])) HW
  have R:(ο C x (.tup (l++[v]))) x=Α (.tup (l++[v])):=ET
  generalize ο C x (.tup (l++[v]))=g at c R⊢
  refine⟨a.y,ys.Fb,a.dy,_,_,Λ,c _ _ m.ρ,Y.cl,Y.n5,Λ,a.li,i,(p:Int),p,Λ,Λ,c _ _ j,ig L,?_⟩
  exact fin x g c ⟨x,_,Λ,R,F6.snoc (let ⟨u,e,hu⟩:=I;⟨u,e,c _ _ hu⟩) (F6.same c A)⟩
noncomputable def ou(ln:fB)(m c len:Int):fB:={ln with r:=ln.r - 1,h:=if decide (c=len - 1)=Δ then Β else Α m,qs:=ln.qs++[(m,c)]}
noncomputable def gk(s:YS)(m:Nat)(c:Int)(l:Nat)(t:eJ)(ln:fB):YS:={s with EV:=if c=0 then s.EV.set m {t with ω:=t.ω++[l]} else s.EV,γ:=s.γ.set l (ou ln m c t.len)}
inductive lQ(K:Ϣ)(ys:Ys)(vs:List V)(H:Hp)(Q:VK)(E:XK):Prop
 |mk (a:YA) (s:YS) (v:V) (m:Nat) (c:Int) (l:Nat) (t:eJ) (ln:fB) (_:vs=[.ref a.y,v,.int l]) (_:Gj K ys H a s) (_:Cr H v ((m:Int),c)) (_:s.EV[m]?=Α t) (_:s.γ[l]?=Α ln) (_:dZ ln.r ln.h m c=Δ) (_:t.ω.length<=1000) (_:ln.qs.length<100000) (_:∀H',Fm [a.la,a.le] H H'->Gj K ys H' a (gk s m c l t ln)->Q .Fp H')
noncomputable def lF(s:YS)(m:Nat)(t:eJ):YS:={s with EV:=s.EV.set m {t with δ:=t.δ+1}}
inductive uk(K:Ϣ)(ys:Ys)(vs:List V)(H:Hp)(Q:VK)(E:XK):Prop
 |mk (a:YA) (s:YS) (m l:Nat) (t:eJ) (ln:fB) (_:vs=[.ref a.y,.int m,.int l]) (_:Gj K ys H a s) (_:s.EV[m]?=Α t) (_:s.γ[l]?=Α ln) (_:dZ ln.r ln.h m t.δ=Δ) (_:t.ω.length<=1000) (_:ln.qs.length<100000) (_:∀H',Fm [a.la,a.le] H H'->Gj K ys H' a (gk (lF s m t) m t.δ l {t with δ:=t.δ+1} ln)->Q .Fp H')
structure Own(P:Program)(w:À)(K:Ϣ)(mg:Str->Option Ο)(μ:ò)(ys:Ys)(fl ft fp:Ν)(dl dt dp:ë):Prop where
 ml:ck K ys.Fb "own_lane" fl
 bl:Binds K dl ["self","lane"] []
 Gl:EW P w K mg μ aL 4 fl dl ["self","lane"] (ua K ys)
 mt:ck K ys.Fb "own_letter" ft
 bt:Binds K dt ["self","number"] []
 Gt:EW P w K mg μ aL 4 ft dt ["self","number"] (tZ K ys)
 mp:ck K ys.Fu "put" fp
 bp:Binds K dp ["self","letter","count","last"] []
 Gp:EW P w K mg μ aL 2 fp dp ["self","letter","count","last"] (ya ys.Fu)
abbrev NEn:List Str:=["self","piece","lane","last"]
abbrev NGi:List Str:=["self","number","lane","letter"]
theorem Tc:ap NEn ["self","piece","lane"] (ag uy):=L2.F4
theorem zr(F:F0 K "enter" "Yard.enter" uy f fd)(Y:mB K ys)(O:Own P w K mg μ ys fl ft fp dl dt dp):
  EW P w K mg μ aL 5 f fd ["self","piece","lane"] (lQ K ys):=by
 refine F.ok Tc λ_ _ _ s H _ Q E X h=>?_
 obtain⟨a,n,v,m,c,l,t,ln,rfl,p,⟨pt,rfl,N⟩,Z,hl,QY,JN,hql,q⟩:=h
 have G6:Fj 2 _:=X.mono (by decide)
 refine⟨_,ad (gX (aN (ak aQ (ay aK (pv 1) ae (λ_ _=>rfl)) ae (aq _))
   (ah (aU (aZ plainAttrs_list PySem.F.slot_list_append PySem.F.type_list_append cy (ao (aM (pv 0) Y.cl O.mt O.Gt X O.bt .nil aw (aa (ay aK (pv 1) ae (λ_ _=>rfl)) ac)) Λ) (aa (pv 2) ac)))) aG))
  (ad (aA (i:=3) Tc.nd Λ (ό Λ) (dq aQ (ay aK (pv 1) ae (λ_ _=>rfl)) (ax fF (ao (ay aB (ao (pv 0) Λ) (ay aK (pv 1) ae (λ_ _=>rfl)) (λ_ _=>rfl)) Λ) ae) (aq _)))
  (ah (aU (aM (aM (pv 0) Y.cl O.ml O.Gl X O.bl .nil aw (aa (pv 2) ac)) Y.L.cl O.mp O.Gp G6 O.bp .nil aw (aa (ay aK (pv 1) ae (λ_ _=>rfl)) (aa (ay aK (pv 1) ae (λ_ _=>rfl)) (aa (pv 3) ac))))))),?_⟩
 refine⟨λC H'=>C=start NEn [.ref a.y,.ref pt,.int l]/\Fm [a.le] H H'/\∃t1:eJ,t1.len=t.len/\Gj K ys H' a {n with EV:=if c=0 then n.EV.set m {t with ω:=t.ω++[l]} else n.EV}/\(if c=0 then n.EV.set m {t with ω:=t.ω++[l]} else n.EV)[m]?=Α t1,?_,?_⟩
 ·refine⟨pt,_,1,_,Λ,Λ,Fn.of N,aj (j:=1) Λ,Λ,_,Λ,?_⟩
  rw[dz]
  by_cases u:c=0
  ·rw[Ζ u]
   obtain⟨Fo,D,pl⟩:=p.χ
   refine aI ⟨a.y,a.dy,_,Λ,p.ρ,Λ,pt,_,0,_,Λ,Λ,Fn.of N,aj (j:=0) Λ,a,n,m,t,Fo,Λ,p,Z,D,λx dx wa R S nx nw g1 G Mm=>?_⟩
   refine⟨x,ys.EY,dx,_,_,Λ,G,Y.ct,Y.t6,Λ,.inl ⟨Λ,_,EX.of Mm⟩,wa,_,_,Λ,Λ,Mm,by rw[eC,Χ];omega,?_⟩
   have nxw:=bH G Mm (by intro z;cases z)
   have nlw:=ai D nw
   have I:Fm [a.le] H (ο R wa (.π (nV t.ω++[.int l]))):=λb o nb e=>by rw[af (ai e nw)];exact S b o nb e
   have IQ:=Gj.LC p D I (k:=m) (x:=x) (dx:=dx) (wa:=wa) (by rw[af nlw];exact g1) (t:={t with ω:=t.ω++[l]}) (by rw[af nxw];exact G) (by rw[ET,Ep];rfl) nw
   have LD:=(gQ0 Z)
   refine⟨Λ,I,{t with ω:=t.ω++[l]},Λ,?_,?_⟩
   ·rw[Ι u];exact IQ
   ·rw[Ι u];simp[LD]
  ·rw[Η u]
   refine aH ⟨Λ,EU.F8 (EU.refl H),t,Λ,?_,?_⟩
   ·rw[Θ u];exact p
   ·rw[Θ u];exact Z
 ·rintro C R ⟨rfl,S,t1,J,B,VR⟩
  have T:R pt=Α (.tup [.int m,.int c]):=by
   obtain⟨Fo,D,_⟩:=p.χ
   exact S _ _ (by simp;exact bH N D (by intro z;cases z)) N
  obtain⟨Zb,Zc,Zd⟩:=B.χ
  obtain⟨v1,hv1,x1,dx1,wa1,rfl,G,_⟩:=Paired.at2 Zd VR
  refine⟨pt,_,1,_,Λ,Λ,Fn.of T,aj (j:=1) Λ,a.y,ys.Fb,a.dy,_,_,Λ,B.ρ,Y.cl,Y.n4,Λ,pt,_,0,_,Λ,Λ,Fn.of T,aj (j:=0) Λ,a.le,Zb,(m:Int),_,Λ,Λ,EX.of Zc,aj hv1,x1,ys.EY,dx1,_,_,Λ,G,Y.ct,Y.t3,Λ,_,_,Λ,Λ,Λ,?_⟩
  obtain⟨Fx,M,Lf⟩:=B.GX
  refine⟨a.y,a.dy,_,Λ,B.ρ,Λ,a,_,l,ln,Fx,Λ,B,hl,M,λx dx pa F2 H2 I nx np g2 IE=>?_⟩
  have LF:=I _ _ (by simp;exact bH T M (by intro z;cases z)) T
  have FJ:=Paired.length IE.GS
  refine⟨x,dx,_,Λ,IE.ρ,Λ,pt,_,0,_,Λ,Λ,Fn.of LF,aj (j:=0) Λ,pt,_,1,_,Λ,Λ,Fn.of LF,aj (j:=1) Λ,x,dx,pa,ln.r,ln.b,ln.h,F2,ln.qs,(m:Int),c,decide (c=t.len - 1),?_,IE,by omega,(λho=>by rw[QY]at ho;cases ho),λ_ t3 H3 o3 L8=>?_⟩
  ·rw[dz,J];rfl
  have nxl:=ai M nx
  have npl:=ai M np
  have o4:Fm [a.la] R H3:=λb o nb e=>o3 b o (ai e nx) (ai e np) (I b o nb e)
  have JD:=Gj.Jb B M o4 (k:=l) (x:=x) (dx:=dx) (pa:=pa) (o3 _ _ nxl npl g2) (ln:=ou ln m c t.len) L8 np
  exact q H3 ((S.mono (by simp)).trans (o4.mono (by simp))) JD
theorem Td:ap NGi ["self","number","lane"] (ag yF):=L2.F4
theorem BM(F:F0 K "go_in" "Yard.go_in" yF f fd)(Y:mB K ys)(O:Own P w K mg μ ys fl ft fp dl dt dp)(S:ck K ys.Fb "enter" fe)(T:Binds K de ["self","piece","lane"] [])(U:EW P w K mg μ aL 5 fe de ["self","piece","lane"] (lQ K ys)):
  EW P w K mg μ aL 6 f fd ["self","number","lane"] (uk K ys):=by
 refine F.ok Td λ_ _ _ s H _ Q E J h=>?_
 obtain⟨a,n,m,l,t,X,rfl,j,L,Z,QY,JN,p,q⟩:=h
 have J8:Fj 4 _:=J.mono (by decide)
 refine⟨_,ad (aA (i:=3) Td.nd Λ (ό Λ) (aM (pv 0) Y.cl O.mt O.Gt J8 O.bt .nil aw (aa (pv 1) ac)))
  (ad (gE (pv 3) ae qR)
  (ah (aU (aM (pv 0) Y.cl S U J T .nil aw (aa (bF (aa (pv 1) (aa (ax fF (ao (pv 3) Λ) ae) ac))) (aa (pv 2) ac)))))),?_⟩
 obtain⟨Fo,r,pl⟩:=j.χ
 refine⟨a.y,a.dy,_,Λ,j.ρ,Λ,a,n,m,t,Fo,Λ,j,L,r,λx dx wa u o1 M nw g1 v N=>?_⟩
 refine⟨x,ys.EY,dx,_,_,Λ,v,Y.ct,Y.t5,Λ,_,_,Λ,Λ,dx,_,v,by show 6<1000;decide,?_⟩
 have A:=ai r M
 have MI:=bH N v (by intro z;cases z)
 have B:Fm [a.le] H (ο u x (.ρ ys.EY dx (aT "gone" (.int (t.δ+1)) (uQ t wa)))):=λb o nb e=>by rw[af (ai e M)];exact o1 b o nb e
 have C:(ο u x (.ρ ys.EY dx (aT "gone" (.int (t.δ+1)) (uQ t wa)))) x=Α (.ρ ys.EY dx (uQ {t with δ:=t.δ+1} wa)):=ET
 have D:=Gj.LC j r B (k:=m) (x:=x) (dx:=dx) (wa:=wa) (by rw[af A];exact g1) (t:={t with δ:=t.δ+1}) C (by rw[af MI];exact N) nw
 generalize ο u x (.ρ ys.EY dx (aT "gone" (.int (t.δ+1)) (uQ t wa)))=G at B C D⊢
 refine⟨a.y,a.dy,_,Λ,D.ρ,Λ,x,ys.EY,dx,_,_,Λ,C,Y.ct,Y.t5,Λ,_,_,Λ,Λ,by show 2<=Τ;decide,λpt Ke=>?_⟩
 have eg:t.δ+1 - 1=t.δ:=by omega
 have I:=(EU.refl G).new (o:=.tup [.int m,.int t.δ]) Ke
 have R:(ο G pt (.tup [.int m,.int t.δ])) pt=Α (.tup [.int m,.int t.δ]):=ET
 dsimp only
 rw[eg]
 generalize ο G pt (.tup [.int m,.int t.δ])=H3 at I R⊢
 have LD:=(gQ0 L)
 refine⟨a,lF n m t,_,m,t.δ,l,{t with δ:=t.δ+1},X,Λ,Fq.same D I,⟨pt,Λ,R⟩,by unfold lF;simp[LD],Z,QY,JN,p,λH' o' JP=>?_⟩
 exact q H' ((B.mono (by simp)).trans ((EU.F8 I).trans o')) JP
theorem ED(us:List Nat)(i:Nat):dH (nV us) Β (Α (i:Int))=nV (us.take i):=by
 unfold dH
 have b:HT.HK (nV us).length 0 Β=0:=rfl
 rw[b,show HT.HK (nV us).length (nV us).length (Α (i:Int))=min i (nV us).length from HT.Hw _ _ i,drop_zero,Ye]
 unfold nV
 rw[ej,Μ]
 refine List.ext_getElem? λj=>?_
 simp only[List.getElem?_take,Ç]
 by_cases a:j<i
 ·by_cases c:j<us.length
  ·rw[Ι (by omega),Ι a]
  ·rw[Θ (by omega),Ι a,ż (by omega)];rfl
 ·rw[Θ (by omega),Θ a]
theorem Cj(us:List Nat)(i:Nat):dH (nV us) (Α (i:Int)) (Α ((i:Int)+1))=nV ((us.drop i).take 1):=by
 unfold dH
 rw[show HT.HK (nV us).length 0 (Α (i:Int))=min i (nV us).length from HT.Hw _ _ i,show((i:Int)+1)=((i+1:Nat):Int) by omega,show HT.HK (nV us).length (nV us).length (Α ((i+1:Nat):Int))=min (i+1) (nV us).length from HT.Hw _ _ (i+1),eC]
 by_cases h:i<us.length
 ·rw[NM (by omega),NM (by omega),show i+1 - i=1 by omega]
  unfold nV
  rw[ej,map_drop]
 ·rw[Jw (by omega),Jw (by omega),Yf,List.take_zero,ĉ (by omega)];rfl
theorem zF(us:List Nat):nV us=(iz us).map V.int:=(RW us).symm
theorem zZ(k:Nat):∀us:List Nat,(iz us).idxOf (k:Int)=us.idxOf k
 |[]=>rfl
 | u:: us=>by
  have a:=zZ k us
  unfold iz at a⊢
  rw[ϳ,List.idxOf_cons,List.idxOf_cons,a]
  by_cases h:u=k
  ·subst h;simp
  ·have b:((u:Int) == (k:Int))=Ε:=by simp;omega
   have c:(u == k)=Ε:=by simp;exact h
   rw[b,c]
inductive Mv
 |Gq (k l:Nat)|on (k l:Nat)|Hm (k:Nat)|back (k:Nat)
noncomputable def iw:Mv->List V
 |.Gq k l=>[.str "in",.int k,.int l]
 |.on k l=>[.str "on",.int k,.int l]
 |.Hm k=>[.str "lie",.int k]
 |.back k=>[.str "back",.int k]
noncomputable def jo(s:YS)(l:Nat)(m c:Int):Bool:=match s.γ[l]? with
 |some ln=>dZ ln.r ln.h m c
 |none=>Ε
noncomputable def dD(s:YS)(k:Nat):Option (Int×Int):=match s.γ[k]? with
 |some ln=>ln.qs.head?
 |none=>Β
noncomputable def x9(a:YA)(l g:Nat):List Nat:=if (a.ps.getD l (0,0)).2=(g:Int) then [] else a.wy (a.ps.getD l (0,0)).2.toNat g (Α l)
noncomputable def fY(a:YA)(s:YS)(k:Nat):List Nat:=match dD s k with
 |none=>[]
 | some q=>match s.EV[q.1.toNat]? with
  |none=>[]
  |some t=>if q.2=0 then (x9 a k t.ι.toNat).filter λl=>!decide (l∈t.ω) else (t.ω.drop (t.ω.idxOf k+1)).take 1
noncomputable def fU(a:YA)(t:eJ):List Nat:=if t.δ=0 then a.wy t.start.toNat t.ι.toNat Β else t.ω.take 1
noncomputable def j3(a:YA)(s:YS)(k:Nat):List Mv:=match s.EV[k]? with
 |none=>[]
 |some t=>if t.δ=t.len then [] else ((fU a t).filter λl=>jo s l k t.δ).map (Mv.Gq k)
noncomputable def jZ(a:YA)(s:YS)(k:Nat):List Mv:=match dD s k with
 |none=>[]
 |some q=>((fY a s k).filter λl=>jo s l q.1 q.2).map (Mv.on k)
noncomputable def ip(a:YA)(s:YS)(k:Nat):List Mv:=match dD s k with
 |none=>[]
 | some q=>match s.EV[q.1.toNat]? with
  |none=>[]
  |some t=>if t.ι=(a.ps.getD k (0,0)).2 then [.Hm k] else []
noncomputable def fH(s:YS)(k:Nat):List Mv:=match s.γ[k]? with
 |some ln=>if 0<ln.b then [.back k] else []
 |none=>[]
structure Te(a:YA):Prop where
 ends:∀(l:Nat)(pr:Int×Int),a.ps[l]?=Α pr->∃e:Nat,pr.2=(e:Int)/\e<a.n
 F3:∀p g k,(a.wy p g k).length<=400
structure Ze(a:YA)(s:YS):Prop where
 γ:s.γ.length=a.ps.length
 ε:s.ε.length=a.n
 lets:∀(m:Nat)(t:eJ),s.EV[m]?=Α t->∃x y:Nat,t.start=(x:Int)/\t.ι=(y:Int)/\x<a.n/\y<a.n
 GK:∀(m:Nat)(t:eJ),s.EV[m]?=Α t->(∀l∈t.ω,l<a.ps.length)/\t.ω.length<=1000
 GS:∀(k:Nat)(ln:fB),s.γ[k]?=Α ln->∀q∈ln.qs,∃(m:Nat)(t:eJ),q.1=(m:Int)/\s.EV[m]?=Α t/\k∈t.ω
 F3:s.EV.length<=60
structure HP(K:Ϣ)(c:Cs)(TC:Ν)(J:TJ)(ys:Ys)(H:Hp)(a:YA)(s:YS):Prop where
 Y:Gj K ys H a s
 T:YZ c TC J H a
 O:Te a
 G:Ze a s
theorem HP.same(W:Wy K TC fw dw J)(h:HP K c TC J ys H a s)(e:EU H H'):HP K c TC J ys H' a s:=⟨Fq.same h.Y e,Hh.keep W h.T (EU.Fw e),h.O,h.G⟩
inductive vk(K:Ϣ)(c:Cs)(TC:Ν)(J:TJ)(ys:Ys)(f:YA->YS->Nat->List Mv)(len:YS->Nat)(vs:List V)(H:Hp)(Q:VK)(E:XK):Prop
 |mk (a:YA) (s:YS) (k:Nat) (_:vs=[.ref a.y,.int k]) (_:HP K c TC J ys H a s) (_:k<len s) (_:∀(D:Ν)(FV:List V)(H':Hp),EU H H'->H D=Β->H' D=Α (.π FV)->Paired (Hl H') FV ((f a s k).map iw)->Q (.ref D) H')
def ud(K:Ϣ)(c:Cs)(TC:Ν)(J:TJ)(ys:Ys):Sp:=vk K c TC J ys j3 (λs=>s.EV.length)
def uc(K:Ϣ)(c:Cs)(TC:Ν)(J:TJ)(ys:Ys):Sp:=vk K c TC J ys jZ (λs=>s.γ.length)
def qt(K:Ϣ)(c:Cs)(TC:Ν)(J:TJ)(ys:Ys):Sp:=vk K c TC J ys ip (λs=>s.γ.length)
def ng(K:Ϣ)(c:Cs)(TC:Ν)(J:TJ)(ys:Ys):Sp:=vk K c TC J ys (λ_ s k=>fH s k) (λs=>s.γ.length)
inductive mV(K:Ϣ)(c:Cs)(TC:Ν)(J:TJ)(ys:Ys)(vs:List V)(H:Hp)(Q:VK)(E:XK):Prop
 |mk (a:YA) (s:YS) (k:Nat) (_:vs=[.ref a.y,.int k]) (_:HP K c TC J ys H a s) (_:k<s.γ.length) (_:∀(D:Ν)(H':Hp),EU H H'->H D=Β->H' D=Α (.π (nV (fY a s k)))->Q (.ref D) H')
inductive yb(c:Cs)(C:Ν)(J:TJ)(vs:List V)(H:Hp)(Q:VK)(E:XK):Prop
 |mk (a:YA) (l g:Nat) (_:vs=[.ref a.tb,.int l,.int g]) (_:YZ c C J H a) (_:Te a) (_:l<a.ps.length) (_:g<a.n) (_:∀(D:Ν)(H':Hp),EU H H'->H D=Β->H' D=Α (.π (nV (x9 a l g)))->Q (.ref D) H')
theorem re(b:Nat->Bool)(f:Nat->Mv)(C:us.length<Τ)(q:H p=Α (.π (nV us)))
  (E:∀(u:Nat)(a:Hp)(acc:List V)(N:List V->Hp->Prop),u∈us->EU H a->(b u=Δ->∀v c,EU a c->Hl c v (iw (f u))->N (acc++[v]) c)->(b u=Ε->N acc a)->
   g (.int u) σ0 a λj c=>tt j c λb r=>if b=Δ then te j r λy m=>N (acc++[y]) m else N acc r)
  (F:∀D x a,EU H a->a D=Β->Paired (Hl a) x (((us.filter b).map f).map iw)->Q (.ref D) (ο a D (.π x))):ge (AF K p) g tt te σ0 Q H:=by
 refine b8 us.length C (λi acc d=>EU H d/\Paired (Hl d) acc ((((us.take i).filter b).map f).map iw)) ⟨EU.refl _,.nil⟩ (λi acc d h=>by
   rw[Paired.length h.2,Μ,Μ]
   have J:=É b (us.take i)
   have L:=æ i us
   omega) (λi acc d A h=>?_) (λacc d h=>?_)
 ·obtain⟨s,l⟩:=h
  have n:=Ψ A
  refine⟨⟨_,_,EX.of (s _ _ q),zG n⟩,λv c y=>?_⟩
  obtain⟨rfl,y⟩:=y
  have o:=y _ (EX.of (s _ _ q))
  rw[zG n]at o
  cases o
  refine E us[i] c acc (λG m=>EU H m/\Paired (Hl m) G ((((us.take (i+1)).filter b).map f).map iw)) (ÿ A) s (λt v r B o=>⟨s.trans B,?_⟩) (λt=>⟨s,?_⟩)
  ·rw[í,n,Ú]
   have e:(Α us[i]).toList.filter b=[us[i]]:=by simp[t]
   rw[e,ϗ,ϗ]
   exact Paired.snoc o (Paired.mono (λ_ _ z=>z.keep (EU.Fw B)) l)
  ·rw[í,n,Ú]
   have e:(Α us[i]).toList.filter b=[]:=by simp[t]
   rw[e,ķ]
   exact l
 ·obtain⟨s,l⟩:=h
  rw[Ó]at l
  exact⟨⟨_,EX.of (s _ _ q),by rw[eC];exact ϛ _⟩,λD I=>F D acc d s I l⟩
noncomputable def DE(s:Ã):Scope:=match s with
 |.Return (Α (.ListComp _ _ sc _)) _=>sc
 |_=>zQ0
noncomputable def E3(s:Ã):Scope:=match s with
 |.If _ [s'] _ _=>DE s'
 |_=>zQ0
abbrev NMi:List Str:=["self","number","letter","wanted"]
abbrev NWa:List Str:=["self","lane","piece","letter","behind"]
abbrev NMo:List Str:=["self","lane","piece","wanted"]
theorem OQ:ap NMi ["self","number"] (ag rN):=L2.F4
theorem Zf:FQ NMi (ag rN) (DE ((aJ rN).getD 3 (.Pass ⟨0,0,0,0⟩))) ["self","number","letter"] [0,1,2]:=L2.GR
theorem Zg:(["lane","self","number","letter"]:List Str).Nodup:=by decide +kernel
theorem BD(F:F0 K "moves_in" "Yard.moves_in" rN f fd)(Y:mB K ys)(W:Wy K TC fw dw J)(OI:EW P w K mg μ aL 3 fw dw ["self","place","goal","came"] (iR J))
  (mo:ck K ys.Fu "open_to" fo) (bo:Binds K Jk ["self","letter","count"] []) (Go:EW P w K mg μ aL 1 fo Jk ["self","letter","count"] (nc ys.Fu)):
  EW P w K mg μ aL 4 f fd ["self","number"] (ud K c TC J ys):=by
 refine F.ok OQ λ_ _ _ s H _ Q E hr h=>?_
 obtain⟨a,I,k,rfl,e,hk,q⟩:=h
 have FI:Fj 1 _:=hr.mono (by decide)
 refine⟨_,ad (aA (i:=2) OQ.nd Λ (Ř Λ) (ay aB (ao (pv 0) Λ) (pv 1) (λ_ _=>rfl)))
  (ad (aN (ak aQ (ao (pv 2) Λ) (ao (pv 2) Λ) (aq _)) (ah (az (aP ac))) aG)
  (ad (aA (i:=3) OQ.nd Λ (ό Λ) (iY (cI (ak aQ (ao (pv 2) Λ) ae (aq _)) (aM (ao (pv 0) Λ) W.cl W.m OI hr W.b .nil aw (aa (ao (pv 2) Λ) (aa (ao (pv 2) Λ) (aa bA ac)))) (aX bJ (ao (pv 2) Λ) bC (bz ae)))))
  (ah (az (aV (own:=["lane"]) (capN:=["self","number","letter"]) (cap:=[0,1,2]) Zf Λ (bu (pv 3)) (λC s' H' fp=>⟨aE (i:=0) Zg Λ (ό Λ),cU (b9 (aM (ay (show oS _ (nN K) from aB) (show PE _ _ (xS K (jh 1) "lanes") from ao (pv 1) Λ) (pv 0) (λ_ _=>rfl)) Y.L.cl mo Go FI bo .nil aw (aa (pv 2) (aa (show PE _ _ (xS K (jh 3) "gone") from ao (pv 3) Λ) ac)))),bF (aa aD (aa (pv 2) (aa (pv 0) ac)))⟩)))))),?_⟩
 have Z:=e.Y
 obtain⟨Fo,HD,pl⟩:=Z.χ
 obtain⟨t,ht⟩:∃t,I.EV[k]?=Α t:=⟨_,Ψ hk⟩
 obtain⟨v,hv,x,o,wa,rfl,p,hw,_⟩:=Paired.at2 pl ht
 obtain⟨x0,y0,e1,e2,VS,Qp⟩:=e.G.lets k t ht
 obtain⟨JN,hw9⟩:=e.G.GK k t ht
 unfold j3 at q
 rw[ht]at q
 refine⟨a.y,ys.Fb,a.dy,_,_,Λ,Z.ρ,Y.cl,Y.n4,Λ,a.le,Fo,(k:Int),_,Λ,Λ,EX.of HD,aj hv,x,ys.EY,o,_,_,Λ,p,Y.ct,Y.t5,Λ,x,ys.EY,o,_,_,Λ,p,Y.ct,Y.t3,Λ,Λ,_,Λ,?_⟩
 rw[dz]
 by_cases S:t.δ=t.len
 ·rw[Ζ S]
  dsimp only at q
  rw[Ι S]at q
  exact aI ⟨Ä _,λD M=>q D [] _ ((EU.refl H).new M) M ET .nil⟩
 rw[Η S]
 dsimp only at q
 rw[Θ S]at q
 refine aH ⟨λv U=>∃D,v=.ref D/\EU H U/\U D=Α (.π (nV (fU a t))),?_,?_⟩
 ·refine⟨x,ys.EY,o,_,_,Λ,p,Y.ct,Y.t5,Λ,Λ,_,Λ,?_⟩
  rw[dz]
  unfold fU
  by_cases d:t.δ=0
  ·rw[Ζ d,Ι d]
   obtain⟨JO,fst,JA,FK,JB⟩:=e.T.i
   refine aI ⟨a.y,ys.Fb,a.dy,_,_,Λ,Z.ρ,Y.cl,Y.n1,Λ,a.tb,JO,fst,Λ,JA,JB,x,ys.EY,o,_,_,Λ,p,Y.ct,Y.t1,Λ,x,ys.EY,o,_,_,Λ,p,Y.ct,Y.t2,Λ,?_⟩
   rw[e1,e2,Ϙ,Ϙ]
   exact⟨a.tb,a.n,a.wy,x0,y0,Β,Λ,e.T.j,VS,Qp,λD U B M X=>⟨D,Λ,B,X⟩⟩
  ·rw[Η d,Θ d]
   refine aH ⟨x,ys.EY,o,_,_,Λ,p,Y.ct,Y.t6,Λ,_,Λ,wa,_,Λ,EX.of hw,λD M=>⟨D,Λ,(EU.refl H).new M,?_⟩⟩
   rw[ET,show((1:Int))=((1:Nat):Int) from Λ,ED]
 rintro v U ⟨D,rfl,B,X⟩
 have IF:=e.same W B
 have Ja:=IF.Y
 have Hk:=B _ _ p
 obtain⟨Fx,GB,Lf⟩:=Ja.GX
 have Yu:(fU a t).length<=1000:=by
  unfold fU
  by_cases d:t.δ=0
  ·rw[Ι d];exact ώ (e.O.F3 _ _ _) (by decide)
  ·rw[Θ d];rw[Ñ];omega
 have LG:∀u∈fU a t,u<a.ps.length:=λu A=>by
  unfold fU at A
  by_cases d:t.δ=0
  ·rw[Ι d,e1,e2,Ϙ,Ϙ]at A;exact e.T.ok _ _ _ VS Qp u A
  ·rw[Θ d]at A;exact JN u (Ď A)
 refine⟨D,Λ,⟨_,EX.of X⟩,?_⟩
 refine re (λl=>jo I l k t.δ) (Mv.Gq k) (by rw[Χ];omega) X (λu H2 acc N A R MP Gu=>?_) (λD2 L4 H2 R Hd hp=>?_)
 ·have JE:=IF.same W R
  obtain⟨OR,OS,OT⟩:=JE.Y.GX
  have Tf:u<I.γ.length:=by rw[e.G.γ];exact LG u A
  obtain⟨g,FA⟩:∃g,I.γ[u]?=Α g:=⟨_,Ψ Tf⟩
  obtain⟨vl,MQ,xl,JC,NR,OU,rfl,hL,_⟩:=Paired.at2 OT FA
  refine⟨a.y,ys.Fb,a.dy,_,_,Λ,JE.Y.ρ,Y.cl,Y.n3,Λ,a.la,OR,(u:Int),_,Λ,Λ,EX.of OS,aj MQ,xl,JC,_,Λ,hL.ρ,Λ,x,ys.EY,o,_,_,Λ,R _ _ Hk,Y.ct,Y.t5,Λ,xl,JC,NR,g.r,g.b,g.h,(k:Int),t.δ,Λ,hL.ρ,_,Λ,?_⟩
  have eo:jo I u k t.δ=dZ g.r g.h k t.δ:=by unfold jo;rw[FA]
  cases ho:dZ g.r g.h k t.δ with
  |false=>exact aH (Gu (by rw[eo,ho]))
  |true=>exact aI ⟨by show 3<=Τ;decide,λz hz=>MP (by rw[eo,ho]) _ _ ((EU.refl H2).new hz) ⟨z,Λ,ET⟩⟩
 ·exact q D2 L4 _ ((B.trans R).new Hd) (B.free (R.free Hd)) ET (Paired.mono (λ_ _ z=>z.keep (EU.Fw ((EU.refl H2).new Hd))) hp)
theorem oF(h:F6 H F2 qs):(qs.head?=Β/\uU F2=.Fp)∨∃q pt,qs.head?=Α q/\uU F2=.ref pt/\H pt=Α (.tup [.int q.1,.int q.2]):=by
 cases h with
 |nil=>exact .inl ⟨Λ,Λ⟩
 |cons x r=>obtain⟨t,rfl,a⟩:=x;exact .inr ⟨_,t,Λ,Λ,a⟩
theorem Tg:ap ["table","lane","goal","end"] ["table","lane","goal"] (ag Y4):=L2.F4
theorem Eb(F:F0 K "onward" "onward" Y4 f fd)(L:tI K c)(W:Wy K C fw dw J)(x:EW P w K mg μ aL 3 fw dw ["self","place","goal","came"] (iR J))
  (M:Cu K c fe de) (y:EW P w K mg μ aL 1 fe de ["self","lane"] (yi c Í)):EW P w K mg μ aL 4 f fd ["table","lane","goal"] (yb c C J):=by
 refine F.ok Tg λ_ _ _ s H _ Q E t h=>?_
 obtain⟨a,l,g,rfl,d,z,A,B,q⟩:=h
 have G:Fj 1 _:=t.mono (by decide)
 refine⟨_,ad (aA (i:=3) Tg.nd Λ (ό Λ) (aM (ao (pv 0) Λ) L.cl M.m y G M.b .nil aw (aa (pv 1) ac)))
  (ah (az (cI (ak aQ (pv 3) (pv 2) (aq _)) (aP ac) (aM (pv 0) W.cl W.m x t W.b .nil aw (aa (pv 3) (aa (pv 2) (aa (pv 1) ac))))))),?_⟩
 obtain⟨u,fs,v,I,N⟩:=d.i
 have r:=Ψ A
 have O:a.ps.getD l (0,0)=a.ps[l]:=by rw[Ò,r];rfl
 unfold x9 at q
 rw[O]at q
 obtain⟨e,ee,R⟩:=z.ends l _ r
 refine⟨a.tb,C,u,fs,_,Λ,v,W.cl,W.nl,I,a.lx,a.F1,_,Λ,d.l.1,Λ,a.lx,a.F1,a.lt,(a.n:Int),a.Fo,a.ps,l,_,Λ,d.l,r,?_⟩
 rw[ee]at q⊢
 rw[Ϙ]at q
 refine⟨Λ,_,Λ,?_⟩
 rw[dz]
 by_cases o:(e:Int)=(g:Int)
 ·rw[Ζ o]
  rw[Ι o]at q
  exact aI ⟨Ä _,λD p=>q D _ ((EU.refl H).new p) p ET⟩
 ·rw[Η o]
  rw[Θ o]at q
  exact aH ⟨a.tb,u,fs,Λ,v,N,a.tb,a.n,a.wy,e,g,Α l,Λ,d.j,R,B,λD U S p T=>q D _ S p T⟩
theorem MR:ap NWa ["self","lane"] (ag jK):=L2.F4
theorem Zi:FQ NWa (ag jK) (E3 ((aJ jK).getD 3 (.Pass ⟨0,0,0,0⟩))) ["letter"] [3]:=L2.GR
theorem Zj:(["way","letter"]:List Str).Nodup:=by decide +kernel
theorem wK(F:F0 K "wanted" "Yard.wanted" jK f fd)(Y:mB K ys)(W:Wy K TC fw dw J)
  (mf:ck K ys.Fu "front" ff) (bf:Binds K df ["self"] []) (Gf:EW P w K mg μ aL 1 ff df ["self"] (jH ys.Fu))
  (mo:mg "onward"=Α (.ref fo)) (ko:Ϩ K (.ref fo)=Δ) (bo:Binds K Jk ["table","lane","goal"] []) (Go:EW P w K mg μ aL 4 fo Jk ["table","lane","goal"] (yb c TC J)):
  EW P w K mg μ aL 5 f fd ["self","lane"] (mV K c TC J ys):=by
 refine F.ok MR λ_ _ _ s H _ Q E hr h=>?_
 obtain⟨a,st,k,rfl,d,hk,q⟩:=h
 have FI:Fj 1 _:=hr.mono (by decide)
 refine⟨_,ad (aA (i:=2) MR.nd Λ (ό Λ) (bY (ay aB (ao (pv 0) Λ) (pv 1) (λ_ _=>rfl)) Y.L.cl mf Gf FI bf .nil aw))
  (ad (aN (ak kW (pv 2) bA (aq _)) (ah (az (aP ac))) aG)
  (ad (aA (i:=3) MR.nd Λ (Ř Λ) (ay aB (ao (pv 0) Λ) (ay aK (pv 2) ae (λ_ _=>rfl)) (λ_ _=>rfl)))
  (ad (aN (ak aQ (ay aK (pv 2) ae (λ_ _=>rfl)) ae (aq _))
   (ah (az (aV (own:=["way"]) (capN:=["letter"]) (cap:=[3]) Zi Λ (bu (au Go hr Λ mo ko bo .nil aw (aa (ao (pv 0) Λ) (aa (pv 1) (aa (ao (pv 3) Λ) ac))))) (λC s' H' fp=>⟨aE (i:=0) Zj Λ (ό Λ),cU (ak (show fW _ (compareOp .NotIn) (XA K Δ) from qL) (pv 0) (show PE _ _ (xS K (jh 1) "way") from ao (pv 1) Λ) (by with_unfolding_all rfl)),pv 0⟩)))) aG)
  (ad (aA (i:=4) MR.nd Λ (ό Λ) (ax bL (aZ plainAttrs_list PySem.F.slot_list_index PySem.F.type_list_index wU (ao (pv 3) Λ) (aa (pv 1) ac)) ae))
  (ah (az (aX bJ (ao (pv 3) Λ) (bz (pv 4)) (bz (ax bL (pv 4) ae))))))))),?_⟩
 have o:=d.Y
 obtain⟨Fx,GB,Lf⟩:=o.GX
 obtain⟨g,FA⟩:∃g,st.γ[k]?=Α g:=⟨_,Ψ hk⟩
 obtain⟨vl,MQ,xl,JC,NR,OU,rfl,X,_⟩:=Paired.at2 Lf FA
 refine⟨a.y,ys.Fb,a.dy,_,_,Λ,o.ρ,Y.cl,Y.n3,Λ,a.la,Fx,(k:Int),_,Λ,Λ,EX.of GB,aj MQ,xl,JC,_,Λ,X.ρ,Λ,xl,JC,NR,g.r,g.b,g.h,OU,g.qs,Λ,X,?_⟩
 unfold fY dD at q
 rw[FA]at q
 dsimp only at q
 rcases oF X.GS with ⟨A,Z⟩|⟨pq,pt,A,Z,Ke⟩
 ·rw[A]at q
  rw[Z]
  exact⟨Λ,_,Λ,aI ⟨Ä _,λD n=>q D _ ((EU.refl H).new n) n ET⟩⟩
 rw[A]at q
 rw[Z]
 have hqm:=Ĝ A
 obtain⟨m,t,em,B,OV⟩:=d.G.GS k g FA pq hqm
 obtain⟨x0,p,e1,e2,VS,Qp⟩:=d.G.lets m t B
 obtain⟨JN,hw9⟩:=d.G.GK m t B
 rw[em]at Ke
 dsimp only at q
 rw[em,Ϙ,B]at q
 dsimp only at q
 refine⟨Λ,_,Λ,aH ?_⟩
 obtain⟨Fo,HD,pl⟩:=o.χ
 obtain⟨v,hv,x,I,wa,rfl,M,R,_⟩:=Paired.at2 pl B
 refine⟨a.y,ys.Fb,a.dy,_,_,Λ,o.ρ,Y.cl,Y.n4,Λ,pt,_,0,_,Λ,Λ,Fn.of Ke,aj (j:=0) Λ,a.le,Fo,(m:Int),_,Λ,Λ,EX.of HD,aj hv,pt,_,1,_,Λ,Λ,Fn.of Ke,aj (j:=1) Λ,Λ,_,Λ,?_⟩
 rw[dz]
 by_cases S:pq.2=0
 ·rw[Ζ S]
  rw[Ι S,e2,Ϙ]at q
  refine aI ⟨a.y,ys.Fb,a.dy,_,_,Λ,o.ρ,Y.cl,Y.n1,Λ,x,ys.EY,I,_,_,Λ,M,Y.ct,Y.t2,Λ,?_⟩
  rw[e2]
  refine⟨a,k,p,Λ,d.T,d.O,by rw[←d.G.γ];exact hk,Qp,λD H1 U n gD=>⟨D,Λ,⟨_,EX.of gD⟩,?_⟩⟩
  have V7:(x9 a k p).length<=400:=by
   unfold x9
   by_cases z:(a.ps.getD k (0,0)).2=(p:Int)
   ·rw[Ι z];exact Ä _
   ·rw[Θ z];exact d.O.F3 _ _ _
  refine sV (λv=>match v with|.int i=>!decide (i∈iz t.ω)|_=>Ε) (λv=>v) (by rw[eC,Χ];omega) (EX.of gD) (λy acc N hy h=>?_) (λD2 Hd=>?_)
  ·obtain⟨u,hu,rfl⟩:=iF hy
   refine⟨x,ys.EY,I,_,_,Λ,U _ _ M,Y.ct,Y.t6,Λ,wa,_,Λ,.inl (EX.of (U _ _ R)),Λ,by rw[zF];exact lu _,_,Λ,?_⟩
   rw[zF,qT]
   have h:N (if (!decide ((u:Int)∈iz t.ω))=Δ then acc++[V.int u] else acc) H1:=h
   cases hb:decide ((u:Int)∈iz t.ω) with
   | true =>
    rw[hb]at h
    exact aH h
   | false =>
    rw[hb]at h
    exact aI h
  ·have e:((nV (x9 a k p)).filter (λv=>match v with|.int i=>!decide (i∈iz t.ω)|_=>Ε)).map (λv=>v)=nV ((x9 a k p).filter λl=>!decide (l∈t.ω)):=by
    rw[List.map_id']
    unfold nV
    rw[List.filter_map]
    congr 1
    refine List.filter_congr λu _=>?_
    show(!decide ((u:Int)∈iz t.ω))=_
    rw[zW]
   rw[e]
   exact q D2 _ (U.new Hd) (U.free Hd) ET
 ·rw[Η S]
  rw[Θ S]at q
  refine aH ⟨x,ys.EY,I,_,_,Λ,M,Y.ct,Y.t6,Λ,.inl ⟨Λ,_,EX.of R⟩,wa,iz t.ω,(k:Int),Λ,Λ,by rw[←zF];exact R,GJ.mpr ⟨k,OV,Λ⟩,by unfold iz;rw[Μ];omega,_,_,Λ,Λ,?_⟩
  rw[zZ]
  refine⟨x,ys.EY,I,_,_,Λ,M,Y.ct,Y.t6,Λ,_,Λ,_,_,Λ,Λ,_,Λ,wa,_,Λ,EX.of R,λD n=>?_⟩
  have e:dH (nV t.ω) (Α (((t.ω.idxOf k:Nat):Int)+1)) (Α (((t.ω.idxOf k:Nat):Int)+1+1))=nV ((t.ω.drop (t.ω.idxOf k+1)).take 1):=by
   have:=Cj t.ω (t.ω.idxOf k+1)
   rw[←this]
   rfl
  dsimp only
  rw[e]
  exact q D _ ((EU.refl H).new n) n ET
theorem OW:ap NMo ["self","lane"] (ag rM):=L2.F4
theorem Zk:FQ NMo (ag rM) (DE ((aJ rM).getD 2 (.Pass ⟨0,0,0,0⟩))) ["self","lane","piece"] [0,1,2]:=L2.GR
theorem Zl:(["other","self","lane","piece"]:List Str).Nodup:=by decide +kernel
theorem BC(F:F0 K "moves_on" "Yard.moves_on" rM f fd)(Y:mB K ys)(W:Wy K TC fw dw J)
  (mf:ck K ys.Fu "front" ff) (bf:Binds K df ["self"] []) (Gf:EW P w K mg μ aL 1 ff df ["self"] (jH ys.Fu))
  (ma:ck K ys.Fb "wanted" fa) (ba:Binds K da ["self","lane"] []) (Ga:EW P w K mg μ aL 5 fa da ["self","lane"] (mV K c TC J ys))
  (mo:ck K ys.Fu "open_to" fo) (bo:Binds K Jk ["self","letter","count"] []) (Go:EW P w K mg μ aL 1 fo Jk ["self","letter","count"] (nc ys.Fu)):
  EW P w K mg μ aL 6 f fd ["self","lane"] (uc K c TC J ys):=by
 refine F.ok OW λ_ _ _ s H _ Q E hr h=>?_
 obtain⟨a,n,k,rfl,o,X,q⟩:=h
 have FI:Fj 1 _:=hr.mono (by decide)
 refine⟨_,ad (aA (i:=2) OW.nd Λ (Ř Λ) (bY (ay aB (ao (pv 0) Λ) (pv 1) (λ_ _=>rfl)) Y.L.cl mf Gf FI bf .nil aw))
  (ad (aA (i:=3) OW.nd Λ (ό Λ) (aM (pv 0) Y.cl ma Ga hr ba .nil aw (aa (pv 1) ac)))
  (ah (az (aV (own:=["other"]) (capN:=["self","lane","piece"]) (cap:=[0,1,2]) Zk Λ (bu (pv 3)) (λC s' H' fp=>⟨aE (i:=0) Zl Λ (ό Λ),cU (b9 (aM (ay (show oS _ (nN K) from aB) (show PE _ _ (xS K (jh 1) "lanes") from ao (pv 1) Λ) (pv 0) (λ_ _=>rfl)) Y.L.cl mo Go FI bo .nil aw (aa (ay (show oS _ (nM K) from aK) (pv 3) ae (λ_ _=>rfl)) (aa (ay (show oS _ (nM K) from aK) (pv 3) ae (λ_ _=>rfl)) ac)))),bF (aa aD (aa (pv 2) (aa (pv 0) ac)))⟩))))),?_⟩
 have Z:=o.Y
 obtain⟨Fx,GB,Lf⟩:=Z.GX
 obtain⟨p,FA⟩:∃p,n.γ[k]?=Α p:=⟨_,Ψ X⟩
 obtain⟨vl,MQ,xl,JC,NR,OU,rfl,hL,_⟩:=Paired.at2 Lf FA
 refine⟨a.y,ys.Fb,a.dy,_,_,Λ,Z.ρ,Y.cl,Y.n3,Λ,a.la,Fx,(k:Int),_,Λ,Λ,EX.of GB,aj MQ,xl,JC,_,Λ,hL.ρ,Λ,xl,JC,NR,p.r,p.b,p.h,OU,p.qs,Λ,hL,a.y,a.dy,_,Λ,Z.ρ,Λ,a,n,k,Λ,o,X,λD H1 A hD S=>?_⟩
 refine⟨D,Λ,⟨_,EX.of S⟩,?_⟩
 have IF:=o.same W A
 have eF:dD n k=p.qs.head?:=by unfold dD;rw[FA]
 have LG:∀u∈fY a n k,u<a.ps.length:=λu d=>by
  unfold fY at d
  rw[eF]at d
  cases hq:p.qs.head? with
  |none=>rw[hq]at d;cases d
  | some g =>
   rw[hq]at d
   obtain⟨m,t,em,hm,OV⟩:=o.G.GS k p FA g (Ĝ hq)
   obtain⟨x0,y0,e1,e2,VS,Qp⟩:=o.G.lets m t hm
   dsimp only at d
   rw[em,Ϙ,hm]at d
   dsimp only at d
   by_cases I:g.2=0
   ·rw[Ι I,e2,Ϙ]at d
    have d:=(Ì.mp d).1
    unfold x9 at d
    by_cases z:(a.ps.getD k (0,0)).2=(y0:Int)
    ·rw[Ι z]at d;cases d
    ·rw[Θ z]at d
     have Qq:k<a.ps.length:=by rw[←o.G.γ];exact X
     obtain⟨e,ee,Th⟩:=o.O.ends k _ (Ψ Qq)
     have NS:a.ps.getD k (0,0)=a.ps[k]:=by rw[Ò,Ψ Qq];rfl
     rw[NS,ee,Ϙ]at d
     exact o.T.ok _ _ _ Th Qp u d
   ·rw[Θ I]at d
    exact(o.G.GK m t hm).1 u (ī (Ď d))
 have JN:(fY a n k).length<=1000:=by
  unfold fY
  cases dD n k with
  |none=>exact Ä _
  | some g =>
   dsimp only
   cases n.EV[g.1.toNat]? with
   |none=>exact Ä _
   | some t =>
    dsimp only
    by_cases I:g.2=0
    ·rw[Ι I]
     refine ώ (É _ _) ?_
     unfold x9
     by_cases z:(a.ps.getD k (0,0)).2=((t.ι.toNat:Nat):Int)
     ·rw[Ι z];exact Ä _
     ·rw[Θ z];exact ώ (o.O.F3 _ _ _) (by decide)
    ·rw[Θ I,Ñ];omega
 unfold jZ at q
 rw[eF]at q
 rcases oF hL.GS with ⟨U,ef⟩|⟨g,pt,U,ef,Ke⟩
 ·have e0:fY a n k=[]:=by unfold fY;rw[eF,U]
  rw[U]at q
  rw[e0]at S
  refine re (λl=>Ε) (Mv.on k) (by rw[Χ];decide) S (λu B acc N d v MP Gu=>by cases d) (λD2 L4 B v x hp=>?_)
  exact q D2 L4 _ ((A.trans v).new x) (A.free (v.free x)) ET (Paired.mono (λ_ _ z=>z.keep (EU.Fw ((EU.refl B).new x))) hp)
 rw[U]at q
 dsimp only at q
 rw[ef]
 refine re (λl=>jo n l g.1 g.2) (Mv.on k) (by rw[Χ];omega) S (λu B acc N d v MP Gu=>?_) (λD2 L4 B v x hp=>?_)
 ·have JE:=IF.same W v
  obtain⟨OR,OS,OT⟩:=JE.Y.GX
  have Tf:u<n.γ.length:=by rw[o.G.γ];exact LG u d
  obtain⟨GV,Ir⟩:∃p,n.γ[u]?=Α p:=⟨_,Ψ Tf⟩
  obtain⟨vu,hvu,xu,M,pau,pvu,rfl,R,_⟩:=Paired.at2 OT Ir
  have LF:=v _ _ (A _ _ Ke)
  refine⟨a.y,ys.Fb,a.dy,_,_,Λ,JE.Y.ρ,Y.cl,Y.n3,Λ,a.la,OR,(u:Int),_,Λ,Λ,EX.of OS,aj hvu,xu,M,_,Λ,R.ρ,Λ,pt,_,0,_,Λ,Λ,Fn.of LF,aj (j:=0) Λ,pt,_,1,_,Λ,Λ,Fn.of LF,aj (j:=1) Λ,xu,M,pau,GV.r,GV.b,GV.h,g.1,g.2,Λ,R.ρ,_,Λ,?_⟩
  have eo:jo n u g.1 g.2=dZ GV.r GV.h g.1 g.2:=by unfold jo;rw[Ir]
  cases ho:dZ GV.r GV.h g.1 g.2 with
  |false=>exact aH (Gu (by rw[eo,ho]))
  |true=>exact aI ⟨by show 3<=Τ;decide,λz hz=>MP (by rw[eo,ho]) _ _ ((EU.refl B).new hz) ⟨z,Λ,ET⟩⟩
 ·exact q D2 L4 _ ((A.trans v).new x) (A.free (v.free x)) ET (Paired.mono (λ_ _ z=>z.keep (EU.Fw ((EU.refl B).new x))) hp)
theorem Ti:ap ["self","lane","piece"] ["self","lane"] (ag uu):=L2.F4
theorem zl(F:F0 K "moves_lie" "Yard.moves_lie" uu f fd)(Y:mB K ys)(L:tI K c)(W:Wy K TC fw dw J)
  (mf:ck K ys.Fu "front" ff) (bf:Binds K df ["self"] []) (Gf:EW P w K mg μ aL 1 ff df ["self"] (jH ys.Fu)) (M:Cu K c fe de) (Ge:EW P w K mg μ aL 1 fe de ["self","lane"] (yi c Í)):
  EW P w K mg μ aL 2 f fd ["self","lane"] (qt K c TC J ys):=by
 refine F.ok Ti λ_ _ _ s H _ Q E N h=>?_
 obtain⟨a,O,k,rfl,g,R,q⟩:=h
 refine⟨_,ad (aA (i:=2) Ti.nd Λ (ό Λ) (bY (ay aB (ao (pv 0) Λ) (pv 1) (λ_ _=>rfl)) Y.L.cl mf Gf N bf .nil aw))
  (ad (aN (PW.pt (dQ (ak kW (pv 2) bA (aq _)) (dL (ak lB (ao (ay aB (ao (pv 0) Λ) (ay aK (pv 2) ae (λ_ _=>rfl)) (λ_ _=>rfl)) Λ) (aM (ao (ao (pv 0) Λ) Λ) L.cl M.m Ge N M.b .nil aw (aa (pv 1) ac)) (aq _))))) (ah (az (aP ac))) aG)
  (ah (az (aP (aa (bF (aa aD (aa (pv 1) ac))) ac))))),?_⟩
 have p:=g.Y
 obtain⟨Fx,GB,Lf⟩:=p.GX
 obtain⟨e,FA⟩:∃e,O.γ[k]?=Α e:=⟨_,Ψ R⟩
 obtain⟨vl,MQ,S,U,NR,OU,rfl,B,_⟩:=Paired.at2 Lf FA
 refine⟨a.y,ys.Fb,a.dy,_,_,Λ,p.ρ,Y.cl,Y.n3,Λ,a.la,Fx,(k:Int),_,Λ,Λ,EX.of GB,aj MQ,S,U,_,Λ,B.ρ,Λ,S,U,NR,e.r,e.b,e.h,OU,e.qs,Λ,B,?_⟩
 have eF:dD O k=e.qs.head?:=by unfold dD;rw[FA]
 unfold ip at q
 rw[eF]at q
 rcases oF B.GS with ⟨u,C⟩|⟨pq,pt,u,C,X⟩
 ·rw[u]at q
  rw[C]
  exact⟨Λ,_,Λ,aI (aI ⟨Ä _,λD d=>q D [] _ ((EU.refl H).new d) d ET .nil⟩)⟩
 rw[u]at q
 rw[C]
 obtain⟨m,t,Z,hm,OV⟩:=g.G.GS k e FA pq (Ĝ u)
 rw[Z]at X
 dsimp only at q
 rw[Z,Ϙ,hm]at q
 dsimp only at q
 obtain⟨Fo,HD,pl⟩:=p.χ
 obtain⟨v,hv,x,dx,wa,rfl,hx,hw,_⟩:=Paired.at2 pl hm
 obtain⟨JO,I,JA,FK,JB⟩:=g.T.i
 have Qq:k<a.ps.length:=by rw[←g.G.γ];exact R
 have he:=Ψ Qq
 have NS:a.ps.getD k (0,0)=a.ps[k]:=by rw[Ò,he];rfl
 rw[NS]at q
 refine⟨Λ,_,Λ,aH ⟨a.y,ys.Fb,a.dy,_,_,Λ,p.ρ,Y.cl,Y.n4,Λ,pt,_,0,_,Λ,Λ,Fn.of X,aj (j:=0) Λ,a.le,Fo,(m:Int),_,Λ,Λ,EX.of HD,aj hv,x,ys.EY,dx,_,_,Λ,hx,Y.ct,Y.t2,Λ,a.y,ys.Fb,a.dy,_,_,Λ,p.ρ,Y.cl,Y.n1,Λ,a.tb,TC,JO,I,_,Λ,JA,W.cl,W.nl,FK,a.lx,a.F1,_,Λ,g.T.l.1,Λ,a.lx,a.F1,a.lt,(a.n:Int),a.Fo,a.ps,k,_,Λ,g.T.l,he,Λ,_,Λ,?_⟩⟩
 rw[dz]
 by_cases A:t.ι=a.ps[k].2
 ·rw[Ζ A]
  rw[Ι A]at q
  refine aH ⟨by show 2<=Τ;decide,λz hz=>⟨by show 1<=Τ;decide,λD d=>?_⟩⟩
  have s2:=(EU.refl H).new (o:=.tup [.str "lie",.int k]) hz
  have gz:(ο H z (.tup [.str "lie",.int k])) z=Α (.tup [.str "lie",.int k]):=ET
  exact q D [.ref z] _ (s2.new d) (s2.free d) ET (.cons ⟨z,Λ,by rw[af (ai gz d)];exact gz⟩ .nil)
 ·rw[Η A]
  rw[Θ A]at q
  exact aI ⟨Ä _,λD d=>q D [] _ ((EU.refl H).new d) d ET .nil⟩
theorem Zm:ap ["self","lane"] ["self","lane"] (ag qF):=L2.F4
theorem wR(F:F0 K "moves_back" "Yard.moves_back" qF f fd)(Y:mB K ys):EW P w K mg μ aL 1 f fd ["self","lane"] (ng K c TC J ys):=by
 refine F.ok Zm λ_ _ _ s H _ Q E C h=>?_
 obtain⟨a,l,k,rfl,m,n,q⟩:=h
 refine⟨_,ah (az (cI (ak jW (ao (ay aB (ao (pv 0) Λ) (pv 1) (λ_ _=>rfl)) Λ) ae (aq _)) (aP (aa (bF (aa aD (aa (pv 1) ac))) ac)) (aP ac))),?_⟩
 have i:=m.Y
 obtain⟨p,r,t⟩:=i.GX
 obtain⟨g,FA⟩:∃g,l.γ[k]?=Α g:=⟨_,Ψ n⟩
 obtain⟨G,u,v,x,I,M,rfl,A,_⟩:=Paired.at2 t FA
 unfold fH at q
 rw[FA]at q
 dsimp only at q
 refine⟨a.y,ys.Fb,a.dy,_,_,Λ,i.ρ,Y.cl,Y.n3,Λ,a.la,p,(k:Int),_,Λ,Λ,EX.of r,aj u,v,ys.Fu,x,_,_,Λ,A.ρ,Y.L.cl,Y.L.n2,Λ,_,_,Λ,Λ,_,Λ,?_⟩
 by_cases e:0<g.b
 ·rw[Ζ e]
  rw[Ι e]at q
  refine aI ⟨by show 2<=Τ;decide,λz B=>⟨by show 1<=Τ;decide,λD d=>?_⟩⟩
  have j:=(EU.refl H).new (o:=.tup [.str "back",.int k]) B
  have gz:(ο H z (.tup [.str "back",.int k])) z=Α (.tup [.str "back",.int k]):=ET
  exact q D [.ref z] _ (j.new d) (j.free d) ET (.cons ⟨z,Λ,by rw[af (ai gz d)];exact gz⟩ .nil)
 ·rw[Η e]
  rw[Θ e]at q
  exact aH ⟨Ä _,λD d=>q D [] _ ((EU.refl H).new d) d ET .nil⟩
theorem zM(h:H F=Α (.π xs)):FD H (ο H F o):=λb u e n=>by
 have a:b≠F:=λz=>by rw[z,h]at e;cases e;exact n
 rw[af a];exact e
theorem gN{a:Type}(f:Nat->List a)(i:Nat):(Ϝ (i+1)).flatMap f=(Ϝ i).flatMap f++f i:=by
 rw[Œ,ĵ];simp
theorem bG{a:Type}{f:Nat->List a}(h:∀i,(f i).length<=1000):∀i,((Ϝ i).flatMap f).length<=1000* i
 |0=>by simp
 |i+1=>by rw[gN,Ξ];have:=bG h i;have:=h i;omega
theorem gG(O:Te a)(G:Ze a s)(k:Nat):(j3 a s k).length<=1000:=by
 unfold j3
 cases d:s.EV[k]? with
 |none=>exact Ä _
 | some t =>
  dsimp only
  by_cases b:t.δ=t.len
  ·rw[Ι b];exact Ä _
  rw[Θ b,Μ]
  refine ώ (É _ _) ?_
  unfold fU
  by_cases c:t.δ=0
  ·rw[Ι c];exact ώ (O.F3 _ _ _) (by decide)
  ·rw[Θ c,Ñ];omega
theorem gF(O:Te a)(k:Nat):(jZ a s k).length<=1000:=by
 unfold jZ
 cases d:dD s k with
 |none=>exact Ä _
 | some b =>
  dsimp only
  rw[Μ]
  refine ώ (É _ _) ?_
  unfold fY
  rw[d]
  dsimp only
  cases s.EV[b.1.toNat]? with
  |none=>exact Ä _
  | some t =>
   dsimp only
   by_cases c:b.2=0
   ·rw[Ι c]
    refine ώ (É _ _) ?_
    unfold x9
    by_cases z:(a.ps.getD k (0,0)).2=((t.ι.toNat:Nat):Int)
    ·rw[Ι z];exact Ä _
    ·rw[Θ z];exact ώ (O.F3 _ _ _) (by decide)
   ·rw[Θ c,Ñ];omega
theorem fM(a:YA)(s:YS)(k:Nat):(ip a s k).length<=1000:=by
 unfold ip
 cases dD s k with
 |none=>exact Ä _
 | some c =>
  dsimp only
  cases s.EV[c.1.toNat]? with
  |none=>exact Ä _
  | some t =>
   dsimp only
   by_cases b:t.ι=(a.ps.getD k (0,0)).2
   ·rw[Ι b];show 1<=1000;decide
   ·rw[Θ b];exact Ä _
theorem oj(s:YS)(k:Nat):(fH s k).length<=1000:=by
 unfold fH
 cases s.γ[k]? with
 |none=>exact Ä _
 | some c =>
  dsimp only
  by_cases a:0<c.b
  ·rw[Ι a];show 1<=1000;decide
  ·rw[Θ a];exact Ä _
noncomputable def bQ(a:YA)(s:YS):List Mv:=(Ϝ s.EV.length).flatMap (j3 a s)++(Ϝ s.γ.length).flatMap (jZ a s)++(Ϝ s.γ.length).flatMap (ip a s)++(Ϝ s.γ.length).flatMap (fH s)
inductive lP(K:Ϣ)(c:Cs)(TC:Ν)(J:TJ)(ys:Ys)(vs:List V)(H:Hp)(Q:VK)(E:XK):Prop
 |mk (a:YA) (s:YS) (_:vs=[.ref a.y]) (_:HP K c TC J ys H a s) (_:∀(D:Ν)(FV:List V)(H':Hp),EU H H'->H D=Β->H' D=Α (.π FV)->Paired (Hl H') FV ((bQ a s).map iw)->Q (.ref D) H')
theorem Paired.app{a:List α}{b:List β}(h:Paired R a b):∀{as:List α}{bs:List β},Paired R as bs->Paired R (as++a) (bs++b):=λc=>by
 induction c with
 |nil=>exact h
 |cons x r d=>exact .cons x d
theorem lW{xs c:List Mv}(f:H F=Β)(g:EU H H2)(h:H2 F=Α (.π vs))(i:Paired (Hl H2) vs (xs.map iw))(a:EU H2 H3)(j:Paired (Hl H3) FV (c.map iw)):
  EU H (ο H3 F (.π (vs++FV)))/\(ο H3 F (.π (vs++FV))) F=Α (.π (vs++FV))/\Paired (Hl (ο H3 F (.π (vs++FV)))) (vs++FV) ((xs++c).map iw):=by
 refine⟨λb o e=>by rw[af (ai e f)];exact a _ _ (g _ _ e),ET,?_⟩
 have d:FD H3 (ο H3 F (.π (vs++FV))):=zM (a _ _ h)
 rw[ϗ]
 have l:=Paired.mono (λ_ _ z=>z.keep (FD.trans (EU.Fw a) d)) i
 have m:=Paired.mono (λ_ _ z=>z.keep d) j
 exact Paired.app m l
abbrev NMs:List Str:=["self","found","number","lane"]
theorem KL:ap NMs ["self"] (ag uv):=L2.F4
structure Zn(P:Program)(w:À)(K:Ϣ)(mg:Str->Option Ο)(μ:ò)(c:Cs)(TC:Ν)(J:TJ)(ys:Ys)(fi fo fl fb:Ν)(di Jk dl db:ë):Prop where
 mi:ck K ys.Fb "moves_in" fi
 bi:Binds K di ["self","number"] []
 Gi:EW P w K mg μ aL 4 fi di ["self","number"] (ud K c TC J ys)
 mo:ck K ys.Fb "moves_on" fo
 bo:Binds K Jk ["self","lane"] []
 Go:EW P w K mg μ aL 6 fo Jk ["self","lane"] (uc K c TC J ys)
 ml:ck K ys.Fb "moves_lie" fl
 bl:Binds K dl ["self","lane"] []
 Gl:EW P w K mg μ aL 2 fl dl ["self","lane"] (qt K c TC J ys)
 mb:ck K ys.Fb "moves_back" fb
 bb:Binds K db ["self","lane"] []
 Gb:EW P w K mg μ aL 1 fb db ["self","lane"] (ng K c TC J ys)
theorem zm(F:F0 K "moves" "Yard.moves" uv f fd)(T:Txt mg)(Y:mB K ys)(W:Wy K TC fw dw J)(M:Zn P w K mg μ c TC J ys fi fo fl fb di Jk dl db):
  EW P w K mg μ aL 7 f fd ["self"] (lP K c TC J ys):=by
 refine F.ok KL λ_ _ _ s H _ Q E hr h=>?_
 obtain⟨a,b,rfl,e,q⟩:=h
 have FI:Fj 1 _:=hr.mono (by decide)
 have G6:Fj 2 _:=hr.mono (by decide)
 have J8:Fj 4 _:=hr.mono (by decide)
 refine⟨_,ad (aA (i:=1) KL.nd Λ (ό Λ) (aP ac))
  (ad (cF ç Λ (b6 Λ T.range (aa (aF aC Λ T.len PySem.boot_len (aa (ao (pv 0) Λ) ac)) ac)) (aE (i:=2) KL.nd Λ (ό Λ)) (ah (aU (aZ plainAttrs_list slot_list_extend type_list_extend eE (pv 1) (aa (aM (pv 0) Y.cl M.mi M.Gi J8 M.bi .nil aw (aa (pv 2) ac)) ac)))))
  (ad (cF ç Λ (b6 Λ T.range (aa (aF aC Λ T.len PySem.boot_len (aa (ao (pv 0) Λ) ac)) ac)) (aE (i:=3) KL.nd Λ (ό Λ)) (ah (aU (aZ plainAttrs_list slot_list_extend type_list_extend eE (pv 1) (aa (aM (pv 0) Y.cl M.mo M.Go hr M.bo .nil aw (aa (pv 3) ac)) ac)))))
  (ad (cF ç Λ (b6 Λ T.range (aa (aF aC Λ T.len PySem.boot_len (aa (ao (pv 0) Λ) ac)) ac)) (aE (i:=3) KL.nd Λ (ό Λ)) (ah (aU (aZ plainAttrs_list slot_list_extend type_list_extend eE (pv 1) (aa (aM (pv 0) Y.cl M.ml M.Gl G6 M.bl .nil aw (aa (pv 3) ac)) ac)))))
  (ad (cF ç Λ (b6 Λ T.range (aa (aF aC Λ T.len PySem.boot_len (aa (ao (pv 0) Λ) ac)) ac)) (aE (i:=3) KL.nd Λ (ό Λ)) (ah (aU (aZ plainAttrs_list slot_list_extend type_list_extend eE (pv 1) (aa (aM (pv 0) Y.cl M.mb M.Gb FI M.bb .nil aw (aa (pv 3) ac)) ac)))))
  (ah (az (pv 1))))))),?_⟩
 have hlet:=e.G.F3
 have hlan:b.γ.length<=40:=by rw[e.G.γ];exact e.T.F3
 refine⟨Ä _,λj R=>?_⟩
 have s0:=(EU.refl H).new (o:=.π []) R
 have g0:(ο H j (.π [])) j=Α (.π []):=ET
 generalize ο H j (.π [])=H0 at s0 g0⊢
 have Zo:∃d,EU H H0/\H0 j=Α (.π d)/\Paired (Hl H0) d (([]:List Mv).map iw):=⟨[],s0,g0,.nil⟩
 obtain⟨MD,S,g0',p0'⟩:=Zo
 have U:=(e.same W S).Y
 obtain⟨X,gl0,pl0⟩:=U.χ
 have Zp:=Paired.length pl0
 refine⟨a.y,ys.Fb,a.dy,_,_,Λ,U.ρ,Y.cl,Y.n4,Λ,a.le,_,Λ,.inl (EX.of gl0),((X.length:Nat):Int),Λ,by omega,by omega,?_⟩
 rw[Ϙ,Zp]
 refine cz (n:=b.EV.length) (λi t g=>∃u v:Option V,(∃d,EU H g/\g j=Α (.π d)/\Paired (Hl g) d (((Ϝ i).flatMap (j3 a b)).map iw))/\t=[Α (.ref a.y),Α (.ref j),u,v]) ?_ ?_ ?_
 ·exact⟨_,_,⟨MD,S,g0',by simpa using p0'⟩,Λ⟩
 ·rintro i t g B ⟨u,v,⟨d,p,l,r⟩,rfl⟩
  rw[ł]
  have x:=e.same W p
  refine⟨.inl ⟨Λ,_,EX.of l⟩,a.y,a.dy,_,Λ,x.Y.ρ,Λ,a,b,i,Λ,x,B,λD m H3 z hD C A=>?_⟩
  have l1:d.length<=1000000:=by
   rw[Paired.length r,Μ]
   have h0:=bG (gG e.O e.G) b.EV.length
   have h1:=bG (gF (s:=b) e.O) b.γ.length
   have h2:=bG (fM a b) b.γ.length
   have hh:=bG (gG e.O e.G) i
   try simp only[Ξ]
   omega
  have l2:m.length<=1000:=by rw[Paired.length A,Μ];exact(gG e.O e.G) i
  obtain⟨I,L,N⟩:=lW R p l r z A
  refine⟨j,D,d,m,Λ,Λ,z _ _ l,C,by rw[Χ];omega,_,_,⟨d++m,I,L,?_⟩,Λ⟩
  rw[gN]
  exact N
 rintro σ0 H1 ⟨a20,a30,Z,rfl⟩
 obtain⟨vs1,Qs,g1',p1'⟩:=Z
 have Ja:=(e.same W Qs).Y
 obtain⟨tv1,gl1,Zd⟩:=Ja.GX
 have Zq:=Paired.length Zd
 refine⟨a.y,ys.Fb,a.dy,_,_,Λ,Ja.ρ,Y.cl,Y.n3,Λ,a.la,_,Λ,.inl (EX.of gl1),((tv1.length:Nat):Int),Λ,by omega,by omega,?_⟩
 rw[Ϙ,Zq]
 refine cz (n:=b.γ.length) (λi t g=>∃u v:Option V,(∃d,EU H g/\g j=Α (.π d)/\Paired (Hl g) d ((((Ϝ b.EV.length).flatMap (j3 a b))++(Ϝ i).flatMap (jZ a b)).map iw))/\t=[Α (.ref a.y),Α (.ref j),u,v]) ?_ ?_ ?_
 ·exact⟨_,_,⟨vs1,Qs,g1',by simpa using p1'⟩,Λ⟩
 ·rintro i t g B ⟨u,v,⟨d,p,l,r⟩,rfl⟩
  rw[ł]
  have x:=e.same W p
  refine⟨.inl ⟨Λ,_,EX.of l⟩,a.y,a.dy,_,Λ,x.Y.ρ,Λ,a,b,i,Λ,x,B,λD m H3 z hD C A=>?_⟩
  have l1:d.length<=1000000:=by
   rw[Paired.length r,Μ]
   have h0:=bG (gG e.O e.G) b.EV.length
   have h1:=bG (gF (s:=b) e.O) b.γ.length
   have h2:=bG (fM a b) b.γ.length
   have hh:=bG (gF (s:=b) e.O) i
   try simp only[Ξ]
   omega
  have l2:m.length<=1000:=by rw[Paired.length A,Μ];exact(gF (s:=b) e.O) i
  obtain⟨I,L,N⟩:=lW R p l r z A
  refine⟨j,D,d,m,Λ,Λ,z _ _ l,C,by rw[Χ];omega,_,_,⟨d++m,I,L,?_⟩,Λ⟩
  rw[gN]
  rw[←Ù];exact N
 rintro σ1 g ⟨a21,a31,inv2,rfl⟩
 obtain⟨L4,s2',g2',p2'⟩:=inv2
 have IQ:=(e.same W s2').Y
 obtain⟨tv2,gl2,pl2⟩:=IQ.GX
 have Zr:=Paired.length pl2
 refine⟨a.y,ys.Fb,a.dy,_,_,Λ,IQ.ρ,Y.cl,Y.n3,Λ,a.la,_,Λ,.inl (EX.of gl2),((tv2.length:Nat):Int),Λ,by omega,by omega,?_⟩
 rw[Ϙ,Zr]
 refine cz (n:=b.γ.length) (λi t g=>∃u v:Option V,(∃d,EU H g/\g j=Α (.π d)/\Paired (Hl g) d ((((Ϝ b.EV.length).flatMap (j3 a b)++(Ϝ b.γ.length).flatMap (jZ a b))++(Ϝ i).flatMap (ip a b)).map iw))/\t=[Α (.ref a.y),Α (.ref j),u,v]) ?_ ?_ ?_
 ·exact⟨_,_,⟨L4,s2',g2',by simpa using p2'⟩,Λ⟩
 ·rintro i t g B ⟨u,v,⟨d,p,l,r⟩,rfl⟩
  rw[ł]
  have x:=e.same W p
  refine⟨.inl ⟨Λ,_,EX.of l⟩,a.y,a.dy,_,Λ,x.Y.ρ,Λ,a,b,i,Λ,x,B,λD m H3 z hD C A=>?_⟩
  have l1:d.length<=1000000:=by
   rw[Paired.length r,Μ]
   have h0:=bG (gG e.O e.G) b.EV.length
   have h1:=bG (gF (s:=b) e.O) b.γ.length
   have h2:=bG (fM a b) b.γ.length
   have hh:=bG (fM a b) i
   try simp only[Ξ]
   omega
  have l2:m.length<=1000:=by rw[Paired.length A,Μ];exact(fM a b) i
  obtain⟨I,L,N⟩:=lW R p l r z A
  refine⟨j,D,d,m,Λ,Λ,z _ _ l,C,by rw[Χ];omega,_,_,⟨d++m,I,L,?_⟩,Λ⟩
  rw[gN]
  rw[←Ù];exact N
 rintro σ2 H3 ⟨a22,a32,Zs,rfl⟩
 obtain⟨vs3,s3',g3',p3'⟩:=Zs
 have JD:=(e.same W s3').Y
 obtain⟨tv3,gl3,pl3⟩:=JD.GX
 have Zt:=Paired.length pl3
 refine⟨a.y,ys.Fb,a.dy,_,_,Λ,JD.ρ,Y.cl,Y.n3,Λ,a.la,_,Λ,.inl (EX.of gl3),((tv3.length:Nat):Int),Λ,by omega,by omega,?_⟩
 rw[Ϙ,Zt]
 refine cz (n:=b.γ.length) (λi t g=>∃u v:Option V,(∃d,EU H g/\g j=Α (.π d)/\Paired (Hl g) d ((((Ϝ b.EV.length).flatMap (j3 a b)++(Ϝ b.γ.length).flatMap (jZ a b)++(Ϝ b.γ.length).flatMap (ip a b))++(Ϝ i).flatMap (fH b)).map iw))/\t=[Α (.ref a.y),Α (.ref j),u,v]) ?_ ?_ ?_
 ·exact⟨_,_,⟨vs3,s3',g3',by simpa using p3'⟩,Λ⟩
 ·rintro i t g B ⟨u,v,⟨d,p,l,r⟩,rfl⟩
  rw[ł]
  have x:=e.same W p
  refine⟨.inl ⟨Λ,_,EX.of l⟩,a.y,a.dy,_,Λ,x.Y.ρ,Λ,a,b,i,Λ,x,B,λD m H3 z hD C A=>?_⟩
  have l1:d.length<=1000000:=by
   rw[Paired.length r,Μ]
   have h0:=bG (gG e.O e.G) b.EV.length
   have h1:=bG (gF (s:=b) e.O) b.γ.length
   have h2:=bG (fM a b) b.γ.length
   have hh:=bG (oj b) i
   try simp only[Ξ]
   omega
  have l2:m.length<=1000:=by rw[Paired.length A,Μ];exact(oj b) i
  obtain⟨I,L,N⟩:=lW R p l r z A
  refine⟨j,D,d,m,Λ,Λ,z _ _ l,C,by rw[Χ];omega,_,_,⟨d++m,I,L,?_⟩,Λ⟩
  rw[gN]
  rw[←Ù];exact N
 rintro σ3 H4 ⟨a23,a33,Zu,rfl⟩
 obtain⟨d,p,l,r⟩:=Zu
 exact(q j d _ p R l r)
structure Tj(K:Ϣ):Prop where
 ss:ü K (.type "str") (.type "str")=Α Δ
 ns:ü K (.type "int") (.type "str")=Α Ε
 os:ü K (.type "NoneType") (.type "str")=Α Ε
 tt:ü K (.type "tuple") (.type "tuple")=Α Δ
theorem pe(h:a≠b):decide (V.str a=V.str b)=Ε:=Η λz=>h (by injection z)
theorem nq(a:Str):decide (V.str a=V.str a)=Δ:=Ζ Λ
noncomputable def iV:Option Int->V
 |some i =>.int i
 |none =>.Fp
noncomputable def tO(x:Str)(zs:List (Option Int)):List V:=.str x:: zs.map iV
inductive uh(vs:List V)(H:Hp)(Q:VK)(E:XK):Prop
 |mk (p:Ν) (x:Str) (zs:List (Option Int)) (_:vs=[.ref p]) (_:H p=Α (.tup (tO x zs))) (_:zs.length<=99) (_:∀H',EU H H'->Q (.bl (zs.all ô)) H')
noncomputable def Cl(s:Ã):Scope:=match s with
 |.Return (Α (.BoolOp _ [_,.Call _ [.ListComp _ _ sc _] _ _] _)) _=>sc
 |_=>zQ0
noncomputable def Tn(a:YA)(s:YS):Mv->List Mv
 |.Gq k _=>j3 a s k
 |.on k _=>jZ a s k
 |.Hm k=>ip a s k
 |.back k=>fH s k
def Tp(s:YS):Mv->Prop
 |.Gq k _=>k<s.EV.length
 |.on k _=>k<s.γ.length
 |.Hm k=>k<s.γ.length
 |.back k=>k<s.γ.length
theorem Zv:ap ["move"] ["move"] (ag rP):=L2.F4
theorem Zw:FQ ["move"] (ag rP) (Cl ((aJ rP).getD 0 (.Pass ⟨0,0,0,0⟩))) [] []:=L2.GR
theorem Zx:(["thing"]:List Str).Nodup:=by decide +kernel
theorem BH(F:F0 K "is_move" "is_move" rP f fd)(T:Txt mg)(Z:Tj K)(d:mg "is_whole"=Α (.ref fh))(e:Ϩ K (.ref fh)=Δ)(g:Binds K dh ["value"] [])(G:EW P w K mg μ aL 1 fh dh ["value"] gr):
  EW P w K mg μ aL 2 f fd ["move"] uh:=by
 refine F.ok Zv λ_ _ _ s H _ Q E j h=>?_
 obtain⟨p,x,a,rfl,b,m,q⟩:=h
 refine⟨_,ah (az (gi (aF iN Λ T.O8 ä (aa (pv 0) (aa (jU (v:=.ty "tuple") Λ T.tuple PySem.Pv.boot_tuple Λ) ac)))
  (gh (aF (kB Λ) Λ T.all Ļ (aa (aV (own:=["thing"]) (capN:=[]) (cap:=[]) Zw Λ (kS (pv 0)) (λC n o r=>⟨aE (i:=0) Zx Λ (ό Λ),bB,
   QJ (aF (show F5 _ (.builtin "isinstance") (RF K) from iN) Λ T.O8 ä (aa (pv 0) (aa (jU (v:=.ty "str") Λ T.str PySem.Pv.boot_str Λ) ac))) (gh (au G j Λ d e g .nil aw (aa (pv 0) ac)))⟩)) ac))))),?_⟩
 refine⟨.ref p,_,"tuple",Δ,Λ,.tup b,Z.tt,Δ,Λ,aI ⟨p,Λ,⟨_,Fn.of b⟩,?_⟩⟩
 refine rf (λv =>.bl (match v with|.Fp=>Ε|_=>Δ)) (by rw[Χ];unfold tO;rw[Ϛ,Μ];omega) (Fn.of b) (λv N c h=>?_) (λD l=>⟨D,Δ:: a.map ô,Λ,EX.of ?_,?_⟩)
 ·rcases ύ.mp c with rfl|c
  ·exact⟨.str x,_,"str",Δ,Λ,.str x,Z.ss,Δ,Λ,aI h⟩
  ·obtain⟨z,_,rfl⟩:=ϟ.mp c
   cases z with
   |some z=>exact⟨.int z,_,"str",Ε,Λ,.int z,Z.ns,Ε,Λ,aH ⟨.int z,Λ,.int z,h⟩⟩
   |none=>exact⟨.Fp,_,"str",Ε,Λ,.Fp,Z.os,Ε,Λ,aH ⟨.Fp,Λ,.Fp,h⟩⟩
 ·rw[ET]
  unfold tO
  rw[ϳ,ϳ,Á,Á]
  congr 3
  refine Æ λz _=>?_
  cases z<;>rfl
 ·rw[show (Δ:: a.map ô).all id=a.all ô by rw[rg,W3];rfl]
  exact q _ ((EU.refl H).new l)
theorem Zy:ap ["self","move"] ["self","move"] (ag yA):=L2.F4
noncomputable def e6(ln:fB):fB:={ln with b:=ln.b+1,qs:=ln.qs.tail}
noncomputable def CI(ln:fB):fB:={ln with r:=ln.r+1,b:=ln.b - 1}
inductive IG(a:YA)(s:YS):Mv->YS->Prop
 | Gq {k l:Nat} {t:eJ} {ln:fB} (ht:s.EV[k]?=Α t) (hg:t.δ≠t.len) (hl:l∈fU a t) (FA:s.γ[l]?=Α ln) (ho:dZ ln.r ln.h k t.δ=Δ):
  IG a s (.Gq k l) (gk (lF s k t) k t.δ l {t with δ:=t.δ+1} ln)
 | on {k l m:Nat} {c:Int} {lk ln:fB} {t:eJ} (hk:s.γ[k]?=Α lk) (hq:lk.qs.head?=Α ((m:Int),c)) (ht:s.EV[m]?=Α t) (hl:l∈fY a s k) (FA:(s.γ.set k (e6 lk))[l]?=Α ln) (ho:dZ ln.r ln.h m c=Δ):
  IG a s (.on k l) (gk {s with γ:=s.γ.set k (e6 lk)} m c l t ln)
 | Hm {k m e:Nat} {c:Int} {lk:fB} {t:eJ} {qs:List (Int×Int)} (hk:s.γ[k]?=Α lk) (hq:lk.qs.head?=Α ((m:Int),c)) (ht:s.EV[m]?=Α t) (hg:t.ι=(e:Int)) (he:(a.ps.getD k (0,0)).2=(e:Int)) (Jc:s.ε[e]?=Α qs):
  IG a s (.Hm k) {s with γ:=s.γ.set k (e6 lk),ε:=s.ε.set e (qs++[((m:Int),c)])}
 |back {k:Nat} {lk:fB} (hk:s.γ[k]?=Α lk) (hb:0<lk.b):IG a s (.back k) {s with γ:=s.γ.set k (CI lk)}
theorem IG.done(h:IG a s m s'):s'.done=s.done:=by
 cases h<;>rfl
structure VT(s:YS):Prop where
 q:∀(k:Nat)(ln:fB),s.γ[k]?=Α ln->ln.qs.length<=10000
 l:∀(p:Nat)(qs:List (Int×Int)),s.ε[p]?=Α qs->qs.length<=10000
 d:s.done.length<=100000
theorem nR(h:jo s l m c=Δ):∃a,s.γ[l]?=Α a/\dZ a.r a.h m c=Δ:=by
 unfold jo at h
 cases b:s.γ[l]? with
 |none=>rw[b]at h;cases h
 |some a=>rw[b]at h;exact⟨a,Λ,h⟩
theorem uM(h:m∈j3 a s k):∃l t b,m=.Gq k l/\s.EV[k]?=Α t/\t.δ≠t.len/\l∈fU a t/\s.γ[l]?=Α b/\dZ b.r b.h k t.δ=Δ:=by
 unfold j3 at h
 cases d:s.EV[k]? with
 |none=>rw[d]at h;cases h
 | some t =>
  rw[d]at h
  dsimp only at h
  by_cases c:t.δ=t.len
  ·rw[Ι c]at h;cases h
  rw[Θ c]at h
  obtain⟨l,e,rfl⟩:=ϟ.mp h
  obtain⟨f,g⟩:=Ì.mp e
  obtain⟨b,i,j⟩:=nR g
  exact⟨l,t,b,Λ,Λ,c,f,i,j⟩
theorem uL(h:m∈jZ a s k):∃l q lk c,m=.on k l/\s.γ[k]?=Α lk/\lk.qs.head?=Α q/\l∈fY a s k/\s.γ[l]?=Α c/\dZ c.r c.h q.1 q.2=Δ:=by
 unfold jZ at h
 cases b:dD s k with
 |none=>rw[b]at h;cases h
 | some q =>
  rw[b]at h
  dsimp only at h
  obtain⟨l,e,rfl⟩:=ϟ.mp h
  obtain⟨f,g⟩:=Ì.mp e
  obtain⟨c,i,j⟩:=nR g
  unfold dD at b
  cases d:s.γ[k]? with
  |none=>rw[d]at b;cases b
  |some lk=>rw[d]at b;exact⟨l,q,lk,c,Λ,Λ,b,f,i,j⟩
theorem vA(h:m∈ip a s k):∃q lk t,m=.Hm k/\s.γ[k]?=Α lk/\lk.qs.head?=Α q/\s.EV[q.1.toNat]?=Α t/\t.ι=(a.ps.getD k (0,0)).2:=by
 unfold ip at h
 cases b:dD s k with
 |none=>rw[b]at h;cases h
 | some q =>
  rw[b]at h
  dsimp only at h
  cases c:s.EV[q.1.toNat]? with
  |none=>rw[c]at h;cases h
  | some t =>
   rw[c]at h
   dsimp only at h
   by_cases d:t.ι=(a.ps.getD k (0,0)).2
   ·rw[Ι d]at h
    have f:m=.Hm k:=by simpa using h
    unfold dD at b
    cases e:s.γ[k]? with
    |none=>rw[e]at b;cases b
    |some lk=>rw[e]at b;exact⟨q,lk,t,f,Λ,b,c,d⟩
   ·rw[Θ d]at h;cases h
theorem sx(h:m∈fH s k):∃lk,m=.back k/\s.γ[k]?=Α lk/\0<lk.b:=by
 unfold fH at h
 cases c:s.γ[k]? with
 |none=>rw[c]at h;cases h
 | some lk =>
  rw[c]at h
  dsimp only at h
  by_cases a:0<lk.b
  ·rw[Ι a]at h;exact⟨lk,by simpa using h,Λ,a⟩
  ·rw[Θ a]at h;cases h
theorem lf(h:m∈bQ a s):Tp s m/\m∈Tn a s m:=by
 unfold bQ at h
 rw[ϝ,ϝ,ϝ]at h
 rcases h with ((h|h)|h)|h
 ·obtain⟨k,b,h⟩:=þ.mp h
  obtain⟨l,t,c,rfl,_⟩:=uM h
  exact⟨î.mp b,h⟩
 ·obtain⟨k,b,h⟩:=þ.mp h
  obtain⟨l,q,lk,c,rfl,_⟩:=uL h
  exact⟨î.mp b,h⟩
 ·obtain⟨k,b,h⟩:=þ.mp h
  obtain⟨q,lk,t,rfl,_⟩:=vA h
  exact⟨î.mp b,h⟩
 ·obtain⟨k,b,h⟩:=þ.mp h
  obtain⟨lk,rfl,_⟩:=sx h
  exact⟨î.mp b,h⟩
noncomputable def xA:Mv->ĩ
 |.Gq k l =>.tuple [.str "in",.int k,.int l]
 |.on k l =>.tuple [.str "on",.int k,.int l]
 |.Hm k =>.tuple [.str "lie",.int k]
 |.back k =>.tuple [.str "back",.int k]
theorem iU(h:õ x=Δ):Ih (.str x) 0:=⟨by simp[Ŗ,h],by simp[Ů]⟩
theorem uo(m:Mv):Ih (xA m) 1:=by
 cases m<;>refine pA (m:=0) λy a=>?_<;>simp only[ύ,ϡ,or_false]at a
 ·rcases a with rfl|rfl|rfl
  ·exact iU (by decide +kernel)
  ·exact gW _
  ·exact gW _
 ·rcases a with rfl|rfl|rfl
  ·exact iU (by decide +kernel)
  ·exact gW _
  ·exact gW _
 ·rcases a with rfl|rfl
  ·exact iU (by decide +kernel)
  ·exact gW _
 ·rcases a with rfl|rfl
  ·exact iU (by decide +kernel)
  ·exact gW _
theorem EB(m:Mv)(h:H p=Α (.tup (iw m))):mF K H (.ref p) (xA m):=by
 cases m<;>refine .tup (Fn.of h) ?_
 ·exact .cons (.str _) (.cons (.int _) (.cons (.int _) .nil))
 ·exact .cons (.str _) (.cons (.int _) (.cons (.int _) .nil))
 ·exact .cons (.str _) (.cons (.int _) .nil)
 ·exact .cons (.str _) (.cons (.int _) .nil)
theorem k7:∀{b:List V}{a:List Mv},Paired (Hl H) b (a.map iw)->oW K H b (a.map xA)
 |[],[],_ =>.nil
 |_:: _,m:: a,.cons ⟨t,e,h⟩ r=>by subst e;exact .cons (EB m h) (k7 r)
 |[],_:: _,h=>by cases h
 |_:: _,[],h=>by cases h
theorem EK{a:List Mv}(h:m∈a):((a.map xA).any λy=>Ĕ y (xA m))=Δ:=by
 rw[Oh]
 exact⟨xA m,ϟ.mpr ⟨m,h,Λ⟩,I1 _ (uo m).1⟩
noncomputable def gI(a:YA)(s:YS)(x:Str)(z:Int):List Mv:=if x="in" then (if 0<=z/\z<=(s.EV.length:Int) - 1 then j3 a s z.toNat else []) else if 0<=z/\z<=(s.γ.length:Int) - 1 then (if x="on" then jZ a s z.toNat else if x="lie" then ip a s z.toNat else if x="back" then fH s z.toNat else []) else []
noncomputable def lD(a:YA)(s:YS)(x:Str):List (Option Int)->List Mv
 |some z:: zs=>if zs.all ô then gI a s x z else []
 |_=>[]
inductive ue(K:Ϣ)(c:Cs)(TC:Ν)(J:TJ)(ys:Ys)(vs:List V)(H:Hp)(Q:VK)(E:XK):Prop
 |mk (a:YA) (s:YS) (p:Ν) (x:Str) (zs:List (Option Int)) (_:vs=[.ref a.y,.ref p]) (_:HP K c TC J ys H a s) (_:H p=Α (.tup (tO x zs))) (_:zs.length<=90) (_:∀(D:Ν)(FV:List V)(H':Hp),EU H H'->H D=Β->H' D=Α (.π FV)->Paired (Hl H') FV ((lD a s x zs).map iw)->Q (.ref D) H')
theorem BG(F:F0 K "moves_like" "Yard.moves_like" yA f fd)(T:Txt mg)(Y:mB K ys)(W:Wy K TC fw dw J)(M:Zn P w K mg μ c TC J ys fi fo fl fb di Jk dl db)
  (mm:mg "is_move"=Α (.ref fm)) (km:Ϩ K (.ref fm)=Δ) (bm:Binds K dm ["move"] []) (Gm:EW P w K mg μ aL 2 fm dm ["move"] uh)
  (Z:mg "is_within"=Α (.ref fn)) (kn:Ϩ K (.ref fn)=Δ) (bn:Binds K dn ["value","least","most"] []) (Gn:EW P w K mg μ aL 2 fn dn ["value","least","most"] e9):
  EW P w K mg μ aL 7 f fd ["self","move"] (ue K c TC J ys):=by
 refine F.ok Zy λ_ _ _ s H _ Q E A h=>?_
 obtain⟨a,g,p,x,zs,rfl,hI,B,hz9,q⟩:=h
 have FI:Fj 1 _:=A.mono (by decide)
 have C:Fj 2 _:=A.mono (by decide)
 have J8:Fj 4 _:=A.mono (by decide)
 refine⟨_,ad (aN (gc (PW.pt (dQ (bV (b9 (au Gm C Λ mm km bm .nil aw (aa (pv 1) ac)))) (dL (ak lC (aF aC Λ T.len PySem.boot_len (aa (pv 1) ac)) ae (aq _)))))) (ah (az (aP ac))) aG)
  (ad (aN (ak aQ (ay aK (pv 1) ae (λ_ _=>rfl)) aD (aq _))
   (ah (az (cI (b9 (au Gn C Λ Z kn bn .nil aw (aa (ay aK (pv 1) ae (λ_ _=>rfl)) (aa ae (aa (ax fF (aF aC Λ T.len PySem.boot_len (aa (ao (pv 0) Λ) ac)) ae) ac)))))
    (aM (pv 0) Y.cl M.mi M.Gi J8 M.bi .nil aw (aa (ay aK (pv 1) ae (λ_ _=>rfl)) ac)) (aP ac)))) aG)
  (ad (aN (bV (b9 (au Gn C Λ Z kn bn .nil aw (aa (ay aK (pv 1) ae (λ_ _=>rfl)) (aa ae (aa (ax fF (aF aC Λ T.len PySem.boot_len (aa (ao (pv 0) Λ) ac)) ae) ac)))))) (ah (az (aP ac))) aG)
  (ad (aN (ak aQ (ay aK (pv 1) ae (λ_ _=>rfl)) aD (aq _)) (ah (az (aM (pv 0) Y.cl M.mo M.Go A M.bo .nil aw (aa (ay aK (pv 1) ae (λ_ _=>rfl)) ac)))) aG)
  (ad (aN (ak aQ (ay aK (pv 1) ae (λ_ _=>rfl)) aD (aq _)) (ah (az (aM (pv 0) Y.cl M.ml M.Gl C M.bl .nil aw (aa (ay aK (pv 1) ae (λ_ _=>rfl)) ac)))) aG)
  (ah (az (cI (ak aQ (ay aK (pv 1) ae (λ_ _=>rfl)) aD (aq _)) (aM (pv 0) Y.cl M.mb M.Gb FI M.bb .nil aw (aa (ay aK (pv 1) ae (λ_ _=>rfl)) ac)) (aP ac)))))))),?_⟩
 refine⟨λb o=>b= !(zs.all ô&& !zs.isEmpty)/\EU H o,?_,?_⟩
 ·refine⟨p,x,zs,Λ,B,by omega,λo n=>⟨_,Λ,?_⟩⟩
  cases u:zs.all ô with
  |false=>exact aI ⟨Λ,n⟩
  |true =>
  refine aH ⟨p,_,Λ,.inr (Fn.of (n _ _ B)),_,_,Λ,Λ,_,Λ,?_,n⟩
  unfold tO
  rw[Ϛ,Μ]
  cases zs with
  |nil=>rfl
  |cons z zs=>exact Η (by rw[Ϛ];omega)
 rintro b o ⟨rfl,n⟩
 have v:=hI.same W n
 have l:=n _ _ B
 have d:=λD G t s' I g' Qa=>q D G t (n.trans s') (n.free I) g' Qa
 have nil:lD a g x zs=[]->(0<=Τ/\∀D:Ν,o D=Β->Q (.ref D) (ο o D (.π []))):=λe=>⟨Ä _,λD I=>d D [] _ ((EU.refl _).new I) I ET (by rw[e];exact .nil)⟩
 cases zs with
 |nil=>exact aI (nil Λ)
 |cons z zs =>
 cases z with
 |none=>exact aI (nil Λ)
 |some z =>
 cases u:zs.all ô with
 | false =>
  rw[show((Α z:: zs).all ô)=Ε by rw[rg,u];rfl]
  refine aI (nil ?_)
  show(if zs.all ô then _ else _)=_
  rw[u];rfl
 |true =>
 rw[show((Α z:: zs).all ô)=Δ by rw[rg,u];rfl]
 refine aH ?_
 have r:=v.Y
 obtain⟨Fo,HD,S⟩:=r.χ
 have U:=Paired.length S
 obtain⟨Fx,GB,Lf⟩:=r.GX
 have GX:=Paired.length Lf
 clear n q B hI
 have l:=l
 rw[show lD a g x (Α z:: zs)=gI a g x z by show(if zs.all ô then _ else _)=_;rw[u];rfl]at d nil
 unfold gI at d nil
 refine⟨p,_,0,_,Λ,Λ,Fn.of l,aj (j:=0) Λ,Λ,_,Λ,?_⟩
 by_cases L:x="in"
 ·rw[Ι L]at d nil
  subst L
  rw[nq]
  refine aI ⟨p,_,1,_,Λ,Λ,Fn.of l,aj (j:=1) Λ,a.y,ys.Fb,a.dy,_,_,Λ,r.ρ,Y.cl,Y.n4,Λ,a.le,_,Λ,.inl (EX.of HD),_,_,Λ,Λ,.int z,0,((Fo.length:Nat):Int) - 1,Λ,.int _,_,Λ,?_⟩
  rw[U]
  by_cases m:0<=z/\z<=(g.EV.length:Int) - 1
  ·rw[Ι m]at d
   rw[show kX (.int z) 0 ((g.EV.length:Int) - 1)=Δ from Ζ m]
   obtain⟨k,rfl⟩:=Ï m.1
   rw[Ϙ]at d
   exact aI ⟨a.y,a.dy,_,Λ,r.ρ,Λ,p,_,1,_,Λ,Λ,Fn.of l,aj (j:=1) Λ,a,g,k,Λ,v,by omega,d⟩
  ·rw[show kX (.int z) 0 ((g.EV.length:Int) - 1)=Ε from Η m]
   exact aH (nil (Θ m))
 rw[Θ L]at d nil
 rw[pe L]
 refine aH ⟨p,_,1,_,Λ,Λ,Fn.of l,aj (j:=1) Λ,a.y,ys.Fb,a.dy,_,_,Λ,r.ρ,Y.cl,Y.n3,Λ,a.la,_,Λ,.inl (EX.of GB),_,_,Λ,Λ,.int z,0,((Fx.length:Nat):Int) - 1,Λ,.int _,_,Λ,?_⟩
 rw[GX]
 by_cases m:0<=z/\z<=(g.γ.length:Int) - 1
 ·rw[Ι m]at d nil
  rw[show kX (.int z) 0 ((g.γ.length:Int) - 1)=Δ from Ζ m]
  obtain⟨k,rfl⟩:=Ï m.1
  have X:k<g.γ.length:=by omega
  rw[Ϙ]at d nil
  refine aH ⟨p,_,0,_,Λ,Λ,Fn.of l,aj (j:=0) Λ,Λ,_,Λ,?_⟩
  by_cases N:x="on"
  ·rw[Ι N]at d
   subst N
   rw[nq]
   exact aI ⟨a.y,a.dy,_,Λ,r.ρ,Λ,p,_,1,_,Λ,Λ,Fn.of l,aj (j:=1) Λ,a,g,k,Λ,v,X,d⟩
  rw[Θ N]at d nil
  rw[pe N]
  refine aH ⟨p,_,0,_,Λ,Λ,Fn.of l,aj (j:=0) Λ,Λ,_,Λ,?_⟩
  by_cases O:x="lie"
  ·rw[Ι O]at d
   subst O
   rw[nq]
   exact aI ⟨a.y,a.dy,_,Λ,r.ρ,Λ,p,_,1,_,Λ,Λ,Fn.of l,aj (j:=1) Λ,a,g,k,Λ,v,X,d⟩
  rw[Θ O]at d nil
  rw[pe O]
  refine aH ⟨p,_,0,_,Λ,Λ,Fn.of l,aj (j:=0) Λ,Λ,_,Λ,?_⟩
  by_cases R:x="back"
  ·rw[Ι R]at d
   subst R
   rw[nq]
   exact aI ⟨a.y,a.dy,_,Λ,r.ρ,Λ,p,_,1,_,Λ,Λ,Fn.of l,aj (j:=1) Λ,a,g,k,Λ,v,X,d⟩
  rw[pe R]
  exact aH (nil (Θ R))
 ·rw[show kX (.int z) 0 ((g.γ.length:Int) - 1)=Ε from Η m]
  exact aI (nil (Θ m))
theorem wY(h:m∈lD a s x d):m∈bQ a s:=by
 unfold bQ
 cases d with
 |nil=>cases h
 | cons z d =>
  cases z with
  |none=>cases h
  |some z =>
  have h:m∈(if d.all ô then gI a s x z else []):=h
  split at h
  rotate_left
  ·cases h
  unfold gI at h
  have c:∀{n:Nat}{f:Nat->List Mv},0<=z/\z<=(n:Int) - 1->m∈f z.toNat->m∈(Ϝ n).flatMap f:=λ{n f} b e=>þ.mpr ⟨z.toNat,î.mpr (by omega),e⟩
  split at h
  ·split at h
   ·next b=>exact Ê _ (Ê _ (Ê _ (c b h)))
   ·cases h
  ·split at h
   ·next b =>
    split at h
    ·exact Ê _ (Ê _ (Å _ (c b h)))
    ·split at h
     ·exact Ê _ (Å _ (c b h))
     ·split at h
      ·exact Å _ (c (f:=fH s) b h)
      ·cases h
   ·cases h
noncomputable def Do:V->Bool
 |.str _=>Δ
 |.int _=>Δ
 |.Fp=>Δ
 |_=>Ε
noncomputable def vD:V->ĩ
 |.str x =>.str x
 |.int i =>.int i
 |_ =>.none
theorem Tr(a:Do v=Δ)(b:Do u=Δ)(h:Ĕ (vD v) (vD u)=Δ):v=u:=by
 cases v<;>cases u<;>simp_all [Do,vD,Ĕ]
theorem Ah:∀{a us:List V},(∀v∈a,Do v=Δ)->(∀u∈us,Do u=Δ)->Km (a.map vD) (us.map vD)=Δ->a=us
 |[],[],_,_,_=>rfl
 |[],_:: _,_,_,h=>by cases h
 |_:: _,[],_,_,h=>by cases h
 | v:: a,u:: us,hv,hu,h=>by
  have h:(Ĕ (vD v) (vD u)&& Km (a.map vD) (us.map vD))=Δ:=h
  rw[ϫ]at h
  rw[Tr (hv v ϙ) (hu u ϙ) h.1,Ah (λx b=>hv x (ϊ _ b)) (λx b=>hu x (ϊ _ b)) h.2]
theorem Tt(x:Str)(b:List (Option Int)):∀v∈tO x b,Do v=Δ:=λv a=>by
 rcases ύ.mp a with rfl|a
 ·rfl
 ·obtain⟨z,_,rfl⟩:=ϟ.mp a
  cases z<;>rfl
theorem Tu(m:Mv):∀v∈iw m,Do v=Δ:=by
 cases m<;>intro v a<;>simp only[iw,ύ,ϡ,or_false]at a
 ·rcases a with rfl|rfl|rfl<;>rfl
 ·rcases a with rfl|rfl|rfl<;>rfl
 ·rcases a with rfl|rfl<;>rfl
 ·rcases a with rfl|rfl<;>rfl
noncomputable def tD(x:Str)(zs:List (Option Int)):ĩ:=.tuple ((tO x zs).map vD)
theorem vQ(h:H p=Α (.tup (tO x a))):mF K H (.ref p) (tD x a):=by
 refine .tup (Fn.of h) (.cons (.str _) ?_)
 clear h
 induction a with
 |nil=>exact .nil
 | cons z a b=>cases z with
  |none=>exact .cons .Fp b
  |some z=>exact .cons (.int _) b
theorem yl(b:List (Option Int))(h:õ x=Δ):Ih (tD x b) 1:=pA (m:=0) λy a=>by
 rcases ύ.mp a with rfl|a
 ·exact iU h
 ·obtain⟨v,c,rfl⟩:=ϟ.mp a
  obtain⟨z,_,rfl⟩:=ϟ.mp c
  cases z with
  |none=>exact ym
  |some z=>exact gW _
theorem Es(p:m∈bQ a s)(e:iw m=tO x c):m∈lD a s x c:=by
 obtain⟨f,g⟩:=lf p
 have i:∀{k n:Nat},k<n->(0<=(k:Int)/\(k:Int)<=(n:Int) - 1):=λh=>by omega
 have two:∀{k:Nat}{l:List (Option Int)},[V.int k]=l.map iV->l=[Α (k:Int)]:=λ{k l} h=>by
  cases l with
  |nil=>cases h
  | cons z l =>
   have o:=(Φ h).1
   have q:=(Φ h).2
   cases l with
   | nil=>cases z with
    |none=>cases o
    |some z=>cases o;rfl
   |cons _ _=>cases q
 cases m with
 | Gq k l =>
  cases c with
  |nil=>cases e
  |cons z c =>
  have b:=(Φ e).1
  have d:=(Φ (Φ e).2).1
  have j:=(Φ (Φ e).2).2
  cases z with
  |none=>cases d
  |some z =>
  cases b;cases d
  rw[two j]
  show _∈gI a s "in" k
  unfold gI
  rw[Ι Λ,Ι (i f)];exact g
 | on k l =>
  cases c with
  |nil=>cases e
  |cons z c =>
  have b:=(Φ e).1
  have d:=(Φ (Φ e).2).1
  have j:=(Φ (Φ e).2).2
  cases z with
  |none=>cases d
  |some z =>
  cases b;cases d
  rw[two j]
  show _∈gI a s "on" k
  unfold gI
  rw[Θ (by decide +kernel),Ι (i f),Ι Λ];exact g
 | Hm k =>
  have b:=(Φ e).1
  cases b
  rw[two (Φ e).2]
  show _∈gI a s "lie" k
  unfold gI
  rw[Θ (by decide +kernel),Ι (i f),Θ (by decide +kernel),Ι Λ];exact g
 | back k =>
  have b:=(Φ e).1
  cases b
  rw[two (Φ e).2]
  show _∈gI a s "back" k
  unfold gI
  rw[Θ (by decide +kernel),Ι (i f),Θ (by decide +kernel),Θ (by decide +kernel),Ι Λ];exact g
inductive yh(K:Ϣ)(c:Cs)(xc:Xc)(TC:Ν)(J:TJ)(ys:Ys)(vs:List V)(H:Hp)(Q:VK)(E:XK):Prop
 | mk (a:YA) (s:YS) (p:Ν) (x:Str) (zs:List (Option Int)) (_:vs=[.ref a.y,.ref p]) (_:HP K c TC J ys H a s) (_:H p=Α (.tup (tO x zs))) (_:zs.length<=90) (_:õ x=Δ) (_:VT s) (_:(∀m∈bQ a s,iw m≠tO x zs)->Rf K xc E H)
  (_:∀m∈bQ a s,iw m=tO x zs->∀(H':Hp)(s':YS),IG a s m s'->Fm a.four H H'->Gj K ys H' a {s' with done:=s.done++[iw m]}->Q .Fp H')
structure DoM(P:Program)(w:À)(K:Ϣ)(mg:Str->Option Ο)(μ:ò)(c:Cs)(TC:Ν)(J:TJ)(ys:Ys)(fk fg fe fp fb fy:Ν)(dk dg de dp db dy:ë):Prop where
 mk':ck K ys.Fb "moves_like" fk
 bk:Binds K dk ["self","move"] []
 Gk:EW P w K mg μ aL 7 fk dk ["self","move"] (ue K c TC J ys)
 Zz:ck K ys.Fb "go_in" fg
 bg:Binds K dg ["self","number","lane"] []
 Gg:EW P w K mg μ aL 6 fg dg ["self","number","lane"] (uk K ys)
 me:ck K ys.Fb "enter" fe
 be:Binds K de ["self","piece","lane"] []
 Ge:EW P w K mg μ aL 5 fe de ["self","piece","lane"] (lQ K ys)
 mp:ck K ys.Fu "pull" fp
 bp:Binds K dp ["self"] []
 Gp:EW P w K mg μ aL 1 fp dp ["self"] (qq ys.Fu)
 mb:ck K ys.Fu "bring" fb
 bb:Binds K db ["self"] []
 Gb:EW P w K mg μ aL 1 fb db ["self"] (qy ys.Fu)
 my:ck K ys.Fb "lay" fy
 by':Binds K dy ["self","piece","place"] []
 Gy:EW P w K mg μ aL 1 fy dy ["self","piece","place"] (yg K ys)
theorem Z0:ap ["self","move"] ["self","move"] (ag Y5):=L2.F4
theorem Tv(F:F0 K "do" "Yard.do" Y5 f fd)(Y:mB K ys)(L:tI K c)(W:Wy K TC fw dw J)(O:Own P w K mg μ ys fl ft fpu dl dt dpu)
  (D:DoM P w K mg μ c TC J ys fk fg fe fp fb fy dk dg de dp db dy) (Me:Cu K c fen den) (Gen:EW P w K mg μ aL 1 fen den ["self","lane"] (yi c Í)) (X:tJ K mg xc.yc "NoMove" xc.mv):
  EW P w K mg μ (ix P w) 8 f fd ["self","move"] (yh K c xc TC J ys):=by
 refine F.KD Z0 (λ_ _ _ _ h=>?_) (λ_ _ _ s H _ Q E hr h=>?_)
 ·obtain⟨a,s,p,x,zs,rfl,_⟩:=h
  rfl
 ·obtain⟨a,g,p,x,zs,rfl,hI,hp,hz9,hx,hS,eb,q⟩:=h
  have hu:=hr.units
  have FI:Fj 1 _:=hr.mono (by decide)
  have J8:Fj 4 _:=hr.mono (by decide)
  have MT:Fj 5 _:=hr.mono (by decide)
  have OX:Fj 6 _:=hr.mono (by decide)
  refine⟨_,ad (aN (ak (wH hu) (pv 1) (aM (pv 0) Y.cl D.mk' D.Gk hr D.bk .nil aw (aa (pv 1) ac)) (by with_unfolding_all rfl)) (ah (cu Λ X.x Fg (dF X.x X.k Λ Λ X.m (aa aD ac)))) aG)
   (ad (gX (aN (ak aQ (ay aK (pv 1) ae (λ_ _=>rfl)) aD (aq _))
    (ah (aU (aM (pv 0) Y.cl D.Zz D.Gg OX D.bg .nil aw (aa (ay aK (pv 1) ae (λ_ _=>rfl)) (aa (ay aK (pv 1) ae (λ_ _=>rfl)) ac)))))
    (ah (aN (ak aQ (ay aK (pv 1) ae (λ_ _=>rfl)) aD (aq _))
     (ah (aU (aM (pv 0) Y.cl D.me D.Ge MT D.be .nil aw (aa (bY (aM (pv 0) Y.cl O.ml O.Gl J8 O.bl .nil aw (aa (ay aK (pv 1) ae (λ_ _=>rfl)) ac)) Y.L.cl D.mp D.Gp FI D.bp .nil aw) (aa (ay aK (pv 1) ae (λ_ _=>rfl)) ac)))))
     (ah (aN (ak aQ (ay aK (pv 1) ae (λ_ _=>rfl)) aD (aq _))
      (ah (aU (aM (pv 0) Y.cl D.my D.Gy FI D.by' .nil aw (aa (bY (aM (pv 0) Y.cl O.ml O.Gl J8 O.bl .nil aw (aa (ay aK (pv 1) ae (λ_ _=>rfl)) ac)) Y.L.cl D.mp D.Gp FI D.bp .nil aw) (aa (aM (ao (ao (pv 0) Λ) Λ) L.cl Me.m Gen FI Me.b .nil aw (aa (ay aK (pv 1) ae (λ_ _=>rfl)) ac)) ac)))))
      (ah (aU (bY (aM (pv 0) Y.cl O.ml O.Gl J8 O.bl .nil aw (aa (ay aK (pv 1) ae (λ_ _=>rfl)) ac)) Y.L.cl D.mb D.Gb FI D.bb .nil aw)))))))))
   (ah (aU (aZ plainAttrs_list PySem.F.slot_list_append PySem.F.type_list_append cy (ao (pv 0) Λ) (aa (pv 1) ac))))),?_⟩
  refine⟨a.y,a.dy,_,Λ,hI.Y.ρ,Λ,a,g,p,x,zs,Λ,hI,hp,hz9,λDl FV N s1 MU gDl FZ=>?_⟩
  refine⟨Dl,FV,tD x zs,(lD a g x zs).map xA,Λ,vQ (s1 _ _ hp),EX.of gDl,k7 FZ,(yl zs hx).le (by decide),λz hz=>by obtain⟨m',_,rfl⟩:=ϟ.mp hz;exact(uo m').le (by decide),_,Λ,?_⟩
  have mD:∀m,xA m=.tuple ((iw m).map vD):=λm=>by cases m<;>rfl
  by_cases hex:∃m∈bQ a g,iw m=tO x zs
  rotate_left
  ·have Gu:=λm hm e=>hex ⟨m,hm,e⟩
   have e:(((lD a g x zs).map xA).any λy=>Ĕ y (tD x zs))=Ε:=by
    rw[JY]
    intro y hy h
    obtain⟨m,hm,rfl⟩:=ϟ.mp hy
    rw[mD]at h
    exact Gu m (wY hm) (Ah (Tu m) (Tt x zs) h)
   rw[e]
   exact aI ⟨by show 1<=Τ;decide,eb Gu _ _ _ X.e s1⟩
  obtain⟨m,hm,em⟩:=hex
  have Z1:=Es hm em
  have eD:tD x zs=xA m:=by rw[mD,em];rfl
  rw[eD,EK Z1]
  obtain⟨Fi,Lg⟩:=lf hm
  refine aH ?_
  have q:=q m hm em
  rw[←em]at hp
  have IF:=hI.same W s1
  have u:=s1 _ _ hp
  have I:=IF.Y
  refine⟨λσ' H'=>σ'=start ["self","move"] [.ref a.y,.ref p]/\∃s',IG a g m s'/\Fm a.four N H'/\Gj K ys H' a s',?_,?_⟩
  ·
   have LH:∀(k:Nat)(lk:fB)(pq:Int×Int),g.γ[k]?=Α lk->lk.qs.head?=Α pq->∀(Fx:List V),N a.la=Α (.π Fx)->∀(x dx pa:Ν)(F2:List V)(H2:Hp),Fm [a.la] N H2->N x=Β->N pa=Β->H2 a.la=Α (.π (Fx.set k (.ref x)))->Fy H2 ys.Fu x dx pa lk.r lk.b lk.h F2 lk.qs->
     ∀(Q':VK)(E':XK),(∀(v:V)(M:Hp),Cr M v pq->Fm [a.la] N M->Gj K ys M a {g with γ:=g.γ.set k (e6 lk)}->Q' v M)->qq ys.Fu [.ref x] H2 Q' E':=by
    intro k lk pq A S Fx Z x dx pa F2 H2 o2 nx np g2 U Q' E' hQ
    refine⟨x,dx,pa,lk.r,lk.b,lk.h,F2,lk.qs,Λ,U,λe0=>?_,λv rest ev M o3 L8=>?_⟩
    ·exfalso
     have hl:=Paired.length U.GS
     rw[e0]at hl
     cases Jc:lk.qs with
     |nil=>rw[Jc]at S;cases S
     |cons _ _=>rw[Jc]at hl;cases hl
    ·have o4:=λb o nb e=>o3 b o (ai e nx) (ai e np) (o2 b o nb e)
     refine hQ v M ?_ o4 (Gj.Jb I Z o4 (k:=k) (x:=x) (dx:=dx) (pa:=pa) (o3 _ _ (ai Z nx) (ai Z np) g2) (ln:=e6 lk) L8 np)
     have hz:=GU.L7 o3 U.ρ U.π U.GS
     rw[ev]at hz
     cases Jc:lk.qs with
     |nil=>rw[Jc]at S;cases S
     | cons q0 r0 =>
      rw[Jc]at S hz
      cases S
      cases hz with
      |cons z _=>exact z
   obtain⟨Fx,Z,Lf⟩:=I.GX
   have p3:∀{M:Hp}{ex:List Ν}{xs:List V},N p=Α (.tup xs)->Fm ex N M->(∀b∈ex,b∈a.four)->M p=Α (.tup xs):=λh o he=>o _ _ (λz=>by obtain⟨xs,hz⟩:=I.Kb _ (he _ z);rw[h]at hz;cases hz) h
   cases m with
   | Gq k l =>
    have u:=u
    obtain⟨l',t,ln,e0,ht,hg,hl,FA,ho⟩:=uM (Lg)
    cases e0
    refine⟨p,_,0,_,Λ,Λ,Fn.of u,aj (j:=0) Λ,Λ,_,Λ,?_⟩
    rw[nq]
    refine aI ⟨a.y,a.dy,_,Λ,I.ρ,Λ,p,_,1,_,Λ,Λ,Fn.of u,aj (j:=1) Λ,p,_,2,_,Λ,Λ,Fn.of u,aj (j:=2) Λ,a,g,k,l,t,ln,Λ,I,ht,FA,ho,(hI.G.GK k t ht).2,ß (hS.q l ln FA) (by decide),λH' o' JP=>⟨Λ,_,IG.Gq ht hg hl FA ho,o'.mono (by simp),JP⟩⟩
   | on k l =>
    have u:=u
    obtain⟨l',pq,lk,ln,e0,A,S,hl,FA,ho⟩:=uL (Lg)
    cases e0
    obtain⟨m,t,em,ht,OV⟩:=hI.G.GS k lk A pq (Ĝ S)
    obtain⟨m0,cq⟩:=pq
    have em:=em
    subst em
    refine⟨p,_,0,_,Λ,Λ,Fn.of u,aj (j:=0) Λ,Λ,_,Λ,?_⟩
    rw[pe (by decide +kernel)]
    refine aH ⟨p,_,0,_,Λ,Λ,Fn.of u,aj (j:=0) Λ,Λ,_,Λ,?_⟩
    rw[nq]
    refine aI ⟨a.y,a.dy,_,Λ,I.ρ,Λ,a.y,a.dy,_,Λ,I.ρ,Λ,p,_,1,_,Λ,Λ,Fn.of u,aj (j:=1) Λ,a,g,k,lk,Fx,Λ,I,A,Z,λx dx pa F2 H2 o2 nx np g2 U=>⟨x,dx,_,Λ,U.ρ,Λ,LH k lk _ A S Fx Z x dx pa F2 H2 o2 nx np g2 U _ (λ_ _ _=>False) λv M hv o3 JD=>?_⟩⟩
    have ID:=p3 u o3 (by simp)
    have HA:=(gQ0 A)
    obtain⟨B,Tw,er,eh,eq⟩:∃B,(g.γ.set k (e6 lk))[l]?=Α B/\B.r=ln.r/\B.h=ln.h/\B.qs.length<=10000:=by
     by_cases Tx:k=l
     ·subst Tx
      rw[A]at FA
      cases FA
      refine⟨e6 lk,by simp[HA],Λ,Λ,?_⟩
      have:=hS.q k lk A
      show lk.qs.tail.length<=10000
      rw[List.length_tail];omega
     ·exact⟨ln,by rw[ę Tx];exact FA,Λ,Λ,hS.q l ln FA⟩
    have Hv:dZ B.r B.h m cq=Δ:=by rw[er,eh];exact ho
    refine⟨p,_,2,_,Λ,Λ,Fn.of ID,aj (j:=2) Λ,a,{g with γ:=g.γ.set k (e6 lk)},v,m,cq,l,t,B,Λ,JD,hv,ht,Tw,Hv,(hI.G.GK m t ht).2,ß eq (by decide),λH' o' JP=>⟨Λ,_,IG.on A S ht hl Tw Hv,(o3.mono (by simp)).trans (o'.mono (by simp)),JP⟩⟩
   | Hm k =>
    have u:=u
    obtain⟨pq,lk,t0,e0,A,S,Qo,hg⟩:=vA (Lg)
    obtain⟨m,t,em,ht,OV⟩:=hI.G.GS k lk A pq (Ĝ S)
    obtain⟨m0,cq⟩:=pq
    have em:=em
    subst em
    have Qo:g.EV[m]?=Α t0:=by rw[←Qo];rfl
    rw[ht]at Qo
    cases Qo
    have HA:=(gQ0 A)
    have Qq:k<a.ps.length:=by rw[←hI.G.γ];exact HA
    have he:=Ψ Qq
    have NS:a.ps.getD k (0,0)=a.ps[k]:=by rw[Ò,he];rfl
    obtain⟨e,ee,Th⟩:=hI.O.ends k _ he
    rw[NS,ee]at hg
    have hel:e<g.ε.length:=by rw[hI.G.ε];exact Th
    have Jc:=Ψ hel
    refine⟨p,_,0,_,Λ,Λ,Fn.of u,aj (j:=0) Λ,Λ,_,Λ,?_⟩
    rw[pe (by decide +kernel)]
    refine aH ⟨p,_,0,_,Λ,Λ,Fn.of u,aj (j:=0) Λ,Λ,_,Λ,?_⟩
    rw[pe (by decide +kernel)]
    refine aH ⟨p,_,0,_,Λ,Λ,Fn.of u,aj (j:=0) Λ,Λ,_,Λ,?_⟩
    rw[nq]
    refine aI ⟨a.y,a.dy,_,Λ,I.ρ,Λ,a.y,a.dy,_,Λ,I.ρ,Λ,p,_,1,_,Λ,Λ,Fn.of u,aj (j:=1) Λ,a,g,k,lk,Fx,Λ,I,A,Z,λx dx pa F2 H2 o2 nx np g2 U=>⟨x,dx,_,Λ,U.ρ,Λ,LH k lk _ A S Fx Z x dx pa F2 H2 o2 nx np g2 U _ (λ_ _ _=>False) λv M hv o3 JD=>?_⟩⟩
    have ID:=p3 u o3 (by simp)
    have OC:=Hh.keep W IF.T (Fm.Fw (λb hb=>by simp at hb;subst hb;exact⟨_,Z⟩) o3)
    obtain⟨JO,fst,JA,FK,JB⟩:=OC.i
    refine⟨a.y,ys.Fb,a.dy,_,_,Λ,JD.ρ,Y.cl,Y.n1,Λ,a.tb,TC,JO,fst,_,Λ,JA,W.cl,W.nl,FK,a.lx,a.F1,_,Λ,OC.l.1,Λ,p,_,1,_,Λ,Λ,Fn.of ID,aj (j:=1) Λ,a.lx,a.F1,a.lt,(a.n:Int),a.Fo,a.ps,k,_,Λ,OC.l,he,?_⟩
    rw[ee]
    exact⟨a,{g with γ:=g.γ.set k (e6 lk)},v,((m:Int),cq),e,_,Λ,JD,hv,Jc,ώ (hS.l e _ Jc) (by decide),λH' o' JP=>⟨Λ,_,IG.Hm A S ht hg (by rw[NS,ee]) Jc,(o3.mono (by simp)).trans (o'.mono (by simp)),JP⟩⟩
   | back k =>
    have u:=u
    obtain⟨lk,e0,A,hb⟩:=sx (Lg)
    refine⟨p,_,0,_,Λ,Λ,Fn.of u,aj (j:=0) Λ,Λ,_,Λ,?_⟩
    rw[pe (by decide +kernel)]
    refine aH ⟨p,_,0,_,Λ,Λ,Fn.of u,aj (j:=0) Λ,Λ,_,Λ,?_⟩
    rw[pe (by decide +kernel)]
    refine aH ⟨p,_,0,_,Λ,Λ,Fn.of u,aj (j:=0) Λ,Λ,_,Λ,?_⟩
    rw[pe (by decide +kernel)]
    refine aH ⟨a.y,a.dy,_,Λ,I.ρ,Λ,p,_,1,_,Λ,Λ,Fn.of u,aj (j:=1) Λ,a,g,k,lk,Fx,Λ,I,A,Z,λx dx pa F2 H2 o2 nx np g2 U=>⟨x,dx,_,Λ,U.ρ,Λ,x,dx,pa,lk.r,lk.b,lk.h,F2,lk.qs,Λ,U,(λe0=>by rw[e0]at hb;exact Κ hb (by decide)),λ_ M o3 L8=>?_⟩⟩
    have o4:Fm [a.la] N M:=λb o nb e=>o3 b o (ai e nx) (ai e np) (o2 b o nb e)
    exact⟨Λ,_,IG.back A hb,o4.mono (by simp),Gj.Jb I Z o4 (k:=k) (x:=x) (dx:=dx) (pa:=pa) (o3 _ _ (ai Z nx) (ai Z np) g2) (ln:=CI lk) L8 np⟩
  ·rintro σ' H2 ⟨rfl,s',hs,o2,IQ⟩
   obtain⟨FW,NO,pd⟩:=IQ.HI
   have Mb:FW.length=g.done.length:=by rw[Paired.length pd,hs.done]
   have HW:H2 p=Α (.tup (iw m)):=o2 _ _ (λz=>by obtain⟨xs,hz⟩:=I.Kb _ z;rw[u]at hz;cases hz) u
   have hd:=hS.d
   refine⟨a.y,ys.Fb,a.dy,_,_,Λ,IQ.ρ,Y.cl,Y.n6,Λ,.inl ⟨Λ,_,EX.of NO⟩,a.dn,_,_,Λ,Λ,NO,by rw[Χ];omega,?_⟩
   have JD:=IQ.NN NO ⟨p,Λ,HW⟩
   rw[hs.done]at JD
   exact q _ s' hs ((EU.F8 s1).trans (o2.trans (eM (by simp)))) JD
theorem jc{a:Type}{L:List a}{y z:a}(h:(L.set k y)[j]?=Α z):(j=k/\z=y)∨(j≠k/\L[j]?=Α z):=by
 by_cases e:k=j
 ·subst e
  rw[List.getElem?_set_self']at h
  cases b:L[k]? with
  |none=>rw[b]at h;cases h
  |some x=>rw[b]at h;cases h;exact .inl ⟨Λ,Λ⟩
 ·rw[ę e]at h
  exact .inr ⟨ϧ e,h⟩
theorem lS{a:Type}{L:List a}{x y:a}(h:L[k]?=Α x):(L.set k y)[k]?=Α y:=by
 have:=(gQ0 h)
 simp[this]
theorem i0{a:Type}(f:a->Nat):∀{L:List a}{k:Nat}{x y:a},L[k]?=Α x->((L.set k y).map f).sum+f x=(L.map f).sum+f y
 |[],_,_,_,h=>by cases h
 |z:: L,0,x,y,h=>by cases h;simp only[Rq,ϳ,Ł];omega
 | z:: L,k+1,x,y,h=>by
  have:=i0 f (L:=L) (k:=k) (x:=x) (y:=y) h
  simp only[Rr,ϳ,Ł];omega
theorem mQ{a:Type}(f:a->Int):∀{L:List a}{k:Nat}{x y:a},L[k]?=Α x->((L.set k y).map f).sum+f x=(L.map f).sum+f y
 |[],_,_,_,h=>by cases h
 |z:: L,0,x,y,h=>by cases h;simp only[Rq,ϳ,Ł];omega
 | z:: L,k+1,x,y,h=>by
  have:=mQ f (L:=L) (k:=k) (x:=x) (y:=y) h
  simp only[Rr,ϳ,Ł];omega
noncomputable def sN(a:YA)(l:Nat):Int:=(a.ps.getD l (0,0)).2
noncomputable def pb(s:YS):Nat:=(s.γ.map λln=>ln.qs.length).sum
noncomputable def mT(s:YS):Nat:=(s.ε.map λqs=>qs.length).sum
noncomputable def jw(s:YS):Int:=(s.EV.map λt=>t.δ).sum
structure VU(a:YA)(s:YS)(m:Nat)(c:Int):Prop where
 γ:s.γ.length=a.ps.length
 ε:s.ε.length=a.n
 F3:s.EV.length<=60
 KN:a.ps.length<=40
 lets:∀(m:Nat)(t:eJ),s.EV[m]?=Α t->∃x y:Nat,t.start=(x:Int)/\t.ι=(y:Int)/\x<a.n/\y<a.n
 GK:∀(m:Nat)(t:eJ),s.EV[m]?=Α t->(∀l∈t.ω,l<a.ps.length)/\t.ω.Nodup
 GS:∀(k:Nat)(ln:fB),s.γ[k]?=Α ln->∀q∈ln.qs,∃(m:Nat)(t:eJ),q.1=(m:Int)/\s.EV[m]?=Α t/\k∈t.ω
 Iu:∀(m:Nat)(t:eJ),s.EV[m]?=Α t->0<=t.δ/\t.δ<=t.len/\t.len<=60
 GL:∀(m':Nat)(t:eJ),s.EV[m']?=Α t->t.δ=0->t.ω=[]/\m'≠m
 last:∀(m:Nat)(t:eJ),s.EV[m]?=Α t->∀(i l:Nat),t.ω[i]?=Α l->sN a l=t.ι->i+1=t.ω.length
 head:∀(m':Nat)(t:eJ),s.EV[m']?=Α t->∀(l:Nat)(ln:fB),t.ω.getLast?=Α l->s.γ[l]?=Α ln->(m'=m/\c=0)∨((m':Int),(0:Int))∈ln.qs∨sN a l=t.ι
 first:∀(k:Nat)(ln:fB),s.γ[k]?=Α ln->∀(i j:Nat)(z:Int)(q:Int×Int),ln.qs[i]?=Α (z,0)->j<i->ln.qs[j]?=Α q->q.1≠z
 Lh:∀(k:Nat)(ln:fB),s.γ[k]?=Α ln->∀(m':Nat)(t:eJ),((m':Int),(0:Int))∈ln.qs->s.EV[m']?=Α t->t.ω.getLast?=Α k
 δ:c=0->∀(k:Nat)(ln:fB),s.γ[k]?=Α ln->((m:Int),(0:Int))∉ln.qs
 sum:(pb s:Int)+(mT s:Int)+1=jw s
structure G5(a:YA)(s:YS):Prop where
 γ:s.γ.length=a.ps.length
 ε:s.ε.length=a.n
 F3:s.EV.length<=60
 KN:a.ps.length<=40
 lets:∀(m:Nat)(t:eJ),s.EV[m]?=Α t->∃x y:Nat,t.start=(x:Int)/\t.ι=(y:Int)/\x<a.n/\y<a.n
 GK:∀(m:Nat)(t:eJ),s.EV[m]?=Α t->(∀l∈t.ω,l<a.ps.length)/\t.ω.Nodup
 GS:∀(k:Nat)(ln:fB),s.γ[k]?=Α ln->∀q∈ln.qs,∃(m:Nat)(t:eJ),q.1=(m:Int)/\s.EV[m]?=Α t/\k∈t.ω
 Iu:∀(m:Nat)(t:eJ),s.EV[m]?=Α t->0<=t.δ/\t.δ<=t.len/\t.len<=60
 GL:∀(m':Nat)(t:eJ),s.EV[m']?=Α t->t.δ=0->t.ω=[]
 last:∀(m:Nat)(t:eJ),s.EV[m]?=Α t->∀(i l:Nat),t.ω[i]?=Α l->sN a l=t.ι->i+1=t.ω.length
 head:∀(m':Nat)(t:eJ),s.EV[m']?=Α t->∀(l:Nat)(ln:fB),t.ω.getLast?=Α l->s.γ[l]?=Α ln->((m':Int),(0:Int))∈ln.qs∨sN a l=t.ι
 first:∀(k:Nat)(ln:fB),s.γ[k]?=Α ln->∀(i j:Nat)(z:Int)(q:Int×Int),ln.qs[i]?=Α (z,0)->j<i->ln.qs[j]?=Α q->q.1≠z
 Lh:∀(k:Nat)(ln:fB),s.γ[k]?=Α ln->∀(m':Nat)(t:eJ),((m':Int),(0:Int))∈ln.qs->s.EV[m']?=Α t->t.ω.getLast?=Α k
 sum:(pb s:Int)+(mT s:Int)=jw s
theorem lb:∀(n:Nat)(l:List Nat),l.Nodup->(∀x∈l,x<n)->l.length<=n
 | 0,l,_,h=>by
  cases l with
  |nil=>exact ϛ _
  |cons x _=>exact Κ (h x ϙ) (by omega)
 | n+1,l,hn,h=>by
  have c:=lb n (l.filter λx=>decide (x≠n)) (hn.filter _) λx d=>by
   obtain⟨a,b⟩:=Ì.mp d
   have:=h x a
   have:=of_decide_eq_true b
   omega
  have i:l.length<=(l.filter λx=>decide (x≠n)).length+1:=by
   clear c h
   induction l with
   |nil=>exact Ä _
   | cons x l f =>
    rw[č]at hn
    by_cases e:x=n
    ·subst e
     have:(l.filter λy=>decide (y≠x))=l:=Ru.mpr λy g=>Ζ λz=>hn.1 (z▸g)
     rw[O2 (by simp),this]
     exact ϛ _
    ·rw[O1 (by simpa using e)]
     have:=f hn.2
     simp only[Ϛ]
     omega
  omega
theorem G5.ok(h:G5 a s):Ze a s:=⟨h.γ,h.ε,h.lets,λm t b=>⟨(h.GK m t b).1,by have:=lb _ _ (h.GK m t b).2 (h.GK m t b).1;have:=h.KN;omega⟩,h.GS,h.F3⟩
theorem zI{a:Type}{x:a}{l:List a}(h:x∈l.tail):x∈l:=List.mem_of_mem_tail h
theorem Ac{a:Type}{l:List a}{x:a}(h:l.head?=Α x):l[0]?=Α x:=by cases l with
 |nil=>cases h
 |cons y r=>exact h
theorem vB{a:Type}{l:List a}{x:a}(h:x∈l):∃i:Nat,l[i]?=Α x:=by
 obtain⟨i,b,e⟩:=qa h
 exact⟨i,by rw[Ψ b,e]⟩
theorem rE{a:Type}(l:List a)(i:Nat):l.tail[i]?=l[i+1]?:=by cases l with
 |nil=>simp
 |cons y r=>rfl
theorem sw{k m:Nat}(J:G5 a s)(o:s.γ[k]?=Α lk)(g:lk.qs.head?=Α ((m:Int),c)):VU a {s with γ:=s.γ.set k (e6 lk)} m c:=by
 have T:=Ac g
 have E:∀(j:Nat)(f:fB),(s.γ.set k (e6 lk))[j]?=Α f->∃b,s.γ[j]?=Α b/\(∀q∈f.qs,q∈b.qs)/\∃d,(∀i,f.qs[i]?=b.qs[i+d]?)/\(f.qs=b.qs∨(j=k/\b=lk/\f.qs=lk.qs.tail)):=λj f h=>by
  rcases jc h with ⟨rfl,rfl⟩|⟨ne,h⟩
  ·exact⟨lk,o,λq g=>zI g,1,λi=>rE _ i,.inr ⟨Λ,Λ,Λ⟩⟩
  ·exact⟨f,h,λq g=>g,0,λi=>rfl,.inl Λ⟩
 have keep:∀(j:Nat)(b:fB),s.γ[j]?=Α b->∃f,(s.γ.set k (e6 lk))[j]?=Α f/\∀q∈b.qs,q=((m:Int),c)∨q∈f.qs:=λj b h=>by
  by_cases e:j=k
  ·subst e
   rw[o]at h
   cases h
   refine⟨e6 lk,lS o,λq x=>?_⟩
   show _∨q∈lk.qs.tail
   cases A:lk.qs with
   |nil=>rw[A]at g;cases g
   | cons z r =>
    rw[A]at g x
    cases g
    exact(ύ.mp x).imp id id
  ·exact⟨b,by rw[ę (ϧ e)];exact h,λq g =>.inr g⟩
 refine⟨by rw[←J.γ];simp,J.ε,J.F3,J.KN,J.lets,J.GK,?_,J.Iu,?_,J.last,?_,?_,?_,?_,?_⟩
 ·intro j f h q x
  obtain⟨b,n,p,_⟩:=E j f h
  exact J.GS j b n q (p q x)
 ·intro u t B O
  refine⟨J.GL u t B O,λe=>?_⟩
  subst e
  obtain⟨F,M,G,H,Q⟩:=J.GS k lk o _ (Ĝ g)
  have:u=F:=by have:(u:Int)=(F:Int):=G;omega
  subst this
  rw[B]at H
  cases H
  rw[J.GL u t B O]at Q
  cases Q
 ·intro u t B l f A R
  obtain⟨b,n,p,_⟩:=E l f R
  rcases J.head u t B l b A n with h|h
  ·obtain⟨N,C,S⟩:=keep l b n
   have C:=C
   rw[R]at C
   cases C
   rcases S _ h with e|h
   ·injection e with Z G
    exact .inl ⟨by omega,G.symm⟩
   ·exact .inr (.inl h)
  ·exact .inr (.inr h)
 ·intro j f h i U z q D F9 x
  obtain⟨b,n,_,d,C,_⟩:=E j f h
  rw[C]at D x
  exact J.first j b n (i+d) (U+d) z q D (by omega) x
 ·intro j f h u t I B
  obtain⟨b,n,p,_⟩:=E j f h
  exact J.Lh j b n u t (p _ I) B
 ·intro X j f h I
  subst X
  obtain⟨b,n,p,d,C,S⟩:=E j f h
  obtain⟨F,M,G,H,_⟩:=J.GS k lk o _ (Ĝ g)
  have:m=F:=by have:(m:Int)=(F:Int):=G;omega
  subst this
  have Y:=J.Lh k lk o m M (Ĝ g) H
  have L:=J.Lh j b n m M (p _ I) H
  rw[Y]at L
  have L:=ϥ L
  subst L
  rcases jc h with ⟨_,rfl⟩|⟨ne,_⟩
  ·obtain⟨i,D⟩:=vB I
   have D:lk.qs.tail[i]?=Α ((m:Int),0):=D
   rw[rE]at D
   exact J.first k lk o (i+1) 0 _ _ D (by omega) T Λ
  ·exact ne Λ
 ·have:=i0 (λb:fB=>b.qs.length) (y:=e6 lk) o
  have A:(e6 lk).qs.length+1=lk.qs.length:=by
   show lk.qs.tail.length+1=_
   cases A:lk.qs with
   |nil=>rw[A]at g;cases g
   |cons _ _=>rfl
  have p:=J.sum
  unfold pb at p⊢
  show((((s.γ.set k (e6 lk)).map λb=>b.qs.length).sum:Nat):Int)+(mT s:Int)+1=jw s
  omega
theorem zH(J:G5 a s)(p:s.EV[k]?=Α t)(I:t.δ≠t.len):VU a (lF s k t) k t.δ:=by
 have L:=J.Iu k t p
 have lk:∀(m:Nat)(b:eJ),(s.EV.set k {t with δ:=t.δ+1})[m]?=Α b->∃c,s.EV[m]?=Α c/\b.start=c.start/\b.ι=c.ι/\b.ω=c.ω/\b.len=c.len/\((m=k/\b.δ=t.δ+1)∨(m≠k/\b.δ=c.δ)):=λm b h=>by
  rcases jc h with ⟨rfl,rfl⟩|⟨ne,h⟩
  ·exact⟨t,p,Λ,Λ,Λ,Λ,.inl ⟨Λ,Λ⟩⟩
  ·exact⟨b,h,Λ,Λ,Λ,Λ,.inr ⟨ne,Λ⟩⟩
 refine⟨J.γ,J.ε,by show(s.EV.set _ _).length<=60;rw[Ĵ];exact J.F3,J.KN,?_,?_,?_,?_,?_,?_,?_,J.first,?_,?_,?_⟩
 ·intro m b h
  obtain⟨c,d,r,o,_⟩:=lk m b h
  rw[r,o];exact J.lets m c d
 ·intro m b h
  obtain⟨c,d,r,o,n,_⟩:=lk m b h
  rw[n];exact J.GK m c d
 ·intro j u h q D
  obtain⟨m,c,e,d,x⟩:=J.GS j u h q D
  by_cases B:m=k
  ·subst B
   rw[p]at d
   cases d
   exact⟨m,_,e,lS p,x⟩
  ·exact⟨m,c,e,by show(s.EV.set _ _)[m]?=_;rw[ę (ϧ B)];exact d,x⟩
 ·intro m b h
  obtain⟨c,d,r,o,n,v,f⟩:=lk m b h
  have:=J.Iu m c d
  rcases f with ⟨rfl,f⟩|⟨_,f⟩
  ·rw[p]at d
   cases d
   rw[v,f];omega
  ·rw[v,f];exact this
 ·intro m b h M
  obtain⟨c,d,r,o,n,v,f⟩:=lk m b h
  rcases f with ⟨rfl,f⟩|⟨ne,f⟩
  ·omega
  ·rw[n];exact⟨J.GL m c d (by omega),ne⟩
 ·intro m b h i l C z
  obtain⟨c,d,r,o,n,v,f⟩:=lk m b h
  rw[n]at C⊢
  rw[o]at z
  exact J.last m c d i l C z
 ·intro m b h l u z E
  obtain⟨c,d,r,o,n,v,f⟩:=lk m b h
  rw[n]at z
  rw[o]
  exact .inr (J.head m c d l u z E)
 ·intro j u h m b A F
  obtain⟨c,d,r,o,n,v,f⟩:=lk m b F
  rw[n]
  exact J.Lh j u h m c A d
 ·intro G j u h A
  obtain⟨m,c,e,d,x⟩:=J.GS j u h _ A
  have:k=m:=by have:(k:Int)=(m:Int):=e;omega
  subst this
  rw[p]at d
  cases d
  rw[J.GL k t p G]at x
  cases x
 ·have:=mQ (λt:eJ=>t.δ) (y:={t with δ:=t.δ+1}) p
  have H:=J.sum
  unfold jw at H⊢
  show (pb s:Int)+(mT s:Int)+1=((s.EV.set k {t with δ:=t.δ+1}).map λt=>t.δ).sum
  have:({t with δ:=t.δ+1}:eJ).δ=t.δ+1:=rfl
  omega
theorem zQ{l:List Nat}(h:l.getLast?=Α x):l[l.length - 1]?=Α x:=by rw[←h,List.getLast?_eq_getElem?]
theorem pJ(M:VU a s m c)(C:s.EV[m]?=Α t)(E:s.γ[l]?=Α o)(T:c=0->l∉t.ω/\∀x∈t.ω,sN a x≠t.ι)(h1:c≠0->l∈t.ω):G5 a (gk s m c l t o):=by
 have Mf:l<a.ps.length:=by rw[←M.γ];exact(gQ0 E)
 have lk:∀(b:Nat)(d:eJ),(gk s m c l t o).EV[b]?=Α d->∃f,s.EV[b]?=Α f/\d.start=f.start/\d.ι=f.ι/\d.len=f.len/\d.δ=f.δ/\((c=0/\b=m/\f=t/\d.ω=t.ω++[l])∨(¬(c=0/\b=m)/\d.ω=f.ω)):=λb d h=>by
  have h:(if c=0 then s.EV.set m {t with ω:=t.ω++[l]} else s.EV)[b]?=Α d:=h
  by_cases n:c=0
  ·rw[Ι n]at h
   rcases jc h with ⟨rfl,rfl⟩|⟨ne,h⟩
   ·exact⟨t,C,Λ,Λ,Λ,Λ,.inl ⟨n,Λ,Λ,Λ⟩⟩
   ·exact⟨d,h,Λ,Λ,Λ,Λ,.inr ⟨λz=>ne z.2,Λ⟩⟩
  ·rw[Θ n]at h
   exact⟨d,h,Λ,Λ,Λ,Λ,.inr ⟨λz=>n z.1,Λ⟩⟩
 have G:∀(b:Nat)(f:eJ),s.EV[b]?=Α f->∃d,(gk s m c l t o).EV[b]?=Α d/\(∀x∈f.ω,x∈d.ω)/\(b=m->l∈d.ω):=λb f h=>by
  by_cases n:c=0
  ·by_cases e:b=m
   ·subst e
    rw[C]at h
    cases h
    refine⟨{t with ω:=t.ω++[l]},by show(if c=0 then s.EV.set b {t with ω:=t.ω++[l]} else s.EV)[b]?=_;rw[Ι n];exact lS C,λx g=>Ê _ g,λ_=>by show l∈t.ω++[l];simp⟩
   ·exact⟨f,by show(if c=0 then s.EV.set m {t with ω:=t.ω++[l]} else s.EV)[b]?=_;rw[Ι n,ę (ϧ e)];exact h,λx g=>g,λz=>Κ z e⟩
  ·refine⟨f,by show(if c=0 then s.EV.set m {t with ω:=t.ω++[l]} else s.EV)[b]?=_;rw[Θ n];exact h,λx g=>g,λz=>?_⟩
   subst z
   rw[C]at h
   cases h
   exact h1 n
 have N:∀(j:Nat)(p:fB),(gk s m c l t o).γ[j]?=Α p->(j=l/\p.qs=o.qs++[((m:Int),c)])∨(j≠l/\s.γ[j]?=Α p):=λj p h=>by
  rcases jc h with ⟨rfl,rfl⟩|⟨ne,h⟩
  ·exact .inl ⟨Λ,Λ⟩
  ·exact .inr ⟨ne,h⟩
 have H:∀(j:Nat)(p:fB),(gk s m c l t o).γ[j]?=Α p->∀q∈p.qs,(j=l/\q=((m:Int),c))∨∃D,s.γ[j]?=Α D/\q∈D.qs:=λj p h q r=>by
  rcases N j p h with ⟨rfl,e⟩|⟨ne,h⟩
  ·rw[e,ϝ]at r
   rcases r with r|r
   ·exact .inr ⟨o,E,r⟩
   ·exact .inl ⟨Λ,by simpa using r⟩
  ·exact .inr ⟨p,h,r⟩
 refine⟨by rw[←M.γ];show(s.γ.set _ _).length=_;simp,M.ε,?_,M.KN,?_,?_,?_,?_,?_,?_,?_,?_,?_,?_⟩
 ·show(if c=0 then s.EV.set m {t with ω:=t.ω++[l]} else s.EV).length<=60
  by_cases n:c=0
  ·rw[Ι n,Ĵ];exact M.F3
  ·rw[Θ n];exact M.F3
 ·intro b d h
  obtain⟨f,u,O,A,_⟩:=lk b d h
  rw[O,A];exact M.lets b f u
 ·intro b d h
  obtain⟨f,u,_,_,_,_,e⟩:=lk b d h
  obtain⟨Q,R⟩:=M.GK b f u
  rcases e with ⟨n,rfl,rfl,e⟩|⟨_,e⟩
  ·rw[e]
   refine⟨λx g=>?_,?_⟩
   ·rcases ϝ.mp g with g|g
    ·exact Q x g
    ·rw[ϋ.mp g];exact Mf
   ·rw[List.nodup_append]
    exact⟨R,by simp,λx g y hy=>by rw[ϋ.mp hy];exact λz=>(T n).1 (z▸g)⟩
  ·rw[e];exact⟨Q,R⟩
 ·intro j p h q r
  rcases H j p h q r with ⟨rfl,rfl⟩|⟨D,u,r⟩
  ·obtain⟨d,B,_,F⟩:=G m t C
   exact⟨m,d,Λ,B,F Λ⟩
  ·obtain⟨b,f,e,B,hj⟩:=M.GS j D u q r
   obtain⟨d,F,U,_⟩:=G b f B
   exact⟨b,d,e,F,U j hj⟩
 ·intro b d h
  obtain⟨f,u,_,_,X,Y,_⟩:=lk b d h
  rw[X,Y];exact M.Iu b f u
 ·intro b d h Z
  obtain⟨f,u,_,_,_,Y,e⟩:=lk b d h
  rw[Y]at Z
  obtain⟨Q,R⟩:=M.GL b f u Z
  rcases e with ⟨n,rfl,_⟩|⟨_,e⟩
  ·exact Κ Λ R
  ·rw[e];exact Q
 ·intro b d h i x v g
  obtain⟨f,u,_,A,_,_,e⟩:=lk b d h
  rw[A]at g
  rcases e with ⟨n,rfl,rfl,e⟩|⟨_,e⟩
  ·rw[e]at v⊢
   by_cases I:i<f.ω.length
   ·rw[Õ I]at v
    exact Κ g ((T n).2 x (Ϫ v))
   ·have:=(gQ0 v)
    rw[Ξ,ú]at this⊢
    omega
  ·rw[e]at v⊢
   exact M.last b f u i x v g
 ·intro b d h x p g Ie
  obtain⟨f,u,_,A,_,_,e⟩:=lk b d h
  rcases e with ⟨n,rfl,rfl,e⟩|⟨ne,e⟩
  ·rw[e]at g
   have g:l=x:=by simpa using g
   subst g
   rcases N l p Ie with ⟨_,J⟩|⟨ne,_⟩
   ·left
    rw[J,n];simp
   ·exact Κ Λ ne
  ·rw[e]at g
   rcases N x p Ie with ⟨rfl,J⟩|⟨ne',L⟩
   ·rcases M.head b f u x o g E with z|z|z
    ·exact Κ ⟨z.2,z.1⟩ ne
    ·exact .inl (by rw[J];exact Ê _ z)
    ·rw[A];exact .inr z
   ·rcases M.head b f u x p g L with z|z|z
    ·exact Κ ⟨z.2,z.1⟩ ne
    ·exact .inl z
    ·rw[A];exact .inr z
 ·intro j p h i i' z q v I r
  rcases N j p h with ⟨rfl,e⟩|⟨_,L⟩
  ·rw[e]at v r
   by_cases IM:i<o.qs.length
   ·rw[Õ IM]at v
    rw[Õ (by omega)]at r
    exact M.first j o E i i' z q v I r
   ·have B:=(gQ0 v)
    rw[Ξ,ú]at B
    have ei:i=o.qs.length:=by omega
    subst ei
    rw[ic]at v
    have v:=ϥ v
    injection v with O A
    subst O
    rw[Õ I]at r
    intro ez
    obtain⟨b,f,X,F,U⟩:=M.GS j o E q (Ϫ r)
    have em0:(b:Int)=(m:Int):=by rw[←X];exact ez
    have:m=b:=by omega
    subst this
    rw[C]at F
    cases F
    exact(T A).1 U
  ·exact M.first j p L i i' z q v I r
 ·intro j p h b d S L
  obtain⟨f,u,_,_,_,_,e⟩:=lk b d L
  rcases H j p h _ S with ⟨rfl,J⟩|⟨D,B,S⟩
  ·injection J with O A
   have em:b=m:=by omega
   subst em
   rcases e with ⟨_,_,_,e⟩|⟨ne,_⟩
   ·rw[e];simp
   ·exact Κ ⟨A.symm,Λ⟩ ne
  ·rcases e with ⟨n,rfl,rfl,e⟩|⟨ne,e⟩
   ·exact Κ S (M.δ n j D B)
   ·rw[e];exact M.Lh j D B b f S u
 ·have q1:=i0 (λo:fB=>o.qs.length) (y:=ou o m c t.len) E
  have q2:(ou o m c t.len).qs.length=o.qs.length+1:=by show(o.qs++[_]).length=_;simp
  have q3:jw (gk s m c l t o)=jw s:=by
   unfold jw
   show((if c=0 then s.EV.set m {t with ω:=t.ω++[l]} else s.EV).map λt=>t.δ).sum=_
   by_cases n:c=0
   ·rw[Ι n]
    have:=mQ (λt:eJ=>t.δ) (y:={t with ω:=t.ω++[l]}) C
    have e:({t with ω:=t.ω++[l]}:eJ).δ=t.δ:=rfl
    omega
   ·rw[Θ n]
  have u:=M.sum
  rw[q3]
  unfold pb at u⊢
  show((((s.γ.set l (ou o m c t.len)).map λo=>o.qs.length).sum:Nat):Int)+(mT s:Int)=jw s
  omega
theorem BW(M:VU a s m c)(j:s.EV[m]?=Α t)(l:s.ε[e]?=Α b)(n:c=0->∀x,t.ω.getLast?=Α x->sN a x=t.ι):G5 a {s with ε:=s.ε.set e (b++[((m:Int),c)])}:=by
 refine⟨M.γ,by show(s.ε.set _ _).length=_;rw[Ĵ];exact M.ε,M.F3,M.KN,M.lets,M.GK,M.GS,M.Iu,λd f h z=>(M.GL d f h z).1,M.last,?_,M.first,M.Lh,?_⟩
 ·intro d f h x o i p
  rcases M.head d f h x o i p with ⟨rfl,q⟩|z|z
  ·have h:=h
   rw[j]at h
   cases h
   exact .inr (n q x i)
  ·exact .inl z
  ·exact .inr z
 ·have:=i0 (λb:List (Int×Int)=>b.length) (y:=b++[((m:Int),c)]) l
  have r:=M.sum
  unfold mT at r⊢
  show (pb s:Int)+((((s.ε.set e (b++[((m:Int),c)])).map λb=>b.length).sum:Nat):Int)=jw s
  rw[Ξ,ú]at this
  omega
theorem G5.back(J:G5 a s)(n:s.γ[k]?=Α lk)(e:Tz.qs=lk.qs):G5 a {s with γ:=s.γ.set k Tz}:=by
 have g:∀(j:Nat)(b:fB),(s.γ.set k Tz)[j]?=Α b->∃c,s.γ[j]?=Α c/\b.qs=c.qs:=λj b h=>by
  rcases jc h with ⟨rfl,rfl⟩|⟨_,h⟩
  ·exact⟨lk,n,e⟩
  ·exact⟨b,h,Λ⟩
 refine⟨by rw[←J.γ];simp,J.ε,J.F3,J.KN,J.lets,J.GK,?_,J.Iu,J.GL,J.last,?_,?_,?_,?_⟩
 ·intro j b h q o
  obtain⟨c,d,f⟩:=g j b h
  rw[f]at o
  exact J.GS j c d q o
 ·intro m t p x b r u
  obtain⟨c,d,f⟩:=g x b u
  rw[f]
  exact J.head m t p x c r d
 ·intro j b h
  obtain⟨c,d,f⟩:=g j b h
  rw[f]
  exact J.first j c d
 ·intro j b h
  obtain⟨c,d,f⟩:=g j b h
  rw[f]
  exact J.Lh j c d
 ·have:=i0 (λl:fB=>l.qs.length) (y:=Tz) n
  have v:=J.sum
  have z:=congrArg ê e
  unfold pb at v⊢
  show((((s.γ.set k Tz).map λl=>l.qs.length).sum:Nat):Int)+(mT s:Int)=jw s
  omega
theorem G5.step(J:G5 a s)(h:IG a s m s'):G5 a s':=by
 cases h with
 | @Gq k l t ln ht hg hl FA ho =>
  have M:=zH J ht hg
  refine pJ (t:={t with δ:=t.δ+1}) M (lS ht) FA (λb=>?_) (λb=>?_)
  ·have g:=J.GL k t ht b
   rw[g]
   exact⟨by simp,by simp⟩
  ·unfold fU at hl
   rw[Θ b]at hl
   exact Ď hl
 | @on k l m c lk ln t hk hq ht hl FA ho =>
  have M:=sw J hk hq
  have g:fY a s k=if c=0 then (x9 a k t.ι.toNat).filter (λl=>!decide (l∈t.ω)) else (t.ω.drop (t.ω.idxOf k+1)).take 1:=by
   unfold fY dD
   rw[hk]
   dsimp only
   rw[hq]
   dsimp only
   rw[Ϙ,ht]
  rw[g]at hl
  refine pJ M ht FA (λb=>?_) (λb=>?_)
  ·rw[Ι b]at hl
   obtain⟨j,r⟩:=Ì.mp hl
   refine⟨by simpa using r,λx d ex=>?_⟩
   subst b
   obtain⟨i,q⟩:=vB d
   have v:=J.last m t ht i x q ex
   have n:=J.Lh k lk hk m t (Ĝ hq) ht
   have f:=zQ n
   rw[show t.ω.length - 1=i by omega,q]at f
   have f:=ϥ f
   subst f
   unfold x9 at j
   obtain⟨y,z,A,u,_,_⟩:=J.lets m t ht
   rw[Ι (by show sN a x=_;rw[ex,u,Ϙ])]at j
   cases j
  ·rw[Θ b]at hl
   exact ī (Ď hl)
 | @Hm k m e c lk t qs hk hq ht hg he Jc =>
  have M:=sw J hk hq
  have:=BW (s:={s with γ:=s.γ.set k (e6 lk)}) M ht Jc (λb x d=>?_)
  ·exact this
  ·subst b
   have n:=J.Lh k lk hk m t (Ĝ hq) ht
   rw[n]at d
   have d:=ϥ d
   subst d
   show(a.ps.getD k (0,0)).2=t.ι
   rw[he,hg]
 | @back k lk hk hb=>exact J.back hk Λ
noncomputable def xU(s:YS):Int:=(s.EV.map λt=>t.len).sum
theorem vh{a:Type}(f g:a->Int):∀{L:List a},(∀(m:Nat)(t:a),L[m]?=Α t->f t<=g t)->(L.map f).sum<=(L.map g).sum
 |[],_=>by simp
 | x:: L,h=>by
  have c:=h 0 x Λ
  have d:=vh f g (L:=L) λm t b=>h (m+1) t b
  simp only[ϳ,Ł];omega
theorem pz{a:Type}(g:a->Int):∀{L:List a},(∀(m:Nat)(t:a),L[m]?=Α t->g t<=60)->(L.map g).sum<=60* L.length
 |[],_=>by simp
 | x:: L,h=>by
  have c:=h 0 x Λ
  have d:=pz g (L:=L) λm t b=>h (m+1) t b
  simp only[ϳ,Ł,Ϛ];omega
theorem G5.T1(J:G5 a s):(mT s:Int)<=xU s/\(pb s:Int)+(mT s:Int)<=3600:=by
 have d:=vh (λt:eJ=>t.δ) (λt=>t.len) (L:=s.EV) λm t b=>(J.Iu m t b).2.1
 have c:=J.sum
 have e:=pz (λt:eJ=>t.len) (L:=s.EV) λm t b=>(J.Iu m t b).2.2
 have f:=J.F3
 unfold jw at c
 unfold xU
 omega
theorem ot{a:Type}(f:a->Nat):∀{L:List a}{k:Nat}{x:a},L[k]?=Α x->f x<=(L.map f).sum
 |[],_,_,h=>by cases h
 |z:: L,0,x,h=>by cases h;simp only[ϳ,Ł];omega
 | z:: L,k+1,x,h=>by
  have:=ot f (L:=L) (k:=k) (x:=x) h
  simp only[ϳ,Ł];omega
theorem G5.sml(J:G5 a s)(d:s.done.length<=100000):VT s:=by
 have h:=J.T1.2
 refine⟨λk b e=>?_,λp c f=>?_,d⟩
 ·have:=ot (λb:fB=>b.qs.length) e
  unfold pb at h
  omega
 ·have:=ot (λc:List (Int×Int)=>c.length) f
  unfold mT at h
  omega
end K83
namespace L2
open PySem PySem.Spec PyProof.Rows
section
variable {prog:Program}{w:À}{A:é}{E:Ο->Ω->Prop}{s:Ω}
end
section
variable {X:Cx}{ν:List (Ν×Obj)}{σ:St}{H:Hp}{s:Ω}{a:Ν}{o:Obj}{u:HO}
end
section
variable {X:Cx}
end
section
variable {X:Cx}{elts:List Expr}{kk:Nat}{IB:Pos}
end
section
variable {prog:Program}{w:À}{A:é}{E:Ο->Ω->Prop}{s:Ω}
end
section
variable {X:Cx}{tg:Expr}
end
section
variable {prog:Program}{w:À}{A:é}{E:Ο->Ω->Prop}{s:Ω}{I:Ν}{fp wr:List Ν}{G:Array PK->Array PK->Prop}{n:Nat}{P:Nat->Ο->Prop}{St:Nat->Ω->Prop}
end
section
variable {X:Cx}
end
section
variable {X:Cx}{o e f:Expr}{apos FE:Pos}{td ty tx:TE}
end
section
variable {X:Cx}{ν:List (Ν×Obj)}{σ:St}{H:Hp}{s:Ω}
end
section
variable {X:Cx}{elts:List Expr}{kk:Nat}{IB p pos:Pos}{e1 e2:Expr}
end
section
variable {X:Cx}
theorem xt(o:X.calm=Δ):F5 X (.builtin "min") (λxs H Q=>∃(p:Ν)(a:List Int),xs=[.ref p]/\EX X.K H p (a.map V.int)/\a≠[]/\∀m,m∈a->(∀z∈a,m<=z)->Q (.int m) H):=by
 intro f s L H xs us Q I r h
 obtain⟨p,a,rfl,w,x,q⟩:=h
 obtain⟨u,rfl,y⟩:=r.one
 cases y
 obtain⟨g,A,B,M⟩:=I.list w
 have i:=o0 A
 obtain⟨b,l⟩:=i.allInts.items
 have e:b.toList.map (·.1)=a:=by
  have:=i.numsOf
  rw[show g=g.toArray.toList from Λ,l,nums_intItems]at this
  exact this
 have c:b.size=a.length:=by rw[←e];simp
 have C:0<b.size:=by
  rw[c]
  exact Ħ.mpr x
 have n:=B.isList
 rw[l]at n
 refine min_intList (I.ok.hd o) n C λv N D E F=>?_
 obtain⟨t,rfl⟩:=intItems_at E
 obtain⟨O,G⟩:=argBest_lt (numAt b) (b.size - 1)
 refine⟨.int _,H,I.kept (t':=D) F,⟨t,Λ⟩,q _ ?_ λz d=>?_⟩
 ·rw[numAt_eq,e]
  exact getD_mem (by omega)
 ·rw[←e]at d
  obtain⟨j,J,rfl⟩:=mem_getD d
  rw[Μ,Â]at J
  rw[←numAt_eq]
  exact G j (by omega)
end
section
variable {prog:Program}{w:À}{A:é}{E:Ο->Ω->Prop}{s:Ω}{I:Ν}{fp wr:List Ν}{G:Array PK->Array PK->Prop}{n:Nat}{P:Nat->Ο->Prop}{St:Nat->Ω->Prop}
end
section
variable {X:Cx}
end
end L2
namespace L2
open PySem
theorem jB:∀{a:List Ã}{p:Pos}{s:Ω},
  Sem.wp M Γ (execs a env) (λf d e=>match f with|.next=>Sem.wp M Γ (execs b env) Q E d e|f=>Q f d e) E p s->Sem.wp M Γ (execs (a++b) env) Q E p s
 |[],_,_,h=>h
 | st:: a,p,s,h=>by
  rw[execs_cons,Sem.wp_bind']at h
  rw[qp,execs_cons,Sem.wp_bind']
  refine Sem.wp_mono M Γ _ (λf d e c=>?_) (λ_ _ _ c=>c) _ _ h
  cases f with
  |next=>exact jB (a:=a) c
  |brk=>exact c
  |cont=>exact c
  |ret u=>exact c
section
variable {X:Cx}
theorem Br(g:Ib X a t)(i:Ib X b u):Ib X (a++b) (rF (vf t) u):=by
 intro c s j H D I h
 obtain⟨r,q,k⟩:=h
 intro Γ p d
 refine jB ?_
 refine Sem.wp_mono _ Γ _ (λf l m z=>?_) (λ_ _ _ z=>z) _ _ (g c s j H _ I q Γ p d)
 cases f with
 |next=>obtain⟨e,n,o,z⟩:=z;exact i c m e n D o (k _ _ z) Γ l d
 |brk=>exact z
 |cont=>exact z
 |ret u=>exact z
theorem jR(n:Nat)(a:Ib X (ss.take n) t)(b:Ib X (ss.drop n) u):Ib X ss (rF (vf t) u):=by
 have h:=Br a b
 rwa [c5]at h
end
end L2
namespace K83
open PySem L2
variable {P:Program}{w:À}{K:Ϣ}{mg:Str->Option Ο}{μ:ò}
abbrev yx(ys:Ys)(ex:List Ν):Ys:={ys with ex:=ex}
def ScV(x:V):Prop:=(∃i,x=.int i)∨∃t,x=.str t/\õ t=Δ
structure Z2(a:YA)(s:YS):Prop where
 γ:s.γ.length=a.ps.length
 ε:s.ε.length=a.n
 q0:∀(k:Nat)(ln:fB),s.γ[k]?=Α ln->ln.qs=[]
 l0:∀(p:Nat)(qs:List (Int×Int)),s.ε[p]?=Α qs->qs=[]
 lets:∀(m:Nat)(t:eJ),s.EV[m]?=Α t->t.δ=0/\t.ω=[]/\0<=t.len/\t.len<=60/\∃x y:Nat,t.start=(x:Int)/\t.ι=(y:Int)/\x<a.n/\y<a.n
 done:∀d∈s.done,∀x∈d,ScV x
theorem Dn{a:Type}(f:a->Nat):∀{L:List a},(∀(k:Nat)(x:a),L[k]?=Α x->f x=0)->(L.map f).sum=0
 |[],_=>rfl
 | x:: L,h=>by
  have c:=h 0 x Λ
  have d:=Dn f (L:=L) λk y b=>h (k+1) y b
  simp only[ϳ,Ł];omega
theorem C4{a:Type}(f:a->Int):∀{L:List a},(∀(k:Nat)(x:a),L[k]?=Α x->f x=0)->(L.map f).sum=0
 |[],_=>rfl
 | x:: L,h=>by
  have c:=h 0 x Λ
  have d:=C4 f (L:=L) λk y b=>h (k+1) y b
  simp only[ϳ,Ł];omega
theorem Z2.LI(h:Z2 a s)(F3:s.EV.length<=60)(v:a.ps.length<=40):G5 a s:=by
 refine⟨h.γ,h.ε,F3,v,λm t b=>(h.lets m t b).2.2.2.2,λm t b=>?_,λk c d q o=>?_,λm t b=>?_,λm t b _=>(h.lets m t b).2.1,λm t b i l e=>?_,λm t b l c f=>?_,λk c d i j z q e=>?_,λk c d m t r=>?_,?_⟩
 ·rw[(h.lets m t b).2.1];exact⟨(λl f=>by cases f),œ⟩
 ·rw[h.q0 k c d]at o;cases o
 ·obtain⟨g,u,n,x,_⟩:=h.lets m t b
  rw[g];exact⟨by omega,n,x⟩
 ·rw[(h.lets m t b).2.1]at e;cases e
 ·rw[(h.lets m t b).2.1]at f;cases f
 ·rw[h.q0 k c d]at e;cases e
 ·rw[h.q0 k c d]at r;cases r
 ·have g:pb s=0:=Dn _ λk c d=>by rw[h.q0 k c d];rfl
  have u:mT s=0:=Dn _ λp y A=>by rw[h.l0 p y A];rfl
  have n:jw s=0:=C4 _ λm t b=>(h.lets m t b).1
  rw[g,u,n];rfl
theorem rY(f:a<n)(g:b<n)(c:1<=l/\l<=60)(d:Qj (.int u)=Δ)(i:a≠b)(e:wy a b Β≠[]):DN n wy (.int a) (.int b) (.int l) (.int u)=Δ:=by
 unfold DN
 rw[show kX (.int (a:Int)) 0 ((n:Int) - 1)=Δ from Ζ (by omega),show kX (.int (b:Int)) 0 ((n:Int) - 1)=Δ from Ζ (by omega),show kX (.int l) 1 60=Δ from Ζ c,d]
 rw[Η]; · rfl
 rintro (h|h)
 ·have h:(a:Int)=(b:Int):=h
  omega
 ·have h:wy ((a:Int)).toNat ((b:Int)).toNat Β=[]:=h
  rw[Ϙ,Ϙ]at h
  exact e h
theorem rK(s:EU H H1)(o:Fm ex H1 H2)(a:∀b∈ex,H b=Β):EU H H2:=λb u e=>o b _ (λz=>by rw[a b z]at e;cases e) (s b u e)
theorem G5.done(J:G5 a s)(d:List (List V)):G5 a {s with done:=d}:=⟨J.γ,J.ε,J.F3,J.KN,J.lets,J.GK,J.GS,J.Iu,J.GL,J.last,J.head,J.first,J.Lh,J.sum⟩
theorem T2(h:Fl.length=a.ps.length):Z2 a (Y0 Fl a.n):=by
 refine⟨by show(Fl.map wX).length=_;rw[Μ];exact h,by show(è a.n []).length=_;rw[Ŕ],λk i b=>?_,λp j c=>?_,λm t e=>?_,λd f=>?_⟩
 ·have b:(Fl.map wX)[k]?=Α i:=b
  rw[Ç]at b
  cases g:Fl[k]? with
  |none=>rw[g]at b;cases b
  |some v=>rw[g]at b;cases b;rfl
 ·have c:=c
  exact Oc (Ϫ c)
 ·have e:=e
  cases e
 ·have f:=f
  cases f
theorem vq(a:List Mv):Ih (.list (a.map xA)) 64:=(jJ (m:=1) λz b=>by
 obtain⟨m,_,rfl⟩:=ϟ.mp b
 exact uo m).le (by decide)
theorem Ky:Ih (.list []) 64:=(jJ (m:=0) λz a=>by cases a).le (by decide)
theorem vO{a:Type}(f:a->ĩ)(l:List a):Ĕ (.list (l.map f)) (.list [])=l.isEmpty:=by
 cases l<;>simp[Ĕ,Km]
theorem eqN{a:Type}{f:a->ĩ}{l:List a}(b:mF K H x (.list (l.map f)))(c:mF K H y (.list []))(s:Ih (.list (l.map f)) 64)(q:Q (.bl l.isEmpty) H):Bo K x y H Q:=
 ⟨_,_,b,c,s.shaped (ϛ _),Ky.shaped (ϛ _),by rw[vO];exact q⟩
theorem neN{a:Type}{f:a->ĩ}{l:List a}(b:mF K H x (.list (l.map f)))(c:mF K H y (.list []))(s:Ih (.list (l.map f)) 64)(q:Q (.bl (!l.isEmpty)) H):DI K x y H Q:=
 ⟨_,_,b,c,s.shaped (ϛ _),Ky.shaped (ϛ _),by rw[vO];exact q⟩
theorem IG.rooms(h:IG a s m s'):s'.rooms=s.rooms:=by cases h<;>rfl
theorem IG.len(h:IG a s m s'):s'.EV.length=s.EV.length:=by
 cases h with
 | @Gq k l t ln ht hg hl FA ho =>
  show(if t.δ=0 then (lF s k t).EV.set k _ else (lF s k t).EV).length=_
  have:(lF s k t).EV.length=s.EV.length:=Ĵ ..
  split
  ·rw[Ĵ];exact this
  ·exact this
 | @on k l m c lk ln t hk hq ht hl FA ho =>
  show(if c=0 then s.EV.set m _ else s.EV).length=_
  split
  ·exact Ĵ ..
  ·rfl
 |Hm=>rfl
 |back=>rfl
theorem G5.post(J:G5 a s)(B:x<a.n)(C:y<a.n)(f:0<=l/\l<=60)(N:s.EV.length<60):G5 a (pB s x y l u):=by
 have c:∀(m:Nat)(t:eJ),(pB s x y l u).EV[m]?=Α t->s.EV[m]?=Α t∨(m=s.EV.length/\t=⟨x,y,l,u,0,[]⟩):=λm t b=>by
  have b:(s.EV++[(⟨(x:Int),(y:Int),l,u,0,[]⟩:eJ)])[m]?=Α t:=b
  by_cases g:m<s.EV.length
  ·rw[Õ g]at b;exact .inl b
  ·have D:=(gQ0 b)
   rw[Ξ,ú]at D
   have E:m=s.EV.length:=by omega
   subst E
   rw[ic]at b
   cases b
   exact .inr ⟨Λ,Λ⟩
 have F:∀(m:Nat)(t:eJ),s.EV[m]?=Α t->(pB s x y l u).EV[m]?=Α t:=λm t b=>by
  show(s.EV++[(⟨(x:Int),(y:Int),l,u,0,[]⟩:eJ)])[m]?=Α t
  rw[Õ (gQ0 b)];exact b
 refine⟨J.γ,J.ε,?_,J.KN,λm t b=>?_,λm t b=>?_,λk d j q G=>?_,λm t b=>?_,λm t b H=>?_,λm t b i p v I=>?_,λm t b p d z L=>?_,J.first,λk d j m t g b=>?_,?_⟩
 ·show(s.EV++[_]).length<=60
  rw[Ξ,ú];omega
 ·rcases c m t b with h|⟨_,rfl⟩
  ·exact J.lets m t h
  ·exact⟨x,y,Λ,Λ,B,C⟩
 ·rcases c m t b with h|⟨_,rfl⟩
  ·exact J.GK m t h
  ·exact⟨(λl f=>by cases f),œ⟩
 ·obtain⟨m,t,e,b,M⟩:=J.GS k d j q G
  exact⟨m,t,e,F m t b,M⟩
 ·rcases c m t b with h|⟨_,rfl⟩
  ·exact J.Iu m t h
  ·exact⟨Int.le_refl _,f.1,f.2⟩
 ·rcases c m t b with h|⟨_,rfl⟩
  ·exact J.GL m t h H
  ·rfl
 ·rcases c m t b with h|⟨_,rfl⟩
  ·exact J.last m t h i p v I
  ·cases v
 ·rcases c m t b with h|⟨_,rfl⟩
  ·exact J.head m t h p d z L
  ·cases z
 ·obtain⟨A,O,o,r,_⟩:=J.GS k d j _ g
  have o:=o
  have o:m=A:=by omega
  subst o
  rcases c m t b with h|⟨e,_⟩
  ·exact J.Lh k d j m t g h
  ·rw[e]at r
   rw[ż (ϛ _)]at r
   cases r
 ·have h:=J.sum
  have e:jw (pB s x y l u)=jw s:=by
   show((s.EV++[(⟨(x:Int),(y:Int),l,u,0,[]⟩:eJ)]).map _).sum=_
   rw[ϗ,sum_append]
   simp[jw]
  rw[e];exact h
theorem Gj.exs(h:Gj K (yx ys e) H a s)(o:EU H H')(l:∀b∈e',b∈e∨(H b=Β/\∃f,H' b=Α (.π f))):Gj K (yx ys e') H' a s:=by
 have c:∀p:Ν,(∃u,H p=Α u)->p∉a.la:: a.le:: a.li:: a.dn:: e->p∉a.la:: a.le:: a.li:: a.dn:: e':=λp ⟨u,m⟩ g z=>by
  have B:∀q:List Ν,a.la:: a.le:: a.li:: a.dn:: q=[a.la,a.le,a.li,a.dn]++q:=λ_=>rfl
  rw[B]at z g
  rcases ϝ.mp z with z|z
  ·exact g (Ê _ z)
  ·rcases l p z with z|⟨z,_⟩
   ·exact g (Å _ z)
   ·rw[z]at m;cases m
 obtain⟨C,D,E⟩:=h.GX
 obtain⟨F,G,I⟩:=h.χ
 have d:=Fq.same h o
 refine⟨d.ρ,d.hro,⟨C,o _ _ D,Paired.mono (λv Q z=>?_) E⟩,⟨F,o _ _ G,Paired.mono (λv t z=>?_) I⟩,d.Jl,d.HI,d.ne,λb J=>?_⟩
 ·obtain⟨x,i,r,M,j,L,n⟩:=z
  exact⟨x,i,r,M,j,L.same o,c r ⟨_,L.π⟩ n⟩
 ·obtain⟨x,i,y,j,N,A,n⟩:=z
  exact⟨x,i,y,j,o _ _ N,o _ _ A,c y ⟨_,A⟩ n⟩
 ·rcases l b J with z|⟨_,z⟩
  ·obtain⟨f,O⟩:=h.hex b z
   exact⟨f,o _ _ O⟩
  ·exact z
theorem Gj.Z3(h:Gj K ys H a s)(o:Fm e H H')(i:∀b∈e,b∈ys.ex)(c:∀b∈a.four,b∉e)(j:∀b∈e,∃d,H' b=Α (.π d)):Gj K ys H' a s:=by
 have l:Fm (a.la:: a.le:: a.li:: a.dn:: ys.ex) H H':=o.mono λb f=>by simp[i b f]
 obtain⟨m,n,p,q,r,t⟩:=Fq.off h l
 obtain⟨u,v,x⟩:=h.GX
 obtain⟨y,z,A⟩:=h.χ
 obtain⟨B,C,D⟩:=h.Jl
 obtain⟨E,F,G⟩:=h.HI
 refine⟨m,n,⟨u,o _ _ (c _ (by simp)) v,p _ _ x⟩,⟨y,o _ _ (c _ (by simp)) z,q _ _ A⟩,⟨B,o _ _ (c _ (by simp)) C,r _ _ D⟩,⟨E,o _ _ (c _ (by simp)) F,t _ _ G⟩,h.ne,λb f=>?_⟩
 by_cases g:b∈e
 ·exact j b g
 ·obtain⟨d,I⟩:=h.hex b f
  exact⟨d,o _ _ g I⟩
def YdP(K:Ϣ)(c:Cs)(TC:Ν)(J:TJ)(ys:Ys)(ex:List Ν)(H:Hp)(tb:Ν)(ps:List (Int×Int))(n:Nat)(wy:Wf)(Fl:List V):VK:=λv H'=>∃a:YA,v=.ref a.y/\a.tb=tb/\a.ps=ps/\a.n=n/\a.wy=wy/\EU H H'/\(∀z∈a.four,H z=Β)/\HP K c TC J (yx ys ex) H' a (Y0 Fl n)/\G5 a (Y0 Fl n)
theorem vd{P:Program}{w:À}(W:Wy K TC fw dw J)
  (D:Hh c TC J H tb lx F1 lt n Fo ps wy) (L:∀p g k,(wy p g k).length<=400) (M:∀p∈ps,gQ n p=Δ) (N:EX K H ra Fl) (O:∀v∈Fl,tH v) (t:Fl.length<=1000) (u:pf ps.length Fl=Ε->Rf K x E H) (hp:ps.length<=40) (A:∀b∈ex,∃xs,H b=Α (.π xs)):
  ∀y d,H y=Β->H d=Β->d≠y->mU K c x TC J (yx ys ex) [.ref y,.ref tb,.ref ra] (ο (ο H d (.own y)) y (.ρ ys.Fb d [])) (λv Q=>v=.Fp/\pf ps.length Fl=Δ/\YdP K c TC J ys ex H tb ps n wy Fl (.ref y) Q) E:=by
 intro y d B R S
 have f:EU H (ο (ο H d (.own y)) y (.ρ ys.Fb d [])):=EU.new (EU.new (EU.refl H) R) (by rw[af (ϧ S)];exact B)
 refine⟨y,d,tb,lx,F1,lt,n,Fo,ps,wy,_,Fl,Λ,ET,D.keep W (EU.Fw f),(λb u=>let ⟨xs,i⟩:=A b u;⟨xs,f _ _ i⟩),.inr ⟨ra,Λ,.inl (f.seq N),t,O,λh T U X e o=>u h T U X e (rK f o λb z=>by rw[ϋ.mp z];exact B)⟩,λr s j le m q Y Z N8 OE S8 VM hY=>⟨Λ,r,?_⟩⟩
 have t:Fl.length=ps.length:=by
  unfold pf at r
  rw[ϫ,decide_eq_true_eq]at r
  exact r.1
 have F:=λb o e=>Z b o (λz=>by rw[ϋ.mp z,B]at e;cases e) (f _ _ e)
 have hO:Te ⟨y,d,tb,s,j,le,m,q,lx,F1,lt,n,Fo,ps,wy⟩:=by
  refine⟨λl C hl=>?_,L⟩
  have G:=M C (Ϫ hl)
  unfold gQ at G
  simp only[ϫ,decide_eq_true_eq,ă,decide_eq_false_iff_not]at G
  exact⟨C.2.toNat,by omega,by show C.2.toNat<n;omega⟩
 have I:=(T2 (a:=⟨y,d,tb,s,j,le,m,q,lx,F1,lt,n,Fo,ps,wy⟩) t).LI (Ä _) (by show ps.length<=40;omega)
 refine⟨⟨y,d,tb,s,j,le,m,q,lx,F1,lt,n,Fo,ps,wy⟩,Λ,Λ,Λ,Λ,Λ,F,λz i=>?_,⟨hY,D.keep W (EU.Fw F),hO,I.ok⟩,I⟩
 have i:=i
 simp only[ύ,ϡ,or_false]at i
 rcases i with rfl|rfl|rfl|rfl
 ·exact f.free N8
 ·exact f.free OE
 ·exact f.free S8
 ·exact f.free VM
noncomputable def av(rs:List Rw)(k:cx):Nat:=match dG rs k with
 |some r=>Yd.FU r.s 0
 |none=>0
theorem fq(h:dG rs k=Α r):r∈rs:=Yv.mp (List.mem_of_find?_eq_some h)
noncomputable def oZ(rs:List Rw):Wf:=λp g k=>mN (av rs (aR ⟨(p:Int),(g:Int),k,[]⟩))
def Ff(P:Program)(w:À)(ts:Ts):TJ:=λH x n wy=>∃(dx de:Ν)(lv:V)(EZ:List kE)(rs:List Rw),H x=Α (.ρ ts.told dx [("land",lv),("entries",.ref de)])/\FY P w H de EZ/\(∀k,fO EZ k=(dG rs k).map yo)/\(∀r∈rs,∀k∈r.s,k<40)/\wy=oZ rs
theorem Ff.keep(h:Ff P w ts H x n wy)(k:FD H H'):Ff P w ts H' x n wy:=by
 obtain⟨a,b,c,d,e,f,⟨g,i⟩,j⟩:=h
 exact⟨a,b,c,d,e,k _ _ f È,⟨k _ _ g È,λy l=>k _ _ (i y l) È⟩,j⟩
theorem Er(h:z∈mN (Yd.FU ks 0)):z∈ks:=by
 have:=(Ì.mp h).2
 have a:=this
 rw[wn,decide_eq_true_eq]at a
 obtain⟨n,b,e⟩:=GJ.mp a
 have:n=z:=by omega
 exact this▸b
theorem zL(m:Nat):(mN m).Nodup:=List.nodup_range.filter _
theorem qe(h:∀r∈rs,∀k∈r.s,k<n)(p g:Nat)(k:Option Nat):(∀z∈oZ rs p g k,z<n)/\(oZ rs p g k).length<=n:=by
 have c:∀z∈oZ rs p g k,z<n:=λz a=>by
  unfold oZ av at a
  cases b:dG rs (aR ⟨(p:Int),(g:Int),k,[]⟩) with
  |none=>rw[b]at a;exact Κ a (by show z∉mN 0;intro h;cases h)
  |some r=>rw[b]at a;exact h r (fq b) z (Er a)
 exact⟨c,lb n _ (zL _) c⟩
theorem tT(G:EW P w K mg μ aL 3 f fd ["self","place","goal","came"] (vj P w ts)):EW P w K mg μ aL 3 f fd ["self","place","goal","came"] (iR (Ff P w ts)):=
 G.imp λy H Q E d=>by
 obtain⟨x,n,z,p,g,k,e,⟨h,i,j,l,a,m,o,s,t,u⟩,A,B,q⟩:=d
 exact⟨x,h,i,j,l,⟨(p:Int),(g:Int),k,[]⟩,av a (aR ⟨(p:Int),(g:Int),k,[]⟩),e,m,o,by
  rw[s]
  unfold av
  cases dG a (aR ⟨(p:Int),(g:Int),k,[]⟩)<;>rfl,by
  unfold av
  cases v:dG a (aR ⟨(p:Int),(g:Int),k,[]⟩) with
  |none=>exact Nat.two_pow_pos _
  |some r=>exact Ϗ (Dq (t r (fq v))) (Ĥ (by decide) (by decide)),λC D b c=>q D _ (b.new c) (b.free c) (by rw[ET,u];rfl)⟩
theorem vV(e:ps.length<Τ)
  (f:∀(i:Nat)(acc:List V)(N:List V->Hp->Prop)(a:Int×Int),ps[i]?=Α a->N (if decide (sel a=pl)=Δ then acc++[V.int i] else acc) H->g (.int i) σ0 H λc j=>tt c j λb d=>if b=Δ then te c d λy l=>N (acc++[y]) l else N acc d)
  (m:∀D,H D=Β->Q (.ref D) (ο H D (.π (ji (gK sel ps pl))))):ge (Ct 0 ps.length) g tt te σ0 Q H:=by
 refine oO (lo:=0) (λk=>decide (sel (ps.getD k (0,0))=pl)) (λk=>V.int k) e (λi acc N n h=>?_) m
 obtain⟨a,FZ⟩:∃a,ps[i]?=Α a:=⟨ps[i],Ψ n⟩
 have o:ps.getD i (0,0)=a:=by rw[Ò,FZ];rfl
 rw[ł]
 rw[o]at h
 exact f i acc N a FZ h
theorem zv(c:0<=a)(d:a<n)(f:0<=e)(g:e<n - 1):gQ n (a,(a+1+e)% n)=Δ:=by
 have b:(a+1+e)% n=if a+1+e<n then a+1+e else a+1+e - n:=by
  split
  ·exact X2 (by omega) (by omega)
  ·rw[←Int.sub_emod_right,X2 (by omega) (by omega)]
 unfold gQ
 dsimp only
 rw[b]
 simp only[ϫ,decide_eq_true_eq,ă,decide_eq_false_iff_not]
 split<;>omega
theorem BX(c:H l=Α (.π xs)):∀{a:List V}{b:List (Int×Int)},F6 H a b->F6 (ο H l o) a b:=λd=>by
 induction d with
 |nil=>exact .nil
 |cons f r g=>obtain⟨t,e,q⟩:=f;exact .cons ⟨t,e,by rw[af (bH q c (by intro z;cases z))];exact q⟩ g
noncomputable def du:Scope:=zQ0
noncomputable def AA(s:Ã):Scope:=match s with
 |.Assign _ (.ListComp _ _ sc _) _=>sc
 |_=>du
noncomputable def Au(s:Ã):Scope:=match s with
 |.Assign _ (.BinOp _ _ (.ListComp _ _ sc _) _) _=>sc
 |_=>du
theorem gj(h:k∈gK sel ps pl):k<ps.length:=î.mp (Ì.mp h).1
theorem lY(a:Int×Int->Int)(b:List (Int×Int))(c:Int):(gK a b c).length<=b.length:=by
 have:=É (λk=>decide (a (b.getD k (0,0))=c)) (Ϝ b.length)
 rw[ĝ]at this
 exact this
def Z4(x:Ν)(H:Hp)(v:V)(r:Rw):Prop:=∃t l,v=.ref t/\RY H t l r/\l≠x
abbrev HY(x:Ν)(H:Hp):List V->List Rw->Prop:=Paired (Z4 x H)
theorem HY.imp{H H':Hp}(h:∀v r,Z4 x H v r->G v r):∀{a:List V}{b:List Rw},HY x H a b->Paired G a b:=λc=>by
 induction c with
 |nil=>exact .nil
 |cons z r d=>exact .cons (h _ _ z) d
theorem HY.rws(h:HY x H vs rs):Mc H vs rs:=HY.imp (H':=H) (λ_ _ ⟨t,l,e,z,_⟩=>⟨t,l,e,z⟩) h
theorem HY.same(s:EU H H')(h:HY x H vs rs):HY x H' vs rs:=HY.imp (H':=H) (λ_ _ ⟨t,l,e,z,n⟩=>⟨t,l,e,z.same s,n⟩) h
theorem HY.off(a:H x=Α (.π xs))(h:HY x H vs rs):HY x (ο H x o) vs rs:=
 HY.imp (H':=H) (λ_ _ b=>by obtain⟨t,l,e,z,n⟩:=b;exact⟨t,l,e,⟨by rw[af (bH z.1 a (by intro z;cases z))];exact z.1,by rw[af n];exact z.2⟩,n⟩) h
theorem HY.snoc(h:Z4 x H v r):∀{a:List V}{b:List Rw},HY x H a b->HY x H (a++[v]) (b++[r]):=λc=>by
 induction c with
 |nil=>exact .cons h .nil
 |cons z t d=>exact .cons z d
noncomputable def bR(ps:List (Int×Int))(p:Nat):List (Option Nat):=Β:: (gK Í ps p).map Α
abbrev Key:=Int×Int×Option Nat
noncomputable def jj(r:Rw):Key:=(r.p,r.g,r.c)
noncomputable def eI(ps:List (Int×Int))(p g:Nat):List Key:=if g=p then [] else (bR ps p).map λc=>((p:Int),(g:Int),c)
noncomputable def cr(ps:List (Int×Int))(n p:Nat):List Key:=(Ϝ n).flatMap λg=>eI ps p g
noncomputable def b7(ps:List (Int×Int))(n m:Nat):List Key:=(Ϝ m).flatMap λp=>cr ps n p
noncomputable def bO(k:Key):cx:=[Α k.1,Α k.2.1,k.2.2.map λz:Nat=>(z:Int)]
theorem sh(r:Rw):bO (jj r)=aR r:=rfl
theorem iE(h:bO k=bO l):k=l:=by
 obtain⟨a,b,c⟩:=k
 obtain⟨e,f,d⟩:=l
 simp only[bO,List.cons.injEq,Option.some.injEq,and_true]at h
 obtain⟨rfl,rfl,h⟩:=h
 congr 2
 cases c<;>cases d<;>simp_all<;>omega
theorem sZ(c:List (Int×Int))(p:Nat):(bR c p).Nodup:=by
 unfold bR
 refine č.mpr ⟨λh=>by simp at h,?_⟩
 refine KW _ (λa b (h:a≠b) e=>h (ϥ e)) ?_
 exact Ť _ (List.nodup_range)
theorem fT(h:k∈eI ps p g):g≠p/\k.1=p/\k.2.1=g/\k.2.2∈bR ps p:=by
 unfold eI at h
 by_cases e:g=p
 ·rw[Ι e]at h;cases h
 ·rw[Θ e]at h
  obtain⟨c,a,rfl⟩:=ϟ.mp h
  exact⟨e,Λ,Λ,a⟩
theorem fj(h:k∈b7 ps n m):∃p g:Nat,p<m/\g<n/\g≠p/\k.1=p/\k.2.1=g/\k.2.2∈bR ps p:=by
 unfold b7 cr at h
 obtain⟨p,e,h⟩:=þ.mp h
 obtain⟨g,f,h⟩:=þ.mp h
 obtain⟨a,b,c,d⟩:=fT h
 exact⟨p,g,î.mp e,î.mp f,a,b,c,d⟩
theorem ie(f:List (Int×Int))(n m:Nat):(b7 f n m).Nodup:=by
 unfold b7
 refine PY.mpr ⟨λp _=>?_,?_⟩
 ·unfold cr
  refine PY.mpr ⟨λg _=>?_,?_⟩
  ·unfold eI
   split
   ·exact .nil
   ·exact KW _ (λa b (h:a≠b) e=>h (by simpa using e)) (sZ f p)
  ·refine Ln ?_ (Jx)
   intro g i o x c y d e
   subst e
   have j:=(fT c).2.2.1
   have l:=(fT d).2.2.1
   omega
 ·refine Ln ?_ (Jx)
  intro p q r x c y d e
  subst e
  unfold cr at c d
  obtain⟨g,_,c⟩:=þ.mp c
  obtain⟨i,_,d⟩:=þ.mp d
  have j:=(fT c).2.1
  have l:=(fT d).2.1
  omega
theorem pO(a:List (Int×Int))(n i:Nat):b7 a n (i+1)=b7 a n i++cr a n i:=by
 unfold b7
 rw[Œ,ĵ]
 simp
theorem oR(a:List (Int×Int))(p j:Nat):cr a (j+1) p=cr a j p++eI a p j:=by
 unfold cr
 rw[Œ,ĵ]
 simp
theorem zT(h:aR a=aR r):jj a=jj r:=iE h
theorem BY(d:(rs.map jj).Nodup)(f:r∈rs):dG rs (aR r)=Α r:=by
 have n:(dG rs (aR r)).isSome=Δ:=by
  rw[ki,Oh]
  exact⟨r,f,Ζ Λ⟩
 obtain⟨o,e⟩:=Kp.mp n
 have p:=fq e
 have q:aR o=aR r:=by
  unfold dG at e
  have:=List.find?_some e
  exact of_decide_eq_true this
 have g:=zT q
 rw[e]
 obtain⟨i,l,a⟩:=qa p
 obtain⟨j,m,b⟩:=qa f
 have c:i=j:=by
  rcases Rl i j with h|h|h
  ·exact Κ (by rw[ņ,ņ,a,b];exact g) (Ŝ.mp d i j (by rw[Μ];exact l) (by rw[Μ];exact m) h)
  ·exact h
  ·exact Κ (by rw[ņ,ņ,a,b];exact g.symm) (Ŝ.mp d j i (by rw[Μ];exact m) (by rw[Μ];exact l) h)
 subst c
 rw[←a,b]
theorem oa:∀(n:Nat)(l:List Nat),l.Nodup->(∀x∈l,x<n)->l.length<=n
 | 0,l,_,h=>by
  cases l with
  |nil=>exact ϛ _
  |cons x l=>exact Κ (h x ϙ) (Yh _)
 | n+1,l,hn,h=>by
  by_cases b:n∈l
  ·have e:=List.length_erase_of_mem b
   have:=oa n (l.erase n) (hn.erase n) λx a=>by
    have c:=(hn.mem_erase_iff).mp a
    have:=h x c.2
    have:=c.1
    omega
   omega
  ·have:=oa n l hn λx a=>by
    have:=h x a
    have:x≠n:=λz=>b (by rw[←z];exact a)
    omega
   omega
noncomputable def wl(wy:cx->Nat)(k:cx):List Nat:=Yd.Js (wy k) (Ü ((wy k:Nat):Int))
theorem zV:∀{a b:List Nat},iz a=iz b->a=b
 |[],[],_=>rfl
 |[],_:: _,h=>by cases h
 |_:: _,[],h=>by cases h
 | x:: a,y:: b,h=>by
  have d:(x:Int)=(y:Int):=(Φ h).1
  have c:=(Φ h).2
  rw[zV c]
  congr 1
  omega
theorem zJ(h:F.Pairwise (· < ·)):Yd.Js (Yd.FU F 0) (Ü ((Yd.FU F 0:Nat):Int))=F:=zV (uK (vE h) λk=>Iff.rfl)
theorem lL(a:cx->Nat)(k:cx):(wl a k).Pairwise (· < ·):=Yd.IP _ _
noncomputable def Bj(s:Ã):Scope:=match s with
 |.Return (Α (.ListComp _ _ sc _)) _=>sc
 |_=>du
theorem pW(a:List (Int×Int))(p:Nat):(bR a p).length<=a.length+1:=by
 unfold bR
 rw[Ϛ,Μ]
 have:=lY Í a p
 omega
theorem va(a:List (Int×Int))(p g:Nat):(eI a p g).length<=a.length+1:=by
 unfold eI
 split
 ·exact Ä _
 ·rw[Μ];exact pW a p
theorem j7(a:List (Int×Int))(p:Nat):∀n,(cr a n p).length<=n* (a.length+1)
 |0=>by simp[cr]
 | n+1=>by
  rw[oR,Ξ,Nat.succ_mul]
  have:=j7 a p n
  have:=va a p n
  omega
theorem sF(a:List (Int×Int))(n:Nat):∀m,(b7 a n m).length<=m* (n* (a.length+1))
 |0=>by simp[b7]
 | m+1=>by
  rw[pO,Ξ,Nat.succ_mul]
  have:=sF a n m
  have:=j7 a m n
  omega
theorem nj(c:ps.length<=40)(a:n<=12)(d:i<=n)(e:j<=n):(b7 ps n i).length<=5904/\(cr ps j i).length<=492:=by
 have f:=sF ps n i
 have g:=j7 ps i j
 have b:n* (ps.length+1)<=12* 41:=mul_le_mul a (by omega)
 have h:i* (n* (ps.length+1))<=12* (12* 41):=mul_le_mul (by omega) b
 have l:j* (ps.length+1)<=12* 41:=mul_le_mul (by omega) (by omega)
 exact⟨by omega,by omega⟩
theorem Av(a:List (Int×Int))(p:Nat):[V.Fp]++ji (gK Í a p)=(bR a p).map cV:=by
 unfold bR ji
 rw[ϳ,Á]
 rfl
theorem As(p:Nat->Bool)(l:us.length<=100000)(d:H a=Α (.π (nV us)))
  (f:∀(x:Nat)(acc:List V)(N:List V->Hp->Prop),x∈us->N (if p x then acc++[.int (x:Int)] else acc) H->g (.int (x:Int)) σ0 H λc m=>tt c m λb i=>if b=Δ then te c i λy n=>N (acc++[y]) n else N acc i)
  (j:∀D,H D=Β->Q (.ref D) (ο H D (.π (nV (us.filter p))))):ge (AF K a) g tt te σ0 Q H:=by
 refine sV (K:=K) (a:=a) (xs:=nV us) (λv=>match v with|.int z=>p z.toNat|_=>Ε) (λv=>v) (by rw[Χ,eC];omega) (EX.of d) (λv acc N o h=>?_) λD q=>?_
 ·obtain⟨x,r,rfl⟩:=iF o
  exact f x acc N r h
 ·have e:((nV us).filter (λv=>match v with|.int z=>p z.toNat|_=>Ε)).map (λv=>v)=nV (us.filter p):=by
   rw[List.map_id']
   clear l d f j
   induction us with
   |nil=>rfl
   | cons x us s =>
    show D0 _ (V.int (x:Int):: nV us)=_
    rw[ï,ï,s]
    show(if p ((x:Int)).toNat=Δ then _ else _)=_
    rw[Ϙ]
    cases p x<;>rfl
  rw[e]
  exact j D q
def mE(ps:List (Int×Int))(rs:List Rw):Prop:=∀r∈rs,(∀k∈r.s,k∈gK Ø ps r.p)/\r.s.length<=ps.length
noncomputable def m5(s:Ã):List Ã:=match s with
 |.For _ _ b _ _=>b
 |_=>[]
end K83
namespace L2
open PySem PySem.Calls PySem.NumText PyProof.Rows PySem.W.KIN
noncomputable def al(m:Nat):Str:=υ (oh ((m:Nat):Int))
theorem cK(m:Nat):∀c∈(al m).cps.toList,48<=c/\c<=57:=by
 intro c a
 unfold al at a
 rw[signs_num]at a
 obtain⟨d,b,e⟩:=ϟ.mp a
 have r:=digit_range (Nat.isDigit_of_mem_toDigits (by decide) (by decide) b)
 rw[←e]
 exact r
theorem jX(m:Nat):(al m).cps.toList≠[]:=by
 unfold al
 rw[signs_num]
 intro e
 have h:=toDigits_len_ge 10 m
 rw[ĥ.mp e]at h
 exact Κ h (by decide)
theorem j0(a:(al m).length<=640):PySem.intText? (al m)=Α (m:Int):=by
 have e:=intText_digits (x:=al m) (cK m) (jX m) (ώ a (by decide))
 unfold al at e⊢
 rw[signs_num,val_back]at e
 exact e
theorem dS(a:0<k)(h:m<10^k):(al m).length<=k:=toString_length_le (by omega) a (by exact_mod_cast h)
theorem sk(b:(al m).length<=640)(h:al m=al n):m=n:=by
 have a:=j0 b
 rw[h,j0 (by rw[←h];exact b)]at a
 injection a with a
 omega
theorem qP(h:c<48∨57<c):c∉(al m).cps.toList:=λz=>by have:=cK m c z;omega
end L2
namespace K83
open PySem L2
variable {P:Program}{w:À}{K:Ϣ}{mg:Str->Option Ο}{μ:ò}
noncomputable def blank:Str:=⟨#[32]⟩
noncomputable def wT:V->Str
 |.str x=>x
 |.int i=>υ (oh i)
 |_=>υ "-"
inductive Wd:V->Prop
 |Fp:Wd .Fp
 |str (x:Str):Wd (.str x)
 |int (i:Int) (h:i.natAbs.log2<1920):Wd (.int i)
inductive qk(vs:List V)(H:Hp)(Q:VK)(E:XK):Prop
 |mk (x:Str) (_:vs=[.str x]) (_:x.length<=1000000) (_:(Txt.split x blank).length<=1000000) (_:∀D,H D=Β->Q (.ref D) (ο H D (.π ((Txt.split x blank).map V.str))))
noncomputable def eU(x:Str):Option Nat:=if x=al (Ô x.cps.toList)/\Ô x.cps.toList<10^60 then Α (Ô x.cps.toList) else Β
theorem iG(h:eU x=Α m):x=al m/\m<10^60:=by
 unfold eU at h
 split at h
 ·next hh=>cases h;exact hh
 ·cases h
theorem lV(h:m<10^60):eU (al m)=Α m:=by
 have b:=dS (by decide) h
 have e:Ô (al m).cps.toList=m:=by
  have a:=j0 (m:=m) (ώ b (by decide))
  rw[PySem.intText_digits (cK m) (jX m) (ώ b (by decide))]at a
  injection a with a
  exact ž a
 unfold eU
 rw[e,Ι ⟨Λ,h⟩]
theorem jY(h:∀m,m<10^60->x≠al m):eU x=Β:=by
 cases e:eU x with
 |none=>rfl
 |some m=>exact Κ (iG e).1 (h m (iG e).2)
theorem uW:∀(b:List Nat)(a:Nat),NumText.AllDigits b->b.foldl (λacc c=>acc* 10+(c - 48)) a<(a+1)* 10^b.length
 |[],a,_=>by simp
 | c:: b,a,h=>by
  have d:=h.head
  have:=uW b (a* 10+(c - 48)) h.tail
  refine Ϗ this ?_
  rw[Ϛ,pow_succ,Nat.mul_comm (10^b.length) 10,←Nat.mul_assoc]
  exact c4 _ (by omega)
inductive gx(vs:List V)(H:Hp)(Q:VK)(E:XK):Prop
 |mk (x:Str) (_:vs=[.str x]) (_:x.length<=1000000) (_:∀H',EU H H'->Q (oV (eU x)) H')
inductive kG(vs:List V)(H:Hp)(Q:VK)(E:XK):Prop
 |mk (v:V) (_:vs=[v]) (_:Wd v) (_:Q (.str (wT v)) H)
inductive jG(K:Ϣ)(vs:List V)(H:Hp)(Q:VK)(E:XK):Prop
 |mk (a:Ν) (xs:List V) (_:vs=[.ref a]) (_:(EX K H a xs∨Fn K H a xs)) (_:(∀v∈xs,Wd v)) (_:xs.length<=1000) (_:(∀v∈xs,(wT v).length<=100)) (_:∀H',EU H H'->Q (.str (Txt.join blank (xs.map wT))) H')
noncomputable def DS(s:Ã):Scope:=match s with
 |.If (.BoolOp _ [_,_,.UnaryOp _ (.Call _ [.ListComp _ _ sc _] _ _) _] _) _ _ _=>sc
 |_=>zQ0
noncomputable def Z5(s:Ã):Scope:=match s with
 |.Return (Α (.Call _ [.ListComp _ _ sc _] _ _)) _=>sc
 |_=>zQ0
abbrev tl(x:Str):List Nat:=x.cps.toList
theorem gf(x y:Str):tl (x++y)=tl x++tl y:=by
 show(x.cps++y.cps).toList=_
 exact ć
theorem jv(h:tl x=tl y):x=y:=by
 cases x;cases y
 exact congrArg Str.mk (Į.mp h)
theorem mP(x:Str):x.length=(tl x).length:=by
 exact Â.symm
theorem CK(c:Nat)(h:c∈(υ "0123456789").cps.toList):48<=c/\c<=57:=by
 have e:(υ "0123456789").cps.toList=[48,49,50,51,52,53,54,55,56,57]:=by decide
 rw[e]at h
 simp only[ύ,ϡ,or_false]at h
 omega
theorem T4(c:Nat)(h:48<=c/\c<=57):c∈(υ "0123456789").cps.toList:=by
 have e:(υ "0123456789").cps.toList=[48,49,50,51,52,53,54,55,56,57]:=by decide
 rw[e]
 have:c=48∨c=49∨c=50∨c=51∨c=52∨c=53∨c=54∨c=55∨c=56∨c=57:=by omega
 rcases this with rfl|rfl|rfl|rfl|rfl|rfl|rfl|rfl|rfl|rfl<;>decide
def Z6:R2:=λx y H Q=>∃i j:Str,x=.str i/\y=.str j/\Q (.bl (!(į j i 0 j.length 1).isEmpty)) H
theorem lX{m:Nat}(h:m<10^60):(m:Int).natAbs.log2<1920:=by
 rw[ó]
 by_cases a:m=0
 ·rw[a];decide
 ·have c:=Nat.log2_self_le a
  refine Nat.lt_of_not_le λb=>?_
  have d:2^1920<=2^m.log2:=Ĥ (by decide) b
  have f:(10:Nat)^60<=2^1920:=by
   have:(10:Nat)^60<=16^60:=Nat.pow_le_pow_left (by decide) 60
   have e:(16:Nat)^60=2^240:=by rw[show (16:Nat)=2^4 by decide,←Nat.pow_mul]
   have g:(2:Nat)^240<=2^1920:=Ĥ (by decide) (by decide)
   omega
  omega
theorem T5:ap ["row"] ["row"] (ag uq):=L2.F4
theorem zg(F:F0 K "words_of" "words_of" uq f fd):EW P w K mg μ aL 1 f fd ["row"] qk:=by
 refine F.ok T5 λ_ _ _ s H _ Q E c h=>?_
 obtain⟨x,rfl,a,b,q⟩:=h
 exact⟨_,ah (az (aZ plainAttrs_str Ju type_str_split gH (pv 0) (aa aD ac))),Λ,x,blank,Λ,Λ,Λ,ώ a (by decide),b,q⟩
theorem Z7:ap ["thing"] ["thing"] (ag nv):=L2.F4
theorem uC(F:F0 K "written" "written" nv f fd)(T:Txt mg):EW P w K mg μ aL 1 f fd ["thing"] kG:=by
 refine F.ok Z7 λ_ _ _ s H _ Q E b h=>?_
 obtain⟨v,rfl,a,q⟩:=h
 refine⟨_,ah (az (cI (ak kW (pv 0) bA (aq _)) aD (aS (Fz.or jt) Λ T.str PySem.Pv.boot_str (aa (pv 0) ac)))),Λ,_,Λ,?_⟩
 cases a with
 |Fp=>exact aI q
 |str x=>exact aH (.inr ⟨x,Λ,q⟩)
 |int i h=>exact aH (.inl ⟨i,Λ,h,q⟩)
theorem T6:ap ["word","number"] ["word"] (ag jO):=L2.F4
theorem Z8:FQ ["word","number"] (ag jO) (DS ((aJ jO).getD 0 (.Pass ⟨0,0,0,0⟩))) [] []:=L2.GR
theorem Z9:(["sign"]:List Str).Nodup:=by decide +kernel
theorem wO(F:F0 K "number_of" "number_of" jO f fd)(T:Txt mg)(I:mg "FIGURES"=Α (.str (υ "0123456789") t1))(J:mg "MOST_FIGURES"=Α (.int 60 t2)):EW P w K mg μ aL 1 f fd ["word"] gx:=by
 refine F.ok T6 λ_ _ _ s H _ Q E S h=>?_
 obtain⟨x,rfl,L,q⟩:=h
 refine⟨_,ad (aN (PW.pt (dQ (ak jW (aF kA Λ T.len PySem.boot_len (aa (pv 0) ac)) (dj (v:=.int 60) Λ J ⟨_,Λ⟩) (aq _)) (dQ (bV (iB (pv 0) (λ_=>rfl))) (dL (bV (b9 (aF (kB Λ) Λ T.all Ļ (aa (aV (own:=["sign"]) (capN:=[]) (cap:=[]) Z8 Λ (yU (pv 0))
    (λC u d U=>⟨aE (i:=0) Z9 Λ (ό Λ),bB,dq (wI) (pv 0) (dj (v:=.str (υ "0123456789")) Λ I ⟨_,Λ⟩) (by with_unfolding_all rfl)⟩)) ac)))))))) (ah (az bA)) aG)
  (ad (aA (i:=1) T6.nd Λ (ό Λ) (aS eX Λ T.int PySem.Pv.boot_int (aa (pv 0) ac)))
  (ah (az (cI (ak aQ (aS Fz Λ T.str PySem.Pv.boot_str (aa (pv 1) ac)) (pv 0) (aq _)) (pv 1) bA)))),?_⟩
 have l:x.length<=Τ:=ώ L (by decide)
 have a:=λh d u=>by
  have:=q d u
  rw[jY h]at this;exact this
 refine⟨x,Λ,l,_,_,Λ,Λ,_,Λ,?_⟩
 by_cases M:60<x.length
 ·rw[Ζ (show (60:Int)<(x.length:Nat) by omega)]
  refine aI (a (λm p e=>?_) H (EU.refl H))
  have:=dS (by decide) p
  rw[←e]at this
  omega
 rw[Η (show ¬(60:Int)<(x.length:Nat) by omega)]
 refine aH ⟨_,⟨l,Λ⟩,?_⟩
 by_cases A:x.length=0
 ·rw[show(((x.length:Nat):Int) != 0)=Ε by rw[A];rfl]
  refine aI (a (λm p e=>?_) H (EU.refl H))
  have:=Ħ.mpr (jX m)
  rw[Â,←e]at this
  have:0<x.length:=this
  omega
 rw[show(((x.length:Nat):Int) != 0)=Δ by rw[bne_iff_ne];omega]
 refine aH ⟨x,Λ,?_⟩
 refine b8 x.cps.size (by rw[Χ];show x.length<_;omega) (λi acc d=>d=H/\acc=((x.cps.toList.take i).map λc=>decide (c∈(υ "0123456789").cps.toList)).map V.bl) ⟨Λ,Λ⟩ (λi acc d h=>by rw[h.2,Μ,Μ];exact æ _ _) (λi acc d N h=>?_) (λacc d h=>?_)
 ·obtain⟨rfl,rfl⟩:=h
  refine⟨N,λv X y=>?_⟩
  obtain⟨rfl,c,g,rfl⟩:=y
  refine⟨_,_,Λ,Λ,?_⟩
  rw[Q1]
  refine⟨Λ,?_⟩
  rw[í,show x.cps.toList[i]?=Α c by rw[Ż];exact g,ϗ,ϗ]
  rfl
 obtain⟨rfl,rfl⟩:=h
 rw[show x.cps.size=x.cps.toList.length from Â.symm,Ó]
 refine⟨ϛ _,λD O=>⟨D,_,Λ,EX.of ET,_,Λ,?_⟩⟩
 have r:=(EU.refl d).new (o:=.π ((x.cps.toList.map λc=>decide (c∈(υ "0123456789").cps.toList)).map V.bl)) O
 generalize ο d D (.π ((x.cps.toList.map λc=>decide (c∈(υ "0123456789").cps.toList)).map V.bl))=B at r⊢
 cases j:(x.cps.toList.map λc=>decide (c∈(υ "0123456789").cps.toList)).all id with
 | false =>
  refine aI (a (λm p e=>?_) B r)
  rw[List.all_eq_false]at j
  obtain⟨b,j,h⟩:=j
  obtain⟨c,g,rfl⟩:=ϟ.mp j
  rw[e]at g
  exact h (Ζ (T4 c (cK m c g)))
 |true =>
 have G:=λc g=>by
  rw[Ā]at j
  exact CK c (of_decide_eq_true (j _ (ϟ.mpr ⟨c,g,Λ⟩)))
 have R:x.cps.toList≠[]:=λe=>A (by show x.cps.size=0;rw[←Â,e];rfl)
 have t:Ô x.cps.toList<10^60:=by
  have:=uW x.cps.toList 0 G
  refine Ϗ this ?_
  rw[Nat.zero_add,one_mul]
  exact Ĥ (by decide) (by rw[Â];show x.length<=60;omega)
 refine aH ⟨x,_,Λ,PySem.intText_digits G R (by omega),by omega,?_⟩
 have q:=q B r
 unfold eU at q
 generalize Ô x.cps.toList=m at t q⊢
 refine⟨(m:Int),Λ,lX t,Λ,_,Λ,?_⟩
 by_cases n:x=al m
 ·rw[Ι ⟨n,t⟩]at q
  rw[Ζ (by rw[n];rfl)]
  exact aI (q)
 ·rw[Θ λz=>n z.1]at q
  rw[Η (λz=>n (by injection z with z;exact z.symm))]
  exact aH q
theorem T7:ap ["things"] ["things"] (ag nA):=L2.F4
theorem ZA:FQ ["things"] (ag nA) (Z5 ((aJ nA).getD 0 (.Pass ⟨0,0,0,0⟩))) [] []:=L2.GR
theorem ZC:(["thing"]:List Str).Nodup:=by decide +kernel
theorem zj(F:F0 K "row_of" "row_of" nA f fd)(j:mg "written"=Α (.ref fw))(l:Ϩ K (.ref fw)=Δ)(m:Binds K dw ["thing"] [])(n:EW P w K mg μ aL 1 fw dw ["thing"] kG):EW P w K mg μ aL 2 f fd ["things"] (jG K):=by
 refine F.ok T7 λ_ _ _ s H _ Q E p h=>?_
 obtain⟨a,xs,rfl,b,e,B,c,q⟩:=h
 refine⟨_,ah (az (aZ plainAttrs_str slot_str_join type_str_join eV aD (aa (aV (own:=["thing"]) (capN:=[]) (cap:=[]) ZA Λ (CB (bu (pv 0)) (kS (pv 0)))
  (λC G g I=>⟨aE (i:=0) ZC Λ (ό Λ),bB,au n p Λ j l m .nil aw (aa (pv 0) ac)⟩)) ac))),?_⟩
 have fin:∀D,H D=Β->yL K (.str blank) [.ref D] (ο H D (.π (xs.map λv=>V.str (wT v)))) (λv g=>Q v g):=λD r=>by
  have t:=(EU.refl H).new (o:=.π (xs.map λv=>V.str (wT v))) r
  refine⟨blank,D,xs.map wT,Λ,Λ,EX.of (by rw[ET,Á];rfl),?_,q _ t⟩
  have u:=Ð _ λy z=>by obtain⟨v,A,rfl⟩:=ϟ.mp z;exact c v A
  rw[Μ]at u⊢
  show _+xs.length* 1<=_
  omega
 refine⟨Λ,?_⟩
 rcases b with b|b
 ·exact .inl ⟨a,Λ,⟨_,b⟩,rh (λv =>.str (wT v)) (by rw[Χ];omega) b (λx N d h=>⟨x,Λ,e x d,h⟩) fin⟩
 ·exact .inr ⟨a,Λ,⟨_,b⟩,rf (λv =>.str (wT v)) (by rw[Χ];omega) b (λx N d h=>⟨x,Λ,e x d,h⟩) fin⟩
noncomputable def bI(wy:cx->Nat)(p g:Nat)(c:Option Nat):List Str:=if (lg (wy (aR ⟨(p:Int),(g:Int),c,[]⟩))).isEmpty then [] else [Txt.join blank (([.str (υ "way"),.int p,.int g,cV c]++lg (wy (aR ⟨(p:Int),(g:Int),c,[]⟩))).map wT)]
noncomputable def uZ(ps:List (Int×Int))(p:Nat):List V:=[V.Fp]++oy Í ps p ps.length
def CN(wy:cx->Nat):Prop:=∀k,(lg (wy k)).length<=40/\∀v∈lg (wy k),Wd v/\(wT v).length<=10
def t8(i:Int):Prop:=Wd (.int i)/\(wT (.int i)).length<=10
inductive kH(c:Cs)(C:Ν)(J:TJ)(vs:List V)(H:Hp)(Q:VK)(E:XK):Prop
 |mk (x lx F1 lt:Ν) (n:Nat) (Fo:List V) (ps:List (Int×Int)) (wf:Wf) (wy:cx->Nat) (p g:Nat) (cs:List (Option Nat)) (_:vs=[.ref x,.int p,.int g]) (_:Hh c C J H x lx F1 lt n Fo ps wf) (_:(p<n/\g<n/\∀k∈cs,nV (wf p g k)=lg (wy (aR ⟨(p:Int),(g:Int),k,[]⟩)))) (_:CN wy) (_:t8 p) (_:t8 g) (_:uZ ps p=cs.map cV) (_:cs.length<=41) (_:(∀k,Α k∈cs->t8 k)) (_:∀(D:Ν)(H':Hp),EU H H'->H D=Β->H' D=Α (.π ((cs.flatMap (bI wy p g)).map V.str))->Q (.ref D) H')
abbrev NWr:List Str:=["table","place","goal","rows","came","ways"]
theorem sy{b c:Type}(f:b->c)(l:List b)(a:b):l.map f++[f a]=(l++[a]).map f:=by rw[ϗ];rfl
theorem Kz:ap NWr ["table","place","goal"] (ag n8):=L2.F4
theorem uE(F:F0 K "way_rows" "way_rows" n8 f fd)(T:Txt mg)(L:tI K c)(W:Wy K C fw dw J)(Gw:EW P w K mg μ aL 3 fw dw ["self","place","goal","came"] (iR J))
  (mi:ck K c.land "into" fi) (bi:Binds K di ["self","place"] []) (Gi:EW P w K mg μ aL 1 fi di ["self","place"] (wx c Í)) (mr:mg "row_of"=Α (.ref fr)) (kr:Ϩ K (.ref fr)=Δ) (br:Binds K dr ["things"] []) (Gr:EW P w K mg μ aL 2 fr dr ["things"] (jG K)):
  EW P w K mg μ aL 4 f fd ["table","place","goal"] (kH c C J):=by
 refine F.ok Kz λ_ _ _ s H _ Q E hr h=>?_
 obtain⟨x,lx,F1,lt,n,Fo,t,wf,y,p,g,d,rfl,hT,⟨hpn,hgn,OZ⟩,Iv,hp,hg,R,Jz,hck,q⟩:=h
 obtain⟨dx,fs,hx,hf,Zh⟩:=hT.i
 have hL:=hT.l
 have FJ:=hT.F3
 have FI:Fj 1 _:=hr.mono (by decide)
 have G6:Fj 2 _:=hr.mono (by decide)
 refine⟨_,ad (aA (i:=3) Kz.nd Λ (ό Λ) (aP ac))
  (ad (cF ç Λ (bu (ax bP (aP (aa bA ac)) (aM (ao (pv 0) Λ) L.cl mi Gi FI bi .nil aw (aa (pv 1) ac)))) (aE (i:=4) Kz.nd Λ (ό Λ))
   (ad (aA (i:=5) Kz.nd Λ (ό Λ) (aM (pv 0) W.cl W.m Gw hr W.b .nil aw (aa (pv 1) (aa (pv 2) (aa (pv 4) ac)))))
   (ah (aN (iB (pv 5) (λ_=>rfl)) (ah (aU (aZ plainAttrs_list PySem.F.slot_list_append PySem.F.type_list_append cy (pv 3) (aa (au Gr G6 Λ mr kr br .nil aw (aa (ax bP (aP (aa aD (aa (pv 1) (aa (pv 2) (aa (pv 4) ac))))) (pv 5)) ac)) ac)))) aG))))
  (ah (az (pv 3)))),?_⟩
 refine⟨Ä _,λD hD=>?_⟩
 have s0:=(EU.refl H).new (o:=.π []) hD
 have g0:(ο H D (.π [])) D=Α (.π []):=ET
 generalize ο H D (.π [])=H0 at s0 g0⊢
 refine⟨by show 1<=Τ;decide,λS NU=>?_⟩
 have M:=s0.new (o:=.π [.Fp]) NU
 have g1:(ο H0 S (.π [.Fp])) S=Α (.π [.Fp]):=ET
 have VX:(ο H0 S (.π [.Fp])) D=Α (.π []):=by rw[af (ai g0 NU)];exact g0
 generalize ο H0 S (.π [.Fp])=H1 at M g1 VX⊢
 have Mj:fX H1 c lx F1 lt n Fo t:=⟨M _ _ hL.1,M _ _ hL.2.1,F6.same M hL.2.2⟩
 refine⟨x,C,dx,fs,_,Λ,M _ _ hx,W.cl,W.nl,hf,lx,F1,_,Λ,Mj.1,Λ,lx,F1,lt,(n:Int),Fo,t,(p:Int),Λ,Mj,by omega,λH2 o2 s2 Hv=>?_⟩
 have N:=s2.new (o:=.π (oy Í t p t.length)) Hv
 have g2:(ο H2 o2 (.π (oy Í t p t.length))) o2=Α (.π (oy Í t p t.length)):=ET
 generalize ο H2 o2 (.π (oy Í t p t.length))=H3 at N g2⊢
 have hcl2:([V.Fp]++oy Í t p t.length).length<=41:=by
  have:[V.Fp]++oy Í t p t.length=d.map cV:=R
  rw[this,Μ];exact Jz
 refine⟨S,o2,_,_,Λ,Λ,N _ _ g1,g2,by rw[←Ξ,Χ];omega,λG Pa=>?_⟩
 rw[show [V.Fp]++oy Í t p t.length=d.map cV from R]
 have u3:=(M.trans N).new (o:=.π (d.map cV)) Pa
 have g3:(ο H3 G (.π (d.map cV))) G=Α (.π (d.map cV)):=ET
 have U:(ο H3 G (.π (d.map cV))) D=Α (.π []):=by rw[af (ai (N _ _ VX) Pa)];exact N _ _ VX
 have nCD:=ϧ (ai (N _ _ VX) Pa)
 generalize ο H3 G (.π (d.map cV))=H4 at u3 g3 U⊢
 refine⟨G,Λ,⟨_,EX.of g3⟩,?_⟩
 refine kq (K:=K) (a:=G) (xs:=d.map cV) (λi σ I=>∃a4 a5:Option V,EU H I/\I D=Α (.π (((d.take i).flatMap (bI y p g)).map V.str))/\I G=Α (.π (d.map cV))/\((d.take i).flatMap (bI y p g)).length<=i/\σ=[Α (.ref x),Α (.int p),Α (.int g),Α (.ref D),a4,a5])
  ⟨Β,Β,u3,U,g3,ϛ _,Λ⟩ (λi σ I _ Fc=>by obtain⟨_,_,_,_,g,_⟩:=Fc;exact EX.of g) ?_ ?_
 rotate_left
 ·rintro σ I ⟨a4,a5,O,g5,_,_,rfl⟩
  rw[Μ,Ó]at g5
  exact(q D I O hD g5)
 rintro i v σ I u ⟨a4,a5,O,ZD,X,NV,rfl⟩
 have hi:i<d.length:=by have:=(gQ0 u);rw[Μ]at this;exact this
 have VY:=Ψ hi
 rw[Ç,VY]at u
 cases u
 have KO:=ÿ hi
 have A:(d.take (i+1)).flatMap (bI y p g)=(d.take i).flatMap (bI y p g)++bI y p g d[i]:=by
  rw[í,VY,ĵ]
  show _++(bI y p g d[i]++[])=_
  rw[ķ]
 generalize d[i]=r at KO A
 refine⟨x,dx,fs,Λ,O _ _ hx,Zh,x,n,wf,p,g,r,Λ,W.Ho _ _ _ _ _ hT.j (EU.Fw O),hpn,hgn,λo6 H7 Y ho6 Z=>?_⟩
 rw[OZ r KO]at Z
 obtain⟨LD,Pb⟩:=Iv (aR ⟨(p:Int),(g:Int),r,[]⟩)
 have NW:bI y p g r=if (lg (y (aR ⟨(p:Int),(g:Int),r,[]⟩))).isEmpty then [] else [Txt.join blank (([.str (υ "way"),.int p,.int g,cV r]++lg (y (aR ⟨(p:Int),(g:Int),r,[]⟩))).map wT)]:=rfl
 rw[NW]at A
 generalize hme:lg (y (aR ⟨(p:Int),(g:Int),r,[]⟩))=B at Z LD Pb A
 refine⟨_,.inl ⟨_,EX.of Z,Λ⟩,?_⟩
 have s7:=O.trans Y
 cases hb:B.isEmpty with
 | true =>
  rw[hb,Ι Λ,ķ]at A
  exact aH ⟨_,_,s7,by rw[A];exact Y _ _ ZD,Y _ _ X,by rw[A];omega,Λ⟩
 | false =>
  rw[hb,Θ (by decide)]at A
  refine aI ⟨.inl ⟨Λ,_,EX.of (Y _ _ ZD)⟩,by show 4<=Τ;decide,λe8 he8=>?_⟩
  have u8:=Y.new (o:=.π [.str (υ "way"),.int (p:Int),.int (g:Int),cV r]) he8
  have g8:(ο H7 e8 (.π [.str (υ "way"),.int (p:Int),.int (g:Int),cV r])) e8=Α (.π [.str (υ "way"),.int (p:Int),.int (g:Int),cV r]):=ET
  have g8o:(ο H7 e8 (.π [.str (υ "way"),.int (p:Int),.int (g:Int),cV r])) o6=Α (.π B):=by rw[af (ai Z he8)];exact Z
  generalize ο H7 e8 (.π [.str (υ "way"),.int (p:Int),.int (g:Int),cV r])=H8 at u8 g8 g8o⊢
  refine⟨e8,o6,_,_,Λ,Λ,g8,g8o,by rw[Χ];show 4+B.length<=_;omega,λth hth=>?_⟩
  have u9:=u8.new (o:=.π ([.str (υ "way"),.int (p:Int),.int (g:Int),cV r]++B)) hth
  have g9:(ο H8 th (.π ([.str (υ "way"),.int (p:Int),.int (g:Int),cV r]++B))) th=Α (.π ([.str (υ "way"),.int (p:Int),.int (g:Int),cV r]++B)):=ET
  generalize ο H8 th (.π ([.str (υ "way"),.int (p:Int),.int (g:Int),cV r]++B))=H9 at u9 g9⊢
  have GH:∀v∈[V.str (υ "way"),.int (p:Int),.int (g:Int),cV r]++B,Wd v/\(wT v).length<=10:=λv u=>by
   rcases ϝ.mp u with u|u
   ·simp only[ύ,ϡ,or_false]at u
    rcases u with rfl|rfl|rfl|rfl
    ·exact⟨.str _,by decide⟩
    ·exact hp
    ·exact hg
    ·cases PR:r with
     |none=>exact⟨.Fp,by decide⟩
     |some k=>rw[PR]at KO;exact hck k KO
   ·exact Pb v u
  refine⟨th,_,Λ,.inl (EX.of g9),(λv u=>(GH v u).1),by rw[Ξ];show 4+B.length<=1000;omega,(λv u=>ώ (GH v u).2 (by decide)),λKo Kn=>?_⟩
  have ZE:=u9.trans Kn
  refine⟨D,_,_,Λ,Λ,ZE _ _ ZD,by rw[Μ,Χ];omega,_,_,(λb o e=>by rw[af (ai e hD)];exact ZE _ _ (O _ _ e)),?_,by rw[af nCD];exact ZE _ _ X,by rw[A,Ξ,ú];omega,Λ⟩
  rw[ET,A]
  exact congrArg (λz=>Α (HO.π z)) (sy V.str _ _)
noncomputable def dN(ps:List (Int×Int))(p:Nat):List (Option Nat):=Β:: ((Ϝ ps.length).filter λk=>decide (Í (ps.getD k (0,0))=(p:Int))).map Α
theorem Aw(a:List (Int×Int))(p:Nat):uZ a p=(dN a p).map cV:=by
 unfold uZ dN oy
 rw[ϳ,Á]
 rfl
theorem gP(a:List (Int×Int))(p:Nat):(dN a p).length<=a.length+1/\∀k,Α k∈dN a p->k<a.length:=by
 constructor
 ·unfold dN
  rw[Ϛ,Μ]
  have:=É (λk=>decide (Í (a.getD k (0,0))=(p:Int))) (Ϝ a.length)
  rw[ĝ]at this
  omega
 ·intro k b
  rcases ύ.mp b with h|h
  ·cases h
  ·obtain⟨j,c,e⟩:=ϟ.mp h
   cases e
   exact î.mp (Ì.mp c).1
theorem dP{k:Nat}(h:k<10^10):t8 k:=by
 refine⟨.int _ (lX (ø h (by decide))),?_⟩
 have:=dS (m:=k) (k:=10) (by decide) h
 exact this
noncomputable def dU(pr:Int×Int):Str:=Txt.join blank ([V.str (υ "lane"),.int pr.1,.int pr.2].map wT)
noncomputable def eZ(ps:List (Int×Int))(wy:cx->Nat)(n p m:Nat):List Str:=(Ϝ m).flatMap λg=>(dN ps p).flatMap (bI wy p g)
noncomputable def bD(n:Nat)(ps:List (Int×Int))(wy:cx->Nat):List Str:=[Txt.join blank ([V.str (υ "places"),.int n].map wT)]++ps.map dU++(Ϝ n).flatMap λp=>eZ ps wy n p n
def Ag(n:Nat)(ps:List (Int×Int))(wf:Wf)(wy:cx->Nat):Prop:=∀(p g:Nat)(k:Option Nat),p<n->g<n->k∈dN ps p->nV (wf p g k)=lg (wy (aR ⟨(p:Int),(g:Int),k,[]⟩))
inductive iS(c:Cs)(C:Ν)(J:TJ)(vs:List V)(H:Hp)(Q:VK)(E:XK):Prop
 |mk (x lx F1 lt:Ν) (n:Nat) (Fo:List V) (ps:List (Int×Int)) (wf:Wf) (wy:cx->Nat) (_:vs=[.ref x]) (_:Hh c C J H x lx F1 lt n Fo ps wf) (_:Ag n ps wf wy) (_:(∀pr∈ps,∃a b:Nat,pr=((a:Int),(b:Int))/\a<12/\b<12)) (_:CN wy) (_:∀(D:Ν)(H':Hp),EU H H'->H D=Β->H' D=Α (.π ((bD n ps wy).map V.str))->Q (.ref D) H')
abbrev NTr:List Str:=["table","land","rows","place","goal"]
theorem LJ:ap NTr ["table"] (ag i5):=L2.F4
noncomputable def ZF(s:Ã):Scope:=match s with
 |.Expr (.Call _ [.ListComp _ _ sc _] _ _) _=>sc
 |_=>zQ0
theorem ZG:FQ NTr (ag i5) (ZF ((aJ i5).getD 2 (.Pass ⟨0,0,0,0⟩))) [] []:=L2.GR
theorem ZH:(["pair"]:List Str).Nodup:=by decide +kernel
theorem uG(F:F0 K "table_rows" "table_rows" i5 f fd)(T:Txt mg)(L:tI K c)(W:Wy K C fw dw J)
  (mr:mg "row_of"=Α (.ref fr)) (kr:Ϩ K (.ref fr)=Δ) (br:Binds K dr ["things"] []) (Gr:EW P w K mg μ aL 2 fr dr ["things"] (jG K)) (mv:mg "way_rows"=Α (.ref fv)) (kv:Ϩ K (.ref fv)=Δ) (bv:Binds K dv ["table","place","goal"] []) (Gv:EW P w K mg μ aL 4 fv dv ["table","place","goal"] (kH c C J)):
  EW P w K mg μ aL 5 f fd ["table"] (iS c C J):=by
 refine F.ok LJ λ_ _ _ s H _ Q E hr h=>?_
 obtain⟨x,A,U,lt,n,Fo,d,wf,r,rfl,X,OZ,Hz,Iv,q⟩:=h
 obtain⟨dx,fs,hx,hf,_⟩:=X.i
 have t:=X.l
 have FJ:=X.F3
 have hn:=X.G0
 have G6:Fj 2 _:=hr.mono (by decide)
 refine⟨_,ad (aA (i:=1) LJ.nd Λ (ό Λ) (ao (pv 0) Λ))
  (ad (aA (i:=2) LJ.nd Λ (ό Λ) (aP (aa (au Gr G6 Λ mr kr br .nil aw (aa (bF (aa aD (aa (ao (pv 1) Λ) ac))) ac)) ac)))
  (ad (aU (aZ plainAttrs_list slot_list_extend type_list_extend eE (pv 2) (aa (aV (own:=["pair"]) (capN:=[]) (cap:=[]) ZG Λ (kS (ao (pv 1) Λ))
   (λC s' B fp=>⟨aE (i:=0) ZH Λ (ό Λ),bB,au Gr G6 Λ mr kr br .nil aw (aa (bF (aa aD (aa (ay (show oS _ (nM K) from aK) (pv 0) ae (λ_ _=>rfl)) (aa (ay (show oS _ (nM K) from aK) (pv 0) ae (λ_ _=>rfl)) ac)))) ac)⟩)) ac)))
  (ad (cF ç Λ (b6 Λ T.range (aa (ao (pv 1) Λ) ac)) (aE (i:=3) LJ.nd Λ (ό Λ))
   (ah (cF ç Λ (b6 Λ T.range (aa (ao (pv 1) Λ) ac)) (aE (i:=4) LJ.nd Λ (ό Λ))
    (ah (aU (aZ plainAttrs_list slot_list_extend type_list_extend eE (pv 2) (aa (au Gv hr Λ mv kv bv .nil aw (aa (pv 0) (aa (pv 3) (aa (pv 4) ac)))) ac)))))))
  (ah (az (pv 2)))))),?_⟩
 refine⟨x,C,dx,fs,_,Λ,hx,W.cl,W.nl,hf,A,c.land,U,_,_,Λ,t.1,L.cl,L.np,Λ,by show 2<=Τ;decide,λt1 Qi=>?_⟩
 have s1:=(EU.refl H).new (o:=.tup [.str (υ "places"),.int (n:Int)]) Qi
 have g1:(ο H t1 (.tup [.str (υ "places"),.int (n:Int)])) t1=Α (.tup [.str (υ "places"),.int (n:Int)]):=ET
 generalize ο H t1 (.tup [.str (υ "places"),.int (n:Int)])=H1 at s1 g1⊢
 have w1:∀v∈[V.str (υ "places"),.int (n:Int)],Wd v/\(wT v).length<=10:=λv m=>by
  simp only[ύ,ϡ,or_false]at m
  rcases m with rfl|rfl
  ·exact⟨.str _,by decide⟩
  ·exact dP (ß hn (by decide))
 refine⟨t1,_,Λ,.inr (Fn.of g1),(λv m=>(w1 v m).1),by show 2<=1000;decide,(λv m=>ώ (w1 v m).2 (by decide)),λz s2=>⟨by show 1<=Τ;decide,λD hD=>?_⟩⟩
 have T8:=s1.trans s2
 have M7:=T8.free hD
 have M:=T8.new (o:=.π [.str (Txt.join blank ([V.str (υ "places"),.int n].map wT))]) hD
 have g3:(ο z D (.π [.str (Txt.join blank ([V.str (υ "places"),.int n].map wT))])) D=Α (.π ([Txt.join blank ([V.str (υ "places"),.int n].map wT)].map V.str)):=ET
 generalize ο z D (.π [.str (Txt.join blank ([V.str (υ "places"),.int n].map wT))])=H3 at M g3⊢
 have Mf:=Paired.length t.2.2
 refine⟨.inl ⟨Λ,_,EX.of g3⟩,A,c.land,U,_,_,Λ,M _ _ t.1,L.cl,L.nl,Λ,lt,Λ,⟨_,Fn.of (M _ _ t.2.1)⟩,?_⟩
 refine b8 d.length (by rw[Χ];omega) (λi acc B=>EU H3 B/\acc=((d.take i).map dU).map V.str) ⟨EU.refl _,Λ⟩ (λi acc B h=>by rw[h.2,Μ,Μ];exact æ _ _) (λi acc B N h=>?_) (λacc B h=>?_)
 ·obtain⟨Y,rfl⟩:=h
  have T9:=Ψ N
  have IH:=M.trans Y
  obtain⟨v,m,u,rfl,gu⟩:=F6.O9 (F6.same IH t.2.2) T9
  refine⟨⟨_,_,Fn.of (IH _ _ t.2.1),m⟩,λv' O y=>?_⟩
  obtain⟨rfl,y⟩:=y
  have HS:=y _ (Fn.of (IH _ _ t.2.1))
  rw[m]at HS
  cases HS
  obtain⟨a,b,Z,ha,hb⟩:=Hz _ (ÿ N)
  have HC:d.take (i+1)=d.take i++[d[i]]:=by rw[í,T9];rfl
  generalize d[i]=pr at Z gu HC
  subst Z
  refine⟨u,_,0,_,Λ,Λ,Fn.of gu,aj (j:=0) Λ,u,_,1,_,Λ,Λ,Fn.of gu,aj (j:=1) Λ,by show 3<=Τ;decide,λt6 ht6=>?_⟩
  have R:=(EU.refl O).new (o:=.tup [.str (υ "lane"),.int (a:Int),.int (b:Int)]) ht6
  have g6:(ο O t6 (.tup [.str (υ "lane"),.int (a:Int),.int (b:Int)])) t6=Α (.tup [.str (υ "lane"),.int (a:Int),.int (b:Int)]):=ET
  have w6:∀v∈[V.str (υ "lane"),.int (a:Int),.int (b:Int)],Wd v/\(wT v).length<=10:=λv m=>by
   simp only[ύ,ϡ,or_false]at m
   rcases m with rfl|rfl|rfl
   ·exact⟨.str _,by decide⟩
   ·exact dP (ø ha (by decide))
   ·exact dP (ø hb (by decide))
  refine⟨t6,_,Λ,.inr (Fn.of g6),(λv m=>(w6 v m).1),by show 3<=1000;decide,(λv m=>ώ (w6 v m).2 (by decide)),λH7 S=>⟨Y.trans (R.trans S),?_⟩⟩
  rw[HC,ϗ]
  exact sy V.str _ _
 obtain⟨Y,rfl⟩:=h
 rw[Ó]
 refine⟨⟨_,Fn.of ((M.trans Y) _ _ t.2.1),by omega⟩,λD2 Hd=>?_⟩
 have s5:=Y.new (o:=.π ((d.map dU).map V.str)) Hd
 have g5:(ο B D2 (.π ((d.map dU).map V.str))) D2=Α (.π ((d.map dU).map V.str)):=ET
 generalize ο B D2 (.π ((d.map dU).map V.str))=O at s5 g5⊢
 refine⟨D,D2,_,_,Λ,Λ,s5 _ _ g3,g5,by rw[Μ,Μ,Μ,Χ];show 1+d.length<=_;omega,?_⟩
 rw[←ϗ]
 have R:EU H (ο O D (.π (([Txt.join blank ([V.str (υ "places"),.int n].map wT)]++d.map dU).map V.str))):=λb o e=>by rw[af (ai e M7)];exact s5 _ _ (M _ _ e)
 have g6:(ο O D (.π (([Txt.join blank ([V.str (υ "places"),.int n].map wT)]++d.map dU).map V.str))) D=Α (.π (([Txt.join blank ([V.str (υ "places"),.int n].map wT)]++d.map dU).map V.str)):=ET
 have l6:([Txt.join blank ([V.str (υ "places"),.int n].map wT)]++d.map dU).length<=41:=by rw[Ξ,Μ];show 1+d.length<=41;omega
 unfold bD at q
 generalize [Txt.join blank ([V.str (υ "places"),.int n].map wT)]++d.map dU=hd at R g6 l6 q
 generalize ο O D (.π (hd.map V.str))=H6 at R g6⊢
 have JN:∀p g cc,(bI r p g cc).length<=1:=λp g cc=>by unfold bI;split<;>simp
 have Yu:∀p g,((dN d p).flatMap (bI r p g)).length<=41:=λp g=>by
  have:∀l:List (Option Nat),(l.flatMap (bI r p g)).length<=l.length:=λl=>by
   induction l with
   |nil=>exact ϛ _
   |cons a l ih=>rw[ţ,Ξ,Ϛ];have:=JN p g a;omega
  have h1:=this (dN d p)
  have h2:=(gP d p).1
  omega
 refine⟨A,c.land,U,_,_,Λ,R _ _ t.1,L.cl,L.np,Λ,(n:Int),Λ,by omega,by omega,?_⟩
 rw[Ϙ]
 refine cz (n:=n) (λi G z=>∃a3 I:Option V,EU H z/\z D=Α (.π ((hd++(Ϝ i).flatMap λp=>eZ d r n p n).map V.str))/\(hd++(Ϝ i).flatMap λp=>eZ d r n p n).length<=41+i* (12* 41)/\G=[Α (.ref x),Α (.ref A),Α (.ref D),a3,I])
  ⟨Β,Β,R,by simpa using g6,by simpa using l6,Λ⟩ ?_ ?_
 rotate_left
 ·rintro G H7 ⟨a3,I,S,g7,_,rfl⟩
  exact(q D H7 S M7 g7)
 rintro i G H7 N ⟨a3,I,S,g7,l7,rfl⟩
 rw[ł]
 refine⟨A,c.land,U,_,_,Λ,S _ _ t.1,L.cl,L.np,Λ,(n:Int),Λ,by omega,by omega,?_⟩
 rw[Ϙ]
 refine cz (n:=n) (λj G z=>∃I:Option V,EU H z/\z D=Α (.π (((hd++(Ϝ i).flatMap λp=>eZ d r n p n)++eZ d r n i j).map V.str))/\((hd++(Ϝ i).flatMap λp=>eZ d r n p n)++eZ d r n i j).length<=41+i* (12* 41)+j* 41/\G=[Α (.ref x),Α (.ref A),Α (.ref D),Α (.int (i:Int)),I])
  ⟨_,S,by simpa [eZ] using g7,by simpa [eZ] using l7,Λ⟩ ?_ ?_
 rotate_left
 ·rintro G H8 ⟨I,s8,g8,l8,rfl⟩
  refine⟨_,_,s8,?_,?_,Λ⟩
  ·rw[Œ,ĵ,←Ù]
   simpa using g8
  ·rw[Œ,ĵ,←Ù]
   simp only[ţ,List.flatMap_nil,ķ]
   omega
 rintro j G H8 hj ⟨I,s8,g8,l8,rfl⟩
 rw[ł]
 have hbd:41+i* (12* 41)+j* 41<=41+12* (12* 41)+12* 41:=by
  have:=c4 (12* 41) (show i<=12 by omega)
  omega
 refine⟨.inl ⟨Λ,_,EX.of g8⟩,x,A,U,lt,n,Fo,d,wf,r,i,j,dN d i,Λ,Hh.keep W X (EU.Fw s8),⟨N,hj,λk hk=>OZ i j k N hj hk⟩,Iv,dP (Ϗ N (ώ hn (by decide))),dP (Ϗ hj (ώ hn (by decide))),Aw d i,by have:=(gP d i).1;omega,(λk hk=>dP (Ϗ ((gP d i).2 k hk) (ώ FJ (by decide)))),λD9 H9 s9 hD9 g9=>?_⟩
 have h41:=Yu i j
 refine⟨D,D9,_,_,Λ,Λ,s9 _ _ g8,g9,by rw[Μ,Μ,Χ];omega,?_⟩
 have er:eZ d r n i (j+1)=eZ d r n i j++(dN d i).flatMap (bI r i j):=by unfold eZ;rw[Œ,ĵ];simp
 refine⟨_,(λb o e=>by rw[af (ai e M7)];exact s9 _ _ (s8 _ _ e)),?_,?_,Λ⟩
 ·rw[ET,er,←Ù,ϗ (l₂:=(dN d i).flatMap (bI r i j))]
 ·rw[er,←Ù,Ξ]
  omega
noncomputable def newline:Str:=⟨#[10]⟩
theorem jd{c d:Type}{f:c->List d}:∀{l:List c},(∀a∈l,(f a).length<=B)->(l.flatMap f).length<=l.length* B
 |[],_=>Ä _
 | a:: l,h=>by
  rw[ţ,Ξ,Ϛ,Nat.add_mul,one_mul]
  have g:=h a ϙ
  have i:=jd (l:=l) λb e=>h b (ϊ _ e)
  omega
theorem ow{xs:List V}(h:∀v∈xs,(wT v).length<=10)(f:xs.length<=B):(Txt.join blank (xs.map wT)).length<=B* 11:=by
 have e:Txt.join blank (xs.map wT)=ĭ blank (xs.map wT):=à _ _
 rw[e]
 have a:=ñ blank (xs.map wT)
 have b:=Ð _ λy c=>by obtain⟨v,d,rfl⟩:=ϟ.mp c;exact h v d
 rw[Μ]at a b
 have g:xs.length* blank.length=xs.length:=Ţ _
 omega
theorem AR(d:CN wy){p g:Nat}{c:Option Nat}(e:t8 p)(f:t8 g)(h:∀k,c=Α k->t8 k):∀r∈bI wy p g c,r.length<=500:=λr b=>by
 unfold bI at b
 split at b
 ·cases b
 ·rw[ϋ.mp b]
  obtain⟨l,i⟩:=d (aR ⟨(p:Int),(g:Int),c,[]⟩)
  refine ώ (ow (B:=44) (λv a=>?_) (by rw[Ξ];show 4+_<=44;omega)) (by decide)
  rcases ϝ.mp a with a|a
  ·simp only[ύ,ϡ,or_false]at a
   rcases a with rfl|rfl|rfl|rfl
   ·show(υ "way").length<=10;decide
   ·exact e.2
   ·exact f.2
   ·cases j:c with
    |none=>show(υ "-").length<=10;decide
    |some k=>exact(h k j).2
  ·exact(i v a).2
theorem nH(m:n<=12)(G:ps.length<=40)(u:∀o∈ps,∃a b:Nat,o=((a:Int),(b:Int))/\a<12/\b<12)(x:CN wy):(bD n ps wy).length<=6000/\∀r∈bD n ps wy,r.length<=500:=by
 have i:∀{k:Nat},k<100->t8 k:=λh=>dP (ø h (by decide))
 have y:∀p g q,(bI wy p g q).length<=1:=λp g q=>by unfold bI;split<;>simp
 have z:∀p g,((dN ps p).flatMap (bI wy p g)).length<=41:=λp g=>by
  have:=jd (l:=dN ps p) λa _=>y p g a
  have:=(gP ps p).1
  omega
 have A:=λp=>by
  have:=jd (l:=Ϝ n) (f:=λg=>(dN ps p).flatMap (bI wy p g)) λg _=>z p g
  rw[ĝ]at this
  exact ώ this (c4 41 m)
 have H:((Ϝ n).flatMap λp=>eZ ps wy n p n).length<=12* (12* 41):=by
  have:=jd (l:=Ϝ n) (f:=λp=>eZ ps wy n p n) λp _=>A p
  rw[ĝ]at this
  exact ώ this (c4 _ m)
 constructor
 ·unfold bD
  rw[Ξ,Ξ,Μ]
  show 1+ps.length+_<=_
  omega
 ·intro r d
  unfold bD at d
  rcases ϝ.mp d with d|d
  ·rcases ϝ.mp d with d|d
   ·rw[ϋ.mp d]
    refine ώ (ow (B:=2) (λv j=>?_) (ϛ _)) (by decide)
    simp only[ύ,ϡ,or_false]at j
    rcases j with rfl|rfl
    ·show(υ "places").length<=10;decide
    ·exact(i (ß m (by decide))).2
   ·obtain⟨o,C,rfl⟩:=ϟ.mp d
    obtain⟨a,b,rfl,D,E⟩:=u o C
    refine ώ (ow (B:=3) (λv j=>?_) (ϛ _)) (by decide)
    simp only[ύ,ϡ,or_false]at j
    rcases j with rfl|rfl|rfl
    ·show(υ "lane").length<=10;decide
    ·exact(i (ø D (by decide))).2
    ·exact(i (ø E (by decide))).2
  ·obtain⟨p,s,d⟩:=þ.mp d
   obtain⟨g,t,d⟩:=þ.mp d
   obtain⟨c,F,d⟩:=þ.mp d
   have s:=î.mp s
   have t:=î.mp t
   exact AR x (i (by omega)) (i (by omega)) (λk e=>i (by subst e;have:=(gP ps p).2 k F;omega)) r d
def VZ(H:Hp)(v:V)(ws:List Str):Prop:=∃a,v=.ref a/\H a=Α (.π (ws.map V.str))
abbrev FH(H:Hp):List V->List (List Str)->Prop:=Paired (VZ H)
theorem FH.same(s:EU H H'):∀{b:List V}{ws:List (List Str)},FH H b ws->FH H' b ws:=λc=>by
 induction c with
 |nil=>exact .nil
 |cons d r f=>obtain⟨a,e,h⟩:=d;exact .cons ⟨a,e,s _ _ h⟩ f
theorem FH.snoc(h:VZ H v x):∀{b:List V}{ws:List (List Str)},FH H b ws->FH H (b++[v]) (ws++[x]):=λc=>by
 induction c with
 |nil=>exact .cons h .nil
 |cons a r d=>exact .cons a d
theorem FH.get:∀{b:List V}{ws:List (List Str)}{i:Nat}{x:List Str},FH H b ws->ws[i]?=Α x->∃v,b[i]?=Α v/\VZ H v x
 |_,_,_,_,.nil,h=>by cases h
 |_,_,0,_,.cons a r,h=>by cases h;exact⟨_,Λ,a⟩
 |_,_,i+1,_,.cons a r,h=>let ⟨v,e,z⟩:=FH.get (i:=i) r (by simpa using h);⟨v,by simpa using e,z⟩
inductive mZ(K:Ϣ)(x:Xc)(vs:List V)(H:Hp)(Q:VK)(E:XK):Prop
 |mk (t:Str) (_:vs=[.str t]) (_:t.length<=4000000) (_:(Txt.split t newline).length<=1000000) (_:∀r∈Txt.split t newline,r.length<=1000000/\(Txt.split r blank).length<=1000000) (_:∀(D:Ν)(us:List V)(H':Hp),EU H H'->H' D=Α (.π us)->FH H' us ((Txt.split t newline).map λr=>Txt.split r blank)->Q (.ref D) H')
 |no (v:V) (t:Ο) (_:vs=[v]) (_:jl K H v t) (_:ü K t (.type "str")=Α Ε) (_:∀H',EU H H'->E (.ref x.tx) Β H')
noncomputable def fP(p g:Nat)(c:Option Nat)(ms:List Nat):List Str:=[al p,al g,wT (cV c)]++ms.map al
noncomputable def cO(x:Str):Option Nat:=if V.str x=V.str (υ "-") then Β else eU x
noncomputable def Wa(x y z:Str)(ms:List Str):Ro:=⟨eU x,eU y,cO z,ms.map eU⟩
inductive kM(vs:List V)(H:Hp)(Q:VK)(E:XK):Prop
 |mk (a:Ν) (x y z:Str) (ms:List Str) (_:vs=[.ref a]) (_:H a=Α (.π ((x:: y:: z:: ms).map V.str))) (_:∀u∈x:: y:: z:: ms,u.length<=1000000) (_:ms.length<=1000) (_:∀(t l:Ν)(H':Hp),EU H H'->OB H' t l (Wa x y z ms)->Q (.ref t) H')
theorem nY(k:Nat):decide (V.str (al k)=V.str (υ "-"))=Ε:=by
 refine Η λz=>?_
 have e:=V.str.inj z
 exact qP (m:=k) (c:=45) (by decide) (by rw[e];decide)
noncomputable def AU(s:Ã):Scope:=match s with
 |.Return (Α (.Tuple [_,_,_,.ListComp _ _ sc _] _ _)) _=>sc
 |_=>du
theorem k9(k:Nat)(xs a:List V)(h:xs.length=k):dH (xs++a) (Α (k:Int)) Β=a:=by
 have b:HT.HK (xs++a).length 0 (Α (k:Int))=k:=by
  unfold HT.HK
  rw[Ξ]
  simp only
  split<;>omega
 have c:HT.HK (xs++a).length (xs++a).length Β=(xs++a).length:=rfl
 unfold dH
 rw[b,c,←h,List.drop_left,Ξ]
 exact Ź (by omega)
theorem ij{o:Type}{F:Str->o}{R:o->V}{b:List Str}(B:b.length<=1000)(m:H a=Α (.π (b.map V.str)))
  (q:∀(i:Nat)(u:Str)(c:Hp)(N:V->Hp->Prop),b[i]?=Α u->EU H c->(∀f,EU c f->N (R (F u)) f)->g (.str u) σ0 c λn f=>te n f N)
  (r:∀l c,EU H c->c l=Β->Q (.ref l) (ο c l (.π ((b.map F).map R)))):ge (AF K a) g tU te σ0 Q H:=by
 refine b8 b.length (by rw[Χ];omega) (λi acc e=>EU H e/\acc=((b.take i).map F).map R) ⟨EU.refl _,Λ⟩ (λi acc e h=>by rw[h.2,Μ,Μ];exact æ _ _) (λi acc e s h=>?_) (λacc e h=>?_)
 ·obtain⟨d,rfl⟩:=h
  have j:=Ψ s
  refine⟨⟨_,V.str b[i],EX.of (d _ _ m),by rw[Ç,j];rfl⟩,λv t y=>?_⟩
  obtain⟨rfl,y⟩:=y
  have p:=y _ (EX.of (d _ _ m))
  rw[Ç,j]at p
  cases p
  refine q i _ t (λy x=>EU H x/\((b.take i).map F).map R++[y]=((b.take (i+1)).map F).map R) j d λC z=>⟨d.trans z,?_⟩
  rw[í,j,ϗ,ϗ]
  rfl
 ·obtain⟨d,rfl⟩:=h
  rw[Ó]
  exact⟨⟨_,EX.of (d _ _ m),by rw[Μ];exact ϛ _⟩,λl A=>r l e d A⟩
theorem ZI:ap ["text"] ["text"] (ag jM):=L2.F4
theorem ZJ:FQ ["text"] (ag jM) (Bj ((aJ jM).getD 1 (.Pass ⟨0,0,0,0⟩))) [] []:=L2.GR
theorem ZK:(["row"]:List Str).Nodup:=by decide +kernel
theorem wN(X:tJ K mg x.yc "NoText" x.tx)(F:F0 K "rows_of" "rows_of" jM f fd)(T:Txt mg)(l:ü K (.type "str") (.type "str")=Α Δ)(B:mg "words_of"=Α (.ref fw))(G:Ϩ K (.ref fw)=Δ)(I:Binds K dw ["row"] [])(J:EW P w K mg μ aL 1 fw dw ["row"] qk):EW P w K mg μ (ix P w) 2 f fd ["text"] (mZ K x):=by
 refine F.KD ZI (λ_ _ _ _ h=>?_) (λ_ _ _ s H _ Q E L h=>?_)
 ·rcases h with ⟨x,rfl,_⟩|⟨x,t,rfl,_⟩<;>rfl
 ·refine⟨_,ad (aN (bV (b9 (aF iN Λ T.O8 ä (aa (pv 0) (aa (jU (v:=.ty "str") Λ T.str PySem.Pv.boot_str Λ) ac))))) (ah (cu Λ X.x Fg (dF X.x X.k Λ Λ X.m (aa aD ac)))) aG)
   (ah (az (aV (own:=["row"]) (capN:=[]) (cap:=[]) ZJ Λ (bu (aZ plainAttrs_str Ju type_str_split gH (pv 0) (aa aD ac)))
    (λC s' a fp=>⟨aE (i:=0) ZK Λ (ό Λ),bB,au J L Λ B G I .nil aw (aa (pv 0) ac)⟩)))),?_⟩
  rcases h with ⟨x,rfl,M,N,O,q⟩|⟨v,ty,rfl,R,S,q⟩
  rotate_left
  ·exact⟨_,_,_,_,Λ,R,S,_,Λ,aI ⟨by show 1<=Τ;decide,q _ (EU.refl H)⟩⟩
  refine⟨_,_,_,_,Λ,.str _,l,_,Λ,aH ?_⟩
  refine⟨Λ,x,newline,Λ,Λ,Λ,M,N,λD U=>?_⟩
  have u:=(EU.refl H).new (o:=.π ((Txt.split x newline).map V.str)) U
  have c:(ο H D (.π ((Txt.split x newline).map V.str))) D=Α (.π ((Txt.split x newline).map V.str)):=ET
  refine⟨D,Λ,⟨_,EX.of c⟩,?_⟩
  dsimp only
  generalize ο H D (.π ((Txt.split x newline).map V.str))=Y at u c⊢
  generalize Txt.split x newline=d at*
  refine b8 d.length (by rw[Χ];omega) (λi acc a=>EU Y a/\FH a acc ((d.take i).map λr=>Txt.split r blank)) ⟨EU.refl _,.nil⟩ (λi acc a h=>by rw[Paired.length h.2,Μ];exact æ _ _) (λi acc a z h=>?_) (λacc a h=>?_)
  ·obtain⟨b,e⟩:=h
   have n:=Ψ z
   refine⟨⟨_,V.str d[i],EX.of (b _ _ c),by rw[Ç,n];rfl⟩,λv Z y=>?_⟩
   obtain⟨rfl,y⟩:=y
   have A:=y _ (EX.of (b _ _ c))
   rw[Ç,n]at A
   cases A
   obtain⟨h4,h5⟩:=O _ (ÿ z)
   refine⟨_,Λ,h4,h5,λp g=>?_⟩
   have j:=(EU.refl Z).new (o:=.π ((Txt.split d[i] blank).map V.str)) g
   refine⟨b.trans j,?_⟩
   rw[í,n,ϗ]
   exact FH.snoc ⟨p,Λ,ET⟩ (FH.same j e)
  ·obtain⟨b,e⟩:=h
   rw[Ó]at e
   refine⟨⟨_,EX.of (b _ _ c),by rw[Μ];exact ϛ _⟩,λp g=>?_⟩
   have j:=b.new (o:=.π acc) g
   exact q p acc _ (u.trans j) ET (FH.same ((EU.refl a).new g) e)
theorem TB:ap ["words","came"] ["words"] (ag i6):=L2.F4
theorem ZL:FQ ["words","came"] (ag i6) (AU ((aJ i6).getD 1 (.Pass ⟨0,0,0,0⟩))) [] []:=L2.GR
theorem ZM:(["word"]:List Str).Nodup:=by decide +kernel
theorem uI(F:F0 K "read_way" "read_way" i6 f fd)(g:mg "number_of"=Α (.ref fn))(m:Ϩ K (.ref fn)=Δ)(n:Binds K dn ["word"] [])(p:EW P w K mg μ aL 1 fn dn ["word"] gx):EW P w K mg μ aL 2 f fd ["words"] kM:=by
 refine F.ok TB λ_ _ _ s H _ Q E r h=>?_
 obtain⟨a,x,y,z,b,rfl,d,A,LD,q⟩:=h
 refine⟨_,ad (aA (i:=1) TB.nd Λ (ό Λ) (iY (cI (ak aQ (ay aB (pv 0) ae (λ_ _=>rfl)) aD (aq _)) bA (au p r Λ g m n .nil aw (aa (ay aB (pv 0) ae (λ_ _=>rfl)) ac)))))
  (ah (az (bF (aa (au p r Λ g m n .nil aw (aa (ay aB (pv 0) ae (λ_ _=>rfl)) ac)) (aa (au p r Λ g m n .nil aw (aa (ay aB (pv 0) ae (λ_ _=>rfl)) ac)) (aa (pv 1)
   (aa (aV (own:=["word"]) (capN:=[]) (cap:=[]) ZL Λ (bu (aX bJ (pv 0) (bz ae) bC))
    (λC O L fp=>⟨aE (i:=0) ZM Λ (ό Λ),bB,au p r Λ g m n .nil aw (aa (pv 0) ac)⟩)) ac))))))),?_⟩
 have c:∀(j:Nat)(v:Str),(x:: y:: z:: b)[j]?=Α v->rq ((x:: y:: z:: b).map V.str) (j:Int)=Α (.str v):=λj v e=>aj (by rw[Ç,e];rfl)
 refine⟨λv L=>EU H L/\v=oV (cO z),?_,λv H1 ⟨S,e⟩=>?_⟩
 ·refine⟨a,_,2,_,Λ,Λ,EX.of d,c 2 _ Λ,Λ,_,Λ,?_⟩
  unfold cO
  by_cases B:V.str z=V.str (υ "-")
  ·rw[Ζ B,Ι B]
   exact aI ⟨EU.refl H,Λ⟩
  ·rw[Η B,Θ B]
   exact aH ⟨a,_,2,_,Λ,Λ,EX.of d,c 2 _ Λ,z,Λ,A z (by simp),λL O=>⟨O,Λ⟩⟩
 subst e
 refine⟨a,_,0,_,Λ,Λ,EX.of (S _ _ d),c 0 _ Λ,x,Λ,A x (by simp),λH2 G=>?_⟩
 have G:=S.trans G
 refine⟨a,_,1,_,Λ,Λ,EX.of (G _ _ d),c 1 _ Λ,y,Λ,A y (by simp),λT I=>?_⟩
 have I:=G.trans I
 refine⟨3,Λ,a,_,Λ,EX.of (I _ _ d),λD hD=>?_⟩
 have ec:dH ((x:: y:: z:: b).map V.str) (Α 3) Β=b.map V.str:=k9 3 [V.str x,V.str y,V.str z] (b.map V.str) Λ
 rw[ec]
 have U:=I.new (o:=.π (b.map V.str)) hD
 have M:(ο T D (.π (b.map V.str))) D=Α (.π (b.map V.str)):=ET
 refine⟨D,Λ,⟨_,EX.of M⟩,?_⟩
 dsimp only
 generalize ο T D (.π (b.map V.str))=H4 at U M⊢
 refine ij (K:=K) (F:=eU) (R:=oV) LD M (λi u H5 N hu s5 hN=>?_) λl X s6 hl=>?_
 ·exact⟨u,Λ,A u (by simp[Ϫ hu]),λY J=>hN _ J⟩
 have J:=(U.trans s6).new (o:=.π ((b.map eU).map oV)) hl
 have Z:(ο X l (.π ((b.map eU).map oV))) l=Α (.π ((b.map eU).map oV)):=ET
 generalize ο X l (.π ((b.map eU).map oV))=Y at J Z⊢
 refine⟨by show 4<=Τ;decide,λt ht=>?_⟩
 have s8:=(EU.refl Y).new (o:=.tup [oV (eU x),oV (eU y),oV (cO z),.ref l]) ht
 exact q t l _ (J.trans s8) ⟨ET,s8 _ _ Z⟩
structure xB(n:Nat)(ps:List (Int×Int))(rs:List Rw):Prop where
 nd:(rs.map jj).Nodup
 key:∀r∈rs,∃p g:Nat,p<n/\g<n/\g≠p/\r.p=p/\r.g=g/\r.c∈bR ps p
 γ:∀r∈rs,∀k∈r.s,k∈gK Ø ps r.p
theorem sJ(h:xB n ps rs):dW n ps rs rs.length=Β:=by
 refine jr λk b=>?_
 have o:=Ψ b
 have q:rs.getD k ⟨0,0,Β,[]⟩=rs[k]:=by rw[Ò,o];rfl
 rw[q,iO]
 have i:=ÿ b
 obtain⟨p,g,E,F,r,l,t,m⟩:=h.key _ i
 have u:j5 n ps rs[k]=Δ:=by
  unfold j5
  have v:gQ n (rs[k].p,rs[k].g)=Δ:=by
   unfold gQ
   simp only[ϫ,decide_eq_true_eq,ă,decide_eq_false_iff_not]
   rw[l,t]
   refine⟨⟨by omega,by omega⟩,⟨by omega,by omega⟩,by omega⟩
  rw[v,Ý]
  have x:(rs[k].s.all λz=>decide (z∈gK Ø ps rs[k].p))=Δ:=by
   rw[Ā]
   exact λz d=>Ζ (h.γ _ i z d)
  rw[x,Bool.and_true]
  cases y:rs[k].c with
  |none=>rfl
  | some z =>
   rw[y]at m
   rcases ύ.mp m with e|e
   ·cases e
   ·obtain⟨G,d,e⟩:=ϟ.mp e
    cases e
    rw[l]
    exact Ζ d
 rw[u]
 have A:((rs.take k).any λa=>decide (aR a=aR rs[k]))=Ε:=by
  rw[JY]
  intro a B C
  have e:=zT (of_decide_eq_true C)
  obtain⟨j,H,D⟩:=MO.mp B
  have f:j<k:=by omega
  have:=Ŝ.mp h.nd j k (by rw[Μ];omega) (by rw[Μ];exact b) f
  rw[ņ,ņ,D]at this
  exact this e
 rw[A];rfl
theorem oA{n:Nat}(h:dW n ps rs rs.length=Β)(u:∀r∈rs,0<=r.p/\0<=r.g):xB n ps rs:=by
 have b:∀k (d:k<rs.length),j5 n ps rs[k]=Δ/\((rs.take k).any λa=>decide (aR a=aR rs[k]))=Ε:=λk d=>by
  have o:=iK h d
  rw[show rs.getD k ⟨0,0,Β,[]⟩=rs[k] by rw[Ò,Ψ d];rfl,iO,Bool.or_eq_false_iff,Bool.not_eq_false']at o
  exact o
 have m:∀r∈rs,j5 n ps r=Δ:=λr l=>by
  obtain⟨k,d,rfl⟩:=List.mem_iff_getElem.mp l
  exact(b k d).1
 refine⟨?_,λr l=>?_,λr l k d=>?_⟩
 ·refine Ŝ.mpr λi j v s x e=>?_
  rw[Μ]at v s
  rw[ņ,ņ]at e
  have q:=(b j s).2
  rw[JY]at q
  refine q rs[i] (MO.mpr ⟨i,by omega,Λ⟩) (Ζ ?_)
  rw[←sh,←sh,e]
 ·have f:=m r l
  obtain⟨y,A⟩:=u r l
  unfold j5 gQ at f
  simp only[ϫ,decide_eq_true_eq,ă,decide_eq_false_iff_not]at f
  obtain⟨⟨⟨o,q⟩,⟨B,C⟩,D⟩,t,_⟩:=f
  refine⟨r.p.toNat,r.g.toNat,by omega,by omega,by omega,by omega,by omega,?_⟩
  unfold bR
  rw[å y]
  cases z:r.c with
  |none=>exact ϙ
  | some k =>
   rw[z]at t
   exact ϊ _ (ϟ.mpr ⟨k,of_decide_eq_true t,Λ⟩)
 ·have f:=m r l
  unfold j5 at f
  rw[ϫ,ϫ,Ā]at f
  exact of_decide_eq_true (f.2.2 k d)
theorem Ii:z∈wl (av rs) key↔∃r,dG rs key=Α r/\z∈r.s:=by
 unfold wl
 rw[Yd.Il (Yd.IW _)]
 unfold av
 cases dG rs key with
 |none=>simp
 | some r =>
  dsimp only
  rw[Yd.Gz,Nat.zero_testBit,Oq,decide_eq_true_eq]
  simp
theorem kc(h:dG rs key=Α r):aR r=key:=by
 unfold dG at h
 have:=List.find?_some h
 exact of_decide_eq_true this
theorem yJ{l:List Nat}(h:l.Pairwise (· < ·))(a:∀z∈l,z<L):l.length<=L:=oa _ _ (h.imp λh=>Þ h) a
structure TabOk(n:Nat)(ps:List (Int×Int))(wy:cx->Nat):Prop where
 zero:∀(p:Nat)(c:Option Nat),wl wy (bO ((p:Int),(p:Int),c))=[]
 out:∀(p g:Nat)(c:Option Nat),p<n->g<n->c∈bR ps p->∀z∈wl wy (bO ((p:Int),(g:Int),c)),z∈gK Ø ps p
 lt:∀k,∀z∈wl wy k,z<ps.length
theorem TabOk.F3(h:TabOk n ps wy)(k:cx):(wl wy k).length<=ps.length:=yJ (lL wy k) (h.lt k)
theorem bT(h:xB n ps rs):TabOk n ps (av rs) where
 zero p c:=by
  refine wh.mpr λz a=>?_
  obtain⟨r,e,_⟩:=Ii.mp a
  obtain⟨i,j,_,_,l,m,o,_⟩:=h.key r (fq e)
  have b:jj r=((p:Int),(p:Int),c):=iE (kc e)
  have f:r.p=p:=congrArg (·.1) b
  have q:r.g=p:=congrArg (·.2.1) b
  omega
 out p g c hp hg hc z a:=by
  obtain⟨r,e,d⟩:=Ii.mp a
  have b:jj r=((p:Int),(g:Int),c):=iE (kc e)
  have f:r.p=p:=congrArg (·.1) b
  have:=h.γ r (fq e) z d
  rw[f]at this
  exact this
 lt k z a:=by
  obtain⟨r,e,d⟩:=Ii.mp a
  exact gj (h.γ r (fq e) z d)
theorem AK(h:wy k=0):wl wy k=[]:=by unfold wl;rw[h];rfl
noncomputable def c6(wy:cx->Nat)(k:Key):Rw:=⟨k.1,k.2.1,k.2.2,wl wy (bO k)⟩
noncomputable def Bk(wy:cx->Nat)(k:Key):Bool:=(wl wy (bO k)).isEmpty
noncomputable def bc(n:Nat)(ps:List (Int×Int))(wy:cx->Nat):List Rw:=((b7 ps n n).filter λk=>!Bk wy k).map (c6 wy)
theorem qI(h:TabOk n ps wy):xB n ps (bc n ps wy) where
 nd:=by
  unfold bc
  rw[Á,show jj ∘ c6 wy=id from Λ,ŋ]
  exact Ť _ (ie ps n n)
 key r hr:=by
  obtain⟨k,b,rfl⟩:=ϟ.mp hr
  obtain⟨p,g,c,d,i,a,e,f⟩:=fj (Ì.mp b).1
  exact⟨p,g,c,d,i,a,e,f⟩
 γ r hr:=by
  obtain⟨k,b,rfl⟩:=ϟ.mp hr
  obtain⟨p,g,c,d,i,a,e,f⟩:=fj (Ì.mp b).1
  intro z j
  show z∈gK Ø ps k.1
  rw[a]
  refine h.out p g k.2.2 c d f z ?_
  rw[←a,←e]
  exact j
theorem BZ(a:p<n)(b:g<n)(d:g≠p)(e:c∈bR ps p):((p:Int),(g:Int),c)∈b7 ps n n:=by
 unfold b7 cr
 refine þ.mpr ⟨p,î.mpr a,þ.mpr ⟨g,î.mpr b,?_⟩⟩
 unfold eI
 rw[Θ d]
 exact ϟ.mpr ⟨c,e,Λ⟩
theorem vY(h:TabOk n ps wy)(d:p<n)(f:g<n)(i:c∈bR ps p):wl (av (bc n ps wy)) (bO ((p:Int),(g:Int),c))=wl wy (bO ((p:Int),(g:Int),c)):=by
 cases e:dG (bc n ps wy) (bO ((p:Int),(g:Int),c)) with
 | some r =>
  obtain⟨k,o,rfl⟩:=ϟ.mp (fq e)
  have j:=iE (kc e)
  subst j
  unfold wl av
  rw[e]
  exact zJ (lL wy _)
 | none =>
  have l:wl (av (bc n ps wy)) (bO ((p:Int),(g:Int),c))=[]:=AK (by unfold av;rw[e])
  rw[l]
  by_cases a:g=p
  ·subst a;exact(h.zero g c).symm
  ·cases b:Bk wy ((p:Int),(g:Int),c) with
   |true=>exact(YE.mp b).symm
   | false =>
    have m:c6 wy ((p:Int),(g:Int),c)∈bc n ps wy:=ϟ.mpr ⟨_,Ì.mpr ⟨BZ d f a i,by rw[b];rfl⟩,Λ⟩
    have:=BY (qI h).nd m
    rw[show aR (c6 wy ((p:Int),(g:Int),c))=bO ((p:Int),(g:Int),c) from Λ,e]at this
    cases this
noncomputable def ω:Str:=υ "way"
noncomputable def fu(pr:Int×Int):List Str:=[V.str (υ "lane"),.int pr.1,.int pr.2].map wT
noncomputable def c8(r:Rw):List Str:=ω:: fP r.p.toNat r.g.toNat r.c r.s
noncomputable def c7(n:Nat):List Str:=[V.str (υ "places"),.int n].map wT
noncomputable def bj(n:Nat)(ps:List (Int×Int))(wy:cx->Nat):List (List Str):=[c7 n]++ps.map fu++(bc n ps wy).map c8
theorem vN{c d:Type}(b:c->Bool)(F:c->d):∀l:List c,(l.flatMap λk=>if b k then [] else [F k])=(l.filter λk=>!b k).map F
 |[]=>rfl
 | a:: l=>by
  rw[ţ,vN b F l,ï]
  cases b a<;>rfl
theorem eG{c d:Type}{f g:c->List d}:∀{l:List c},(∀a∈l,f a=g a)->l.flatMap f=l.flatMap g
 |[],_=>rfl
 |a:: l,h=>by rw[ţ,ţ,h a ϙ,eG λb e=>h b (ϊ _ e)]
noncomputable def xF(wy:cx->Nat)(k:Key):List Str:=if Bk wy k then [] else [Txt.join blank (c8 (c6 wy k))]
theorem lM(a:cx->Nat)(p g:Nat)(c:Option Nat):bI a p g c=xF a ((p:Int),(g:Int),c):=by
 have b:lg (a (aR ⟨(p:Int),(g:Int),c,[]⟩))=nV (wl a (bO ((p:Int),(g:Int),c))):=rfl
 unfold bI xF Bk
 rw[b]
 have d:(nV (wl a (bO ((p:Int),(g:Int),c)))).isEmpty=(wl a (bO ((p:Int),(g:Int),c))).isEmpty:=by
  unfold nV
  cases wl a (bO ((p:Int),(g:Int),c))<;>rfl
 rw[d]
 have e:([V.str (υ "way"),.int (p:Int),.int (g:Int),cV c]++nV (wl a (bO ((p:Int),(g:Int),c)))).map wT=c8 (c6 a ((p:Int),(g:Int),c)):=by
  unfold c8 fP c6 nV
  rw[ϗ,Á]
  rfl
 rw[e]
theorem u1(h:TabOk n ps wy):((Ϝ n).flatMap λp=>eZ ps wy n p n)=(b7 ps n n).flatMap (xF wy):=by
 unfold b7
 rw[Ur]
 refine eG λp a=>?_
 unfold eZ cr
 rw[Ur]
 refine eG λg b=>?_
 unfold eI
 split
 ·rename_i e
  subst e
  have:∀l:List (Option Nat),l.flatMap (bI wy g g)=[]:=λl=>by
   refine List.flatMap_eq_nil_iff.mpr λc _=>?_
   rw[lM]
   unfold xF Bk
   rw[h.zero]
   rfl
  rw[this]
  rfl
 ·rw[List.flatMap_map]
  exact eG λc _=>lM wy p g c
theorem iW(h:TabOk n ps wy):bD n ps wy=(bj n ps wy).map (Txt.join blank):=by
 unfold bD bj
 rw[u1 h,ϗ,ϗ,Á,Á]
 congr 1
 unfold bc
 rw[Á]
 exact vN (Bk wy) (λk=>Txt.join blank (c8 (c6 wy k))) _
theorem u4(h:TabOk n ps wy):bD n ps (av (bc n ps wy))=bD n ps wy:=by
 unfold bD
 congr 1
 refine eG λp b=>eG λg d=>eG λc a=>?_
 have a:=a
 have e:=vY h (î.mp b) (î.mp d) a
 rw[lM,lM]
 unfold xF Bk c6
 rw[e]
theorem eN(c:Nat)(a:List Str):tl (Txt.join ⟨#[c]⟩ a)=dB c (a.map tl):=by
 rw[show Txt.join ⟨#[c]⟩ a=ĭ ⟨#[c]⟩ a from à _ _]
 exact lq c a
theorem pR(c:Nat)(p:List Nat):∀{a:List (List Nat)},a≠[]->dB c (a++[p])=dB c a++c:: p
 |[],h=>Κ Λ h
 |[q],_=>rfl
 | q:: r:: l,_=>by
  show q++c:: dB c ((r:: l)++[p])=(q++c:: dB c (r:: l))++c:: p
  rw[pR c p (ň r l),Ù]
  rfl
theorem mz(a:d≠c):∀{b:List (List Nat)},(∀p∈b,d∉p)->d∉dB c b
 |[],_=>by intro h;cases h
 |[q],h=>h q ϙ
 | q:: r:: l,h=>by
  intro z
  rcases ϝ.mp z with z|z
  ·exact h q ϙ z
  ·rcases ύ.mp z with z|z
   ·exact a z
   ·exact mz a (λp e=>h p (ϊ _ e)) z
def AD(x:Str):Prop:=10∉tl x/\32∉tl x
theorem eK(m:Nat):AD (al m):=⟨qP (by decide),qP (by decide)⟩
theorem CT(c:Option Nat):AD (wT (cV c)):=by
 cases c with
 |none=>exact⟨by decide,by decide⟩
 |some k=>exact eK k
theorem AO(r:Rw):∀x∈c8 r,AD x:=by
 intro x a
 unfold c8 fP at a
 rcases ύ.mp a with rfl|a
 ·exact⟨by decide,by decide⟩
 rcases ϝ.mp a with a|a
 ·simp only[ύ,ϡ,or_false]at a
  rcases a with rfl|rfl|rfl
  ·exact eK _
  ·exact eK _
  ·exact CT _
 ·obtain⟨m,_,rfl⟩:=ϟ.mp a
  exact eK m
theorem mH(f:∀e∈ps,∃a b:Nat,e=((a:Int),(b:Int))/\a<12/\b<12):∀ws∈bj n ps wy,ws≠[]/\∀x∈ws,AD x:=by
 intro ws c
 rcases ϝ.mp c with c|c
 ·rcases ϝ.mp c with c|c
  ·rw[ϋ.mp c]
   refine⟨ň _ _,λx d=>?_⟩
   simp only[c7,ϳ,gM,ύ,ϡ,or_false]at d
   rcases d with rfl|rfl
   ·exact⟨by decide,by decide⟩
   ·exact eK n
  ·obtain⟨e,g,rfl⟩:=ϟ.mp c
   obtain⟨a,b,rfl,_,_⟩:=f e g
   refine⟨ň _ _,λx d=>?_⟩
   simp only[fu,ϳ,gM,ύ,ϡ,or_false]at d
   rcases d with rfl|rfl|rfl
   ·exact⟨by decide,by decide⟩
   ·exact eK a
   ·exact eK b
 ·obtain⟨r,_,rfl⟩:=ϟ.mp c
  exact⟨ň _ _,AO r⟩
theorem xN(h:TabOk n ps wy)(f:∀g∈ps,∃a b:Nat,g=((a:Int),(b:Int))/\a<12/\b<12):
  Txt.split (Txt.join newline (bD n ps wy)) newline=bD n ps wy/\(bD n ps wy).map (λr=>Txt.split r blank)=bj n ps wy:=by
 have e:=mH (n:=n) (wy:=wy) f
 have i:=λws c=>cC (by decide) (e ws c).1 λy d=>((e ws c).2 y d).2
 constructor
 ·refine cC (by decide) (λz=>by unfold bD at z;cases z) λy d=>?_
  rw[iW h]at d
  obtain⟨ws,c,rfl⟩:=ϟ.mp d
  show 10∉tl (Txt.join ⟨#[32]⟩ ws)
  rw[eN]
  refine mz (by decide) λp j=>?_
  obtain⟨x,l,rfl⟩:=ϟ.mp j
  exact((e ws c).2 x l).1
 ·rw[iW h,Á]
  refine(Æ λws c=>?_).trans (ŋ _)
  exact i ws c
theorem xM(c:n<=12)(d:ps.length<=40)(f:∀g∈ps,∃a b:Nat,g=((a:Int),(b:Int))/\a<12/\b<12)(h:CN wy):(Txt.join newline (bD n ps wy)).length<=4000000:=by
 obtain⟨j,i⟩:=nH c d f h
 have e:Txt.join newline (bD n ps wy)=ĭ newline (bD n ps wy):=à _ _
 rw[e]
 have l:=ñ newline (bD n ps wy)
 have m:=Ð _ i
 have o:(bD n ps wy).length* newline.length=(bD n ps wy).length:=Ţ _
 omega
theorem mI(h:TabOk n ps wy)(a:ps.length<=40):CN wy:=λk=>by
 have e:lg (wy k)=nV (wl wy k):=rfl
 rw[e]
 refine⟨by rw[eC];exact ώ (h.F3 k) a,λv b=>?_⟩
 obtain⟨q,c,rfl⟩:=iF b
 exact dP (Ϗ (h.lt k q c) (ώ a (by decide)))
structure ZO(P:Program)(w:À)(K:Ϣ)(mg:Str->Option Ο)(μ:ò)(c:Cs)(ts:Ts)(x:Xc)(fi ft:Ν)(di dt:ë):Prop where
 mi:mg "Land"=Α (.ref c.land)
 Mi:Mk K c.land fi
 bi:Binds K di ["self","places","lanes"] []
 Gi:EW P w K mg μ (ix P w) 4 fi di ["self","places","lanes"] (ui K c x)
 mt:mg "Told"=Α (.ref ts.told)
 Mt:Mk K ts.told ft
 bt:Binds K dt ["self","land","rows"] []
 Gt:EW P w K mg μ (ix P w) 5 ft dt ["self","land","rows"] (tX P w K c ts x)
theorem cf{n:Nat}(c:n<=12)(h:gQ n pr=Δ):∃a b:Nat,pr=((a:Int),(b:Int))/\a<12/\b<12:=by
 unfold gQ at h
 simp only[ϫ,decide_eq_true_eq,ă,decide_eq_false_iff_not]at h
 obtain⟨⟨d,e⟩,⟨f,g⟩,_⟩:=h
 refine⟨pr.1.toNat,pr.2.toNat,QE ?_ ?_,by omega,by omega⟩
 ·omega
 ·omega
theorem jV(a:H x=Β)(b:H dx=Β)(c:dx≠x):EU H (ο (ο H dx (.own x)) x o):=EU.new (EU.new (EU.refl H) b) (by rw[af (ϧ c)];exact a)
theorem sT(p:List Str->Bool)(G:ws.length<=100000)(j:H a=Α (.π us))(l:FH H us ws)
  (z:∀(u:V)(x:List Str)(acc:List V)(N:List V->Hp->Prop),VZ H u x->x∈ws->N (if p x then acc++[u] else acc) H->g u σ0 H λd c=>tt d c λb m=>if b=Δ then te d m λy A=>N (acc++[y]) A else N acc m)
  (B:∀D e,H D=Β->FH H e (ws.filter p)->Q (.ref D) (ο H D (.π e))):ge (AF K a) g tt te σ0 Q H:=by
 have n:=Paired.length l
 refine b8 ws.length (by rw[Χ];omega) (λi acc f=>f=H/\FH H acc ((ws.take i).filter p)) ⟨Λ,.nil⟩ (λi acc f h=>by rw[Paired.length h.2];exact ώ (É _ _) (æ _ _)) (λi acc f o h=>?_) (λacc f h=>?_)
 ·obtain⟨rfl,h⟩:=h
  have q:=Ψ o
  obtain⟨v,r,s⟩:=FH.get l q
  refine⟨⟨_,v,EX.of j,r⟩,λI c y=>?_⟩
  obtain⟨rfl,y⟩:=y
  have t:=y _ (EX.of j)
  rw[r]at t
  cases t
  refine z v ws[i] acc (λC E=>E=c/\FH c C ((ws.take (i+1)).filter p)) s (ÿ o) ⟨Λ,?_⟩
  rw[í,q,Ú]
  show FH c _ (_++D0 p [ws[i]])
  rw[ï]
  cases p ws[i] with
  |true=>exact FH.snoc s h
  |false=>show FH c acc (_++[]);rw[ķ];exact h
 ·obtain⟨rfl,h⟩:=h
  rw[Ó]at h
  exact⟨⟨us,EX.of j,by omega⟩,λD F=>B D acc F h⟩
noncomputable def Fu:Str:=υ "lane"
noncomputable def bW(x:List Str):Bool:=decide (V.str (x.headD blank)=V.str (υ "lane"))&& decide (V.int ((x.map V.str).length:Nat)=V.int 3)
noncomputable def fz(x:List Str):Bool:=decide (V.str (x.headD blank)=V.str (υ "way"))&& decide ((4:Int)<((x.map V.str).length:Nat))
theorem k4{a:Type}{p:a->Bool}{l:List a}(h:∀x∈l,p x=Δ):l.filter p=l:=Ru.mpr h
theorem kz{a:Type}{p:a->Bool}{l:List a}(h:∀x∈l,p x=Ε):l.filter p=[]:=J6.mpr λx b=>by rw[h x b];intro z;cases z
theorem fE(h:tl x≠tl y):decide (V.str x=V.str y)=Ε:=Η λz=>h (congrArg tl (V.str.inj z))
theorem gJ(n:Nat)(b:List (Int×Int))(c:cx->Nat):(bj n b c).filter bW=b.map fu:=by
 unfold bj
 rw[Ú,Ú,kz (l:=[c7 n]),k4 (l:=b.map fu),kz (l:=(bc n b c).map c8)]
 ·simp
 ·intro x a
  obtain⟨r,_,rfl⟩:=ϟ.mp a
  unfold bW
  rw[show(c8 r).headD blank=ω from Λ,fE (by decide),ö]
 ·intro x a
  obtain⟨r,_,rfl⟩:=ϟ.mp a
  unfold bW
  rw[Ζ (show V.str ((fu r).headD blank)=V.str (υ "lane") from Λ),Ζ (show V.int (((fu r).map V.str).length:Nat)=V.int 3 from Λ)]
  rfl
 ·intro x a
  rw[ϋ.mp a]
  unfold bW
  rw[show(c7 n).headD blank=υ "places" from Λ,fE (by decide),ö]
theorem jC(n:Nat)(c:List (Int×Int))(a:cx->Nat):(bj n c a).filter fz=(bc n c a).map c8:=by
 unfold bj
 rw[Ú,Ú,kz (l:=[c7 n]),kz (l:=c.map fu),k4 (l:=(bc n c a).map c8)]
 ·simp
 ·intro x b
  obtain⟨r,e,rfl⟩:=ϟ.mp b
  obtain⟨k,f,rfl⟩:=ϟ.mp e
  have d:=(Ì.mp f).2
  have g:0<(wl a (bO k)).length:=by
   refine Ħ.mpr λz=>?_
   unfold Bk at d
   rw[z]at d
   cases d
  unfold fz
  rw[Ζ (show V.str ((c8 (c6 a k)).headD blank)=V.str (υ "way") from Λ),Ζ,Ý]
  rw[Μ]
  unfold c8 fP c6
  rw[Ϛ,Ξ,Μ]
  show (4:Int)<((3+(wl a (bO k)).length+1:Nat):Int)
  omega
 ·intro x b
  obtain⟨r,_,rfl⟩:=ϟ.mp b
  unfold fz
  rw[show(fu r).headD blank=Fu from Λ,fE (by decide),ö]
 ·intro x b
  rw[ϋ.mp b]
  unfold fz
  rw[show(c7 n).headD blank=υ "places" from Λ,fE (by decide),ö]
theorem qW(h:x≠[]):rq (x.map V.str) 0=Α (.str (x.headD blank)):=by
 cases x with
 |nil=>exact Κ Λ h
 |cons y l=>exact aj (j:=0) Λ
noncomputable def pN:List Str->Option Nat×Option Nat
 |_:: a:: b:: _=>(eU a,eU b)
 |_=>(Β,Β)
noncomputable def wk:List Str->Ro
 |_:: x:: y:: z:: ms=>Wa x y z ms
 |_=>⟨Β,Β,Β,[]⟩
structure Jd(ws:List (List Str))(n:Nat)(ps:List (Int×Int))(rs:List Rw):Prop where
 no:eU ((ws.headD []).getLastD blank)=Α n
 G0:1<=n/\n<=12
 qs:(ws.filter bW).map pN=ps.map oP
 HZ:∀p∈ps,gQ n p=Δ
 Im:(ws.filter fz).map wk=rs.map oX
 nn:∀r∈rs,0<=r.p/\0<=r.g
 good:dW n ps rs rs.length=Β
structure GY(ws:List (List Str)):Prop where
 ne:∀y∈ws,y≠[]
 len:∀y∈ws,y.length<=90
 word:∀y∈ws,∀u∈y,u.length<=1000000/\õ u=Δ
 many:ws.length<=10000
 γ:(ws.filter bW).length<=40
inductive qu(P:Program)(w:À)(K:Ϣ)(c:Cs)(ts:Ts)(xc:Xc)(vs:List V)(H:Hp)(Q:VK)(E:XK):Prop
 |mk (D:Ν) (us:List V) (ws:List (List Str)) (_:vs=[.ref D]) (_:H D=Α (.π us)) (_:FH H us ws) (_:ws≠[]) (_:GY ws) (_:(∀n ps rs,¬Jd ws n ps rs)->Rf K xc E H) (_:∀n ps rs,Jd ws n ps rs->∀(x lx F1 lt:Ν)(Fo:List V)(H':Hp),EU H H'->Hh c ts.told (Ff P w ts) H' x lx F1 lt n Fo ps (oZ rs)->Q (.ref x) H')
noncomputable def vt(s:Ã):Scope:=match s with
 |.Assign _ (.ListComp _ _ sc _) _=>sc
 |_=>du
noncomputable def we(s:Ã):Scope:=match s with
 |.Assign _ (.Call _ [_,.ListComp _ _ sc _] _ _) _=>sc
 |.Return (Α (.Call _ [_,.ListComp _ _ sc _] _ _)) _=>sc
 |_=>du
abbrev TF:List Str:=["rows","lanes","ways","land"]
abbrev BV(i:Nat):Ã:=(aJ i7).getD i (.Pass ⟨0,0,0,0⟩)
theorem MX:ap TF ["rows"] (ag i7):=L2.F4
theorem ZP:FQ TF (ag i7) (vt (BV 0)) [] []:=L2.GR
theorem ZQ:FQ TF (ag i7) (vt (BV 1)) [] []:=L2.GR
theorem ZR:FQ TF (ag i7) (we (BV 2)) [] []:=L2.GR
theorem ZT:FQ TF (ag i7) (we (BV 3)) [] []:=L2.GR
theorem BS:(["words"]:List Str).Nodup:=by decide +kernel
theorem zn(F:F0 K "make_table" "make_table" i7 f fd)(T:Txt mg)(M:ZO P w K mg μ c ts xc fi ft di dt)(mn:mg "number_of"=Α (.ref fn))(kn:Ϩ K (.ref fn)=Δ)(bn:Binds K dn ["word"] [])(Gn:EW P w K mg μ aL 1 fn dn ["word"] gx)
  (my:mg "read_way"=Α (.ref fy)) (ky:Ϩ K (.ref fy)=Δ) (ZU:Binds K dy ["words"] []) (Gy:EW P w K mg μ aL 2 fy dy ["words"] kM):EW P w K mg μ (ix P w) 7 f fd ["rows"] (qu P w K c ts xc):=by
 refine F.KD MX (λ_ _ _ _ h=>?_) (λ_ _ _ s H _ Q E G h=>?_)
 ·obtain⟨D,us,ws,rfl,_⟩:=h
  rfl
 ·obtain⟨D,us,ws,rfl,hD,hW,hwn,S,hE,q⟩:=h
  have G6:Fj 2 _:=G.mono (by decide)
  have FI:Fj 1 _:=G.mono (by decide)
  have MT:Fj 5 _:=G.mono (by decide)
  refine⟨_,ad (dM (i:=1) (own:=["words"]) (capN:=[]) (cap:=[]) ZP Λ MX.nd Λ Λ (bu (pv 0))
    (λC s' d fp=>⟨aE (i:=0) BS Λ (ό Λ),cU (PW.pt (fR (ak aQ (ay (show oS _ (nN K) from aB) (pv 0) ae (λ_ _=>rfl)) aD (aq _)) (dR (ak aQ (aF (show F5 _ (.builtin "len") (SU K) from aC) Λ T.len PySem.boot_len (aa (pv 0) ac)) ae (aq _))))),pv 0⟩))
   (ad (dM (i:=2) (own:=["words"]) (capN:=[]) (cap:=[]) ZQ Λ MX.nd Λ Λ (bu (pv 0))
    (λC s' d fp=>⟨aE (i:=0) BS Λ (ό Λ),cU (PW.pt (fR (ak aQ (ay (show oS _ (nN K) from aB) (pv 0) ae (λ_ _=>rfl)) aD (aq _)) (dR (ak jW (aF (show F5 _ (.builtin "len") (SU K) from aC) Λ T.len PySem.boot_len (aa (pv 0) ac)) ae (aq _))))),pv 0⟩))
   (ad (aA (i:=3) MX.nd Λ (ό Λ) (eO M.Mi M.Gi MT Λ M.mi M.bi .nil (Fg.passes Λ) (aa (au Gn FI Λ mn kn bn .nil aw (aa (ay aB (ay aB (pv 0) ae (λ_ _=>rfl)) (io fD ae) (λ_ _=>rfl)) ac))
    (aa (aV (own:=["words"]) (capN:=[]) (cap:=[]) ZR Λ (bu (pv 1))
     (λC s' d fp=>⟨aE (i:=0) BS Λ (ό Λ),bB,bF (aa (au Gn FI Λ mn kn bn .nil aw (aa (ay (show oS _ (nN K) from aB) (pv 0) ae (λ_ _=>rfl)) ac)) (aa (au Gn FI Λ mn kn bn .nil aw (aa (ay (show oS _ (nN K) from aB) (pv 0) ae (λ_ _=>rfl)) ac)) ac))⟩)) ac))))
   (ah (az (eO M.Mt M.Gt G Λ M.mt M.bt .nil (Fg.passes Λ) (aa (pv 3) (aa (aV (own:=["words"]) (capN:=[]) (cap:=[]) ZT Λ (bu (pv 2))
     (λC s' d fp=>⟨aE (i:=0) BS Λ (ό Λ),bB,au Gy G6 Λ my ky ZU .nil aw (aa (aX (show Rc _ (Bl K) from bJ) (pv 0) (bz ae) bC) ac)⟩)) ac))))))),?_⟩
  have FG:=S.ne
  have LK:=S.many
  refine⟨D,Λ,⟨_,EX.of hD⟩,?_⟩
  refine sT bW (by omega) hD hW (λu x acc N hL hx h=>?_) λD1 NX hD1 Qu=>?_
  ·obtain⟨a,rfl,B⟩:=hL
   refine⟨a,_,0,_,Λ,Λ,EX.of B,qW (FG x hx),Λ,_,Λ,?_⟩
   unfold bW at h
   cases U:decide (V.str (x.headD blank)=V.str (υ "lane")) with
   | false =>
    rw[U,ö]at h
    exact aH (aH h)
   | true =>
    rw[U,Ý]at h
    refine aI ⟨a,_,Λ,.inl (EX.of B),Λ,_,Λ,?_⟩
    cases e2:decide (V.int ((x.map V.str).length:Nat)=V.int 3) with
    |false=>rw[e2]at h;exact aH h
    |true=>rw[e2]at h;exact aI h
  have Pc:=S.γ
  have hlm:∀y∈ws.filter bW,y∈ws/\y.length=3:=λy hy=>by
   obtain⟨h1,I⟩:=Ì.mp hy
   unfold bW at I
   rw[ϫ]at I
   have:=of_decide_eq_true I.2
   rw[Μ]at this
   injection this with this
   exact⟨h1,by omega⟩
  generalize Qk:ws.filter bW=X at Qu Pc hlm
  have s1:=(EU.refl H).new (o:=.π NX) hD1
  have g1:(ο H D1 (.π NX)) D1=Α (.π NX):=ET
  generalize ο H D1 (.π NX)=H1 at s1 g1⊢
  have Qu:=FH.same s1 Qu
  refine⟨D,Λ,⟨_,EX.of (s1 _ _ hD)⟩,?_⟩
  refine sT fz (by omega) (s1 _ _ hD) (FH.same s1 hW) (λu x acc N hL hx h=>?_) λD2 MY Hd Qv=>?_
  ·obtain⟨a,rfl,B⟩:=hL
   refine⟨a,_,0,_,Λ,Λ,EX.of B,qW (FG x hx),Λ,_,Λ,?_⟩
   unfold fz at h
   cases U:decide (V.str (x.headD blank)=V.str (υ "way")) with
   | false =>
    rw[U,ö]at h
    exact aH (aH h)
   | true =>
    rw[U,Ý]at h
    refine aI ⟨a,_,Λ,.inl (EX.of B),_,_,Λ,Λ,_,Λ,?_⟩
    cases e2:decide ((4:Int)<((x.map V.str).length:Nat)) with
    |false=>rw[e2]at h;exact aH h
    |true=>rw[e2]at h;exact aI h
  have ZV:∀y∈ws.filter fz,y∈ws/\4<y.length:=λy hy=>by
   obtain⟨h1,I⟩:=Ì.mp hy
   unfold fz at I
   rw[ϫ]at I
   have:=of_decide_eq_true I.2
   rw[Μ]at this
   exact⟨h1,by omega⟩
  have JN:(ws.filter fz).length<=10000:=ώ (É _ _) LK
  generalize NW:ws.filter fz=Y at Qv ZV JN
  have s2:=s1.new (o:=.π MY) Hd
  have Ip:=(EU.refl H1).new (o:=.π MY) Hd
  have g2:(ο H1 D2 (.π MY)) D2=Α (.π MY):=ET
  generalize ο H1 D2 (.π MY)=H2 at s2 Ip g2⊢
  have Qv:=FH.same Ip Qv
  have Qu:=FH.same Ip Qu
  obtain⟨A,wt,We⟩:=KU hwn
  have hw0:ws[0]?=Α A:=by rw[We];rfl
  have TH:=Ϫ hw0
  have MZ:=FG A TH
  have TK:A=A.dropLast++[A.getLastD blank]:=by
   rw[Nk,NZ MZ]
   exact(Ň MZ).symm
  have ZW:A.getLastD blank∈A:=by
   rw[Nk,NZ MZ]
   exact List.getLast_mem MZ
  obtain⟨u0,hu0,a0,rfl,ha0⟩:=FH.get (FH.same s2 hW) hw0
  have ZX:H2 a0=Α (.π (A.dropLast.map V.str++[V.str (A.getLastD blank)])):=by
   refine ha0.trans (congrArg (λz=>Α (HO.π z)) ?_)
   exact(congrArg (Rb V.str) TK).trans (by rw[ϗ];rfl)
  refine⟨D,us,0,_,Λ,Λ,EX.of (s2 _ _ hD),aj (j:=0) hu0,_,Λ,a0,_,-1,_,Λ,Λ,EX.of ZX,kC _ _,A.getLastD blank,Λ,(S.word A TH _ ZW).1,λH3 s3=>?_⟩
  have JQ:=s2.trans s3
  have Pd:=s3 _ _ (Ip _ _ g1)
  refine⟨D1,Λ,⟨_,EX.of Pd⟩,?_⟩
  have TL:=FH.same s3 Qu
  have TM:=Paired.length TL
  refine b8 X.length (by rw[Χ];omega) (λi acc d=>EU H3 d/\Paired (OA d) acc ((X.take i).map pN)) ⟨EU.refl _,.nil⟩ (λi acc d h=>by rw[Paired.length h.2,Μ];exact æ _ _) (λi acc d hi h=>?_) (λacc d h=>?_)
  ·obtain⟨s4,NY⟩:=h
   have T9:=Ψ hi
   obtain⟨v,hv,a,rfl,B⟩:=FH.get (FH.same s4 TL) T9
   refine⟨⟨_,_,EX.of (s4 _ _ Pd),hv⟩,λv' H5 y=>?_⟩
   obtain⟨rfl,y⟩:=y
   have HS:=y _ (EX.of (s4 _ _ Pd))
   rw[hv]at HS
   cases HS
   obtain⟨hm,Pe⟩:=hlm _ (ÿ hi)
   have Z:=S.word _ hm
   have HC:(X.take (i+1)).map pN=(X.take i).map pN++[pN X[i]]:=by rw[í,T9,ϗ];rfl
   generalize X[i]=r at B HC Pe Z
   match r,Pe with
   |[k,p1,p2],_ =>
   refine⟨a,_,1,_,Λ,Λ,EX.of B,aj (j:=1) Λ,p1,Λ,(Z p1 (by simp)).1,λH6 s6=>?_⟩
   refine⟨a,_,2,_,Λ,Λ,EX.of (s6 _ _ B),aj (j:=2) Λ,p2,Λ,(Z p2 (by simp)).1,λH7 O=>⟨by show 2<=Τ;decide,λt ht=>?_⟩⟩
   have R:=(s6.trans O).new (o:=.tup [oV (eU p1),oV (eU p2)]) ht
   refine⟨s4.trans R,?_⟩
   rw[HC]
   exact Paired.snoc ⟨t,Λ,ET⟩ (Paired.mono (λ_ _ z=>z.same R) NY)
  obtain⟨s4,NY⟩:=h
  rw[Ó]at NY
  refine⟨⟨_,EX.of (s4 _ _ Pd),by rw[TM];exact ϛ _⟩,λl hl=>?_⟩
  have s5:=s4.new (o:=.π acc) hl
  have VP:=Paired.mono (λ_ _ z=>z.same ((EU.refl d).new (o:=.π acc) hl)) NY
  have g5:(ο d l (.π acc)) l=Α (.π acc):=ET
  generalize ο d l (.π acc)=H5 at s5 g5 VP⊢
  intro x dx nx ML Ld
  have Wg:=jV (o:=.ρ c.land dx []) nx ML Ld
  have hE5:=λh=>(hE h).same (JQ.trans s5)
  refine⟨x,dx,eU (A.getLastD blank),l,acc,X.map pN,Λ,ET,EX.of (Wg _ _ g5),Paired.mono (λ_ _ z=>z.same Wg) VP,by rw[Paired.length VP,Μ];exact Pc,λPf=>(hE5 λn J rs m=>Pf ⟨n,J,by have:=m.no;rw[We]at this;exact this,m.G0.1,m.G0.2,by have:=m.qs;rw[Qk]at this;exact this,m.HZ⟩).same Wg,?_⟩
  intro n J eno Y8 K4 eqs Fi H6 lt Fo off hL
  refine⟨Λ,?_⟩
  have s6:EU H5 H6:=λb o z=>off b o (ai z nx) (Wg _ _ z)
  have Qw:=s5.trans s6
  have FJ:J.length<=40:=by have:=congrArg ê eqs;rw[Μ,Μ]at this;omega
  have Wh:=Qw _ _ (s3 _ _ g2)
  have TN:=FH.same Qw (FH.same s3 Qv)
  have IM:MY.length=Y.length:=Paired.length TN
  refine⟨D2,Λ,⟨_,EX.of Wh⟩,?_⟩
  refine b8 Y.length (by rw[Χ];omega) (λi acc d=>EU H6 d/\Paired (N5 d) acc ((Y.take i).map wk)) ⟨EU.refl _,.nil⟩ (λi acc d h=>by rw[Paired.length h.2,Μ];exact æ _ _) (λi acc d hi h=>?_) (λKQ d h=>?_)
  ·obtain⟨O,Mn⟩:=h
   have Ji:=Ψ hi
   obtain⟨v,hv,a,rfl,B⟩:=FH.get (FH.same O TN) Ji
   refine⟨⟨_,_,EX.of (O _ _ Wh),hv⟩,λv' H8 y=>?_⟩
   obtain⟨rfl,y⟩:=y
   have HS:=y _ (EX.of (O _ _ Wh))
   rw[hv]at HS
   cases HS
   obtain⟨hm,Na⟩:=ZV _ (ÿ hi)
   have Z:=S.word _ hm
   have JG:=S.len _ hm
   have HC:(Y.take (i+1)).map wk=(Y.take i).map wk++[wk Y[i]]:=by rw[í,Ji,ϗ];rfl
   generalize Y[i]=r at B HC Na Z JG
   match r,Na,JG with
   |k:: x1:: y1:: z1:: ms,_,JG =>
   refine⟨1,Λ,a,_,Λ,EX.of B,λp hp=>?_⟩
   have ec:dH ((k:: x1:: y1:: z1:: ms).map V.str) (Α 1) Β=(x1:: y1:: z1:: ms).map V.str:=k9 1 [V.str k] _ Λ
   rw[ec]
   have L:=(EU.refl H8).new (o:=.π ((x1:: y1:: z1:: ms).map V.str)) hp
   refine⟨p,x1,y1,z1,ms,Λ,ET,λu hu=>(Z u (ϊ _ hu)).1,by simp only[Ϛ]at JG;omega,λt l Ko Kn ZY=>⟨O.trans (L.trans Kn),?_⟩⟩
   rw[HC]
   exact Paired.snoc ⟨t,l,Λ,ZY⟩ (Paired.mono (λ_ _ z=>z.same (L.trans Kn)) Mn)
  obtain⟨O,Mn⟩:=h
  rw[Ó]at Mn
  refine⟨⟨_,EX.of (O _ _ Wh),by rw[IM];exact ϛ _⟩,λl2 TQ=>?_⟩
  have R:=O.new (o:=.π KQ) TQ
  have TU:=Paired.mono (λ_ _ z=>N5.same ((EU.refl d).new (o:=.π KQ) TQ) z) Mn
  have g8:(ο d l2 (.π KQ)) l2=Α (.π KQ):=ET
  generalize ο d l2 (.π KQ)=H8 at R g8 TU⊢
  have s68:=s6.trans R
  intro y dy ny MV MW
  have L:=jV (o:=.ρ ts.told dy []) ny MV MW
  have Qx:fX H8 c x dx lt n Fo J:=⟨R _ _ hL.1,R _ _ hL.2.1,F6.same R hL.2.2⟩
  refine⟨y,dy,x,dx,lt,l2,(n:Int),Fo,KQ,J,Y.map wk,Λ,ET,⟨L _ _ Qx.1,L _ _ Qx.2.1,F6.same L Qx.2.2⟩,EX.of (L _ _ g8),Paired.mono (λ_ _ z=>N5.same L z) TU,by rw[Paired.length TU,Μ];omega,by omega,?_,?_,?_⟩
  ·intro r G
   obtain⟨wd,Z,rfl⟩:=ϟ.mp G
   obtain⟨hm,Na⟩:=ZV _ Z
   have JG:=S.len _ hm
   match wd,Na,JG with
   |k:: x1:: y1:: z1:: ms,_,JG =>
   show(ms.map eU).length<=1000
   rw[Μ]
   simp only[Ϛ]at JG
   omega
  ·refine λPf cl dd d e o=>hE5 (λn' HE rs m=>Pf ?_) cl dd d e λb u z=>o b u (ai (s68 _ _ z) ny) (L _ _ (s68 _ _ z))
   have U:n'=n:=by
    have:=m.no
    rw[We]at this
    exact ϥ (this.symm.trans eno)
   have e2:HE=J:=by
    have h1:=m.qs
    rw[Qk,eqs]at h1
    have back:∀{l:List (Int×Int)},(∀p∈l,gQ n p=Δ)->(l.map oP).map x8=l:=λ{l} hl=>by
     rw[Á]
     refine(Æ λp hp=>?_).trans (ŋ _)
     obtain⟨a1,a2⟩:=nW (hl p hp)
     exact QE (å a1) (å a2)
    have I:=congrArg (Rb x8) h1
    rw[back Fi,back (λp hp=>by have:=m.HZ p hp;rw[U]at this;exact this)]at I
    exact I.symm
   subst U e2
   exact⟨rs,by have:=m.Im;rw[NW]at this;exact this,m.nn,m.good⟩
  ·intro rs ZZ nn HB H9 de EZ o9 hy Pg Ph
   refine⟨Λ,?_⟩
   have hf:=oA HB nn
   have Nb:EU H8 H9:=λb u z=>o9 b u (ai z ny) (L _ _ z)
   have m:Jd ws n J rs:=⟨by rw[We];exact eno,⟨Y8,K4⟩,by rw[Qk];exact eqs,Fi,by rw[NW];exact ZZ,nn,HB⟩
   refine q n J rs m y x dx lt Fo H9 (JQ.trans (Qw.trans (R.trans Nb))) ?_
   exact⟨⟨dy,de,_,EZ,rs,hy,Pg,Ph,(λr G k hk=>Ϗ (gj (hf.γ r G k hk)) FJ),Λ⟩,⟨dy,_,hy,Λ,Λ⟩,⟨Nb _ _ Qx.1,Nb _ _ Qx.2.1,F6.same Nb Qx.2.2⟩,K4,FJ,λp g k _ _=>(qe (λr G k hk=>gj (hf.γ r G k hk)) p g k).1⟩
end K83
namespace L2
open PySem PySem.Calls PySem.NumText PyProof.Rows PySem.W.KIN
theorem zD(k:Nat):υ (oh (-((k+1:Nat):Int)))=⟨#[45]⟩++al (k+1):=by
 have c:oh (-((k+1:Nat):Int))="-"++oh (((k+1:Nat)):Int):=rfl
 rw[c]
 unfold al
 generalize oh (((k+1:Nat)):Int)=s
 have h:(υ ("-"++s)).cps.toList=(⟨#[45]⟩++υ s:Str).cps.toList:=by
  show(υ ("-"++s)).cps.toList=(#[45]++(υ s).cps).toList
  rw[signs_ofString,ć,signs_ofString,String.toList_append,ϗ]
  rfl
 generalize υ ("-"++s)=a at h⊢
 generalize (⟨#[45]⟩++υ s:Str)=b at h⊢
 cases a;cases b
 exact congrArg Str.mk (Į.mp h)
end L2
namespace K83
open PySem L2
variable {P:Program}{w:À}{K:Ϣ}{mg:Str->Option Ο}{μ:ò}
theorem qg(k:Nat):wT (.int (-((k+1:Nat):Int)))=⟨#[45]⟩++al (k+1):=zD k
theorem zy(m:Nat):Txt.startswith (al m) ⟨#[45]⟩=Ε:=by
 have a:=jX m
 obtain⟨c,l,e⟩:=KU a
 have b:al m=⟨#[c]⟩++⟨l.toArray⟩:=jv (by rw[gf];exact e)
 have d:=cK m c (by rw[e];exact ϙ)
 rw[b,e7]
 exact Η (by omega)
theorem fA(x y:Str):(x++y).length=x.length+y.length:=by rw[mP,gf,Ξ,←mP,←mP]
theorem p0(x:Str):x=⟨#[]⟩∨∃c y,x=⟨#[c]⟩++y:=by
 cases e:tl x with
 |nil=>exact .inl (jv e)
 |cons c l=>exact .inr ⟨c,⟨l.toArray⟩,jv (by rw[gf];exact e)⟩
theorem l4(h:Txt.startswith x ⟨#[45]⟩=Δ):∃y,x=⟨#[45]⟩++y:=by
 rcases p0 x with rfl|⟨c,y,rfl⟩
 ·cases h
 ·rw[e7]at h
  exact⟨y,by rw[of_decide_eq_true h]⟩
noncomputable def im(x:Str):Option Int:=if Txt.startswith x ⟨#[45]⟩=Δ then (match eU (Txt.slice x (Α 1) Β) with|some (m+1)=>Α (-((m+1:Nat):Int))|_=>Β) else (eU x).map λm:Nat=>(m:Int)
theorem y8(h:im x=Α i):x=wT (.int i)/\i.natAbs<10^60:=by
 unfold im at h
 split at h
 ·next hs =>
  obtain⟨y,rfl⟩:=l4 hs
  rw[fL]at h
  split at h
  ·next m e =>
   cases h
   obtain⟨a,b⟩:=iG e
   rw[qg,←a]
   exact⟨Λ,by rw[Qt,ó];exact b⟩
  ·cases h
 ·cases e:eU x with
  |none=>rw[e]at h;cases h
  | some m =>
   rw[e]at h
   cases h
   exact⟨(iG e).1,(iG e).2⟩
theorem Bg(h:i.natAbs<10^60):im (wT (.int i))=Α i:=by
 unfold im
 rcases lt_or_le i 0 with a|a
 ·obtain⟨k,rfl⟩:∃k:Nat,i= -((k+1:Nat):Int):=⟨(-i - 1).toNat,by omega⟩
  rw[qg,e7,Ι (by decide),fL,lV (by rw[Qt,ó]at h;exact h)]
 ·obtain⟨m,rfl⟩:=Ï a
  rw[show wT (.int (m:Int))=al m from Λ,zy,Θ (by decide),lV (by rw[ó]at h;exact h)]
  rfl
inductive mX(vs:List V)(H:Hp)(Q:VK)(E:XK):Prop
 |mk (x:Str) (_:vs=[.str x]) (_:x.length<=1000000) (_:∀H',EU H H'->Q (iV (im x)) H')
noncomputable def fQ(d:List V):Str:=Txt.join blank (d.map wT)
noncomputable def mG(n:Nat)(ps:List (Int×Int))(wy:cx->Nat)(s:YS):List Str:=bD n ps wy++[fQ (.str (υ "rooms"):: s.rooms)]++s.done.map fQ
noncomputable def yT(n:Nat)(ps:List (Int×Int))(wy:cx->Nat)(s:YS):Str:=Txt.join newline (mG n ps wy s)
structure Wi(d:List V):Prop where
 wd:∀v∈d,Wd v
 len:∀v∈d,(wT v).length<=62
 F3:d.length<=41
theorem Wi.row(h:Wi d):(fQ d).length<=2583:=by
 unfold fQ
 rw[show Txt.join blank (d.map wT)=ĭ blank (d.map wT) from à _ _]
 have a:=ñ blank (d.map wT)
 have b:=Ð _ λy c=>by obtain⟨v,e,rfl⟩:=ϟ.mp c;exact h.len v e
 rw[Μ]at a b
 have f:d.length* blank.length=d.length:=Ţ _
 have:=h.F3
 omega
structure Rds(s:YS):Prop where
 rooms:Wi (.str (υ "rooms"):: s.rooms)
 done:∀d∈s.done,Wi d
 many:s.done.length<=100
inductive lO(K:Ϣ)(c:Cs)(TC:Ν)(J:TJ)(ys:Ys)(vs:List V)(H:Hp)(Q:VK)(E:XK):Prop
 |mk (a:YA) (s:YS) (wy:cx->Nat) (_:vs=[.ref a.y]) (_:HP K c TC J ys H a s) (_:Ag a.n a.ps a.wy wy) (_:CN wy) (_:(∀q∈a.ps,gQ a.n q=Δ)) (_:Rds s) (_:∀H',EU H H'->Q (.str (yT a.n a.ps wy s)) H')
theorem m9(a:List Rw):Ag n ps (oZ a) (av a):=λp g k _ _ _=>rfl
noncomputable def extL(s:Ã):Scope:=match s with
 |.Expr (.Call _ [.ListComp _ _ sc _] _ _) _=>sc
 |_=>du
theorem TV:ap ["word","number"] ["word"] (ag qD):=L2.F4
theorem wM(F:F0 K "signed_of" "signed_of" qD f fd)(c:mg "number_of"=Α (.ref fn))(d:Ϩ K (.ref fn)=Δ)(g:Binds K dn ["word"] [])(j:EW P w K mg μ aL 1 fn dn ["word"] gx):EW P w K mg μ aL 2 f fd ["word"] mX:=by
 refine F.ok TV λ_ _ _ s H _ Q E l h=>?_
 obtain⟨x,rfl,a,q⟩:=h
 refine⟨_,ad (aN (bV (b9 (aZ plainAttrs_str PySem.F.slot_str_startswith PySem.F.type_str_startswith pI (pv 0) (aa aD ac)))) (ah (az (au j l Λ c d g .nil aw (aa (pv 0) ac)))) aG)
  (ad (aA (i:=1) TV.nd Λ (ό Λ) (au j l Λ c d g .nil aw (aa (aX vp (pv 0) (bz ae) bC) ac)))
  (ah (az (cI (PW.pt (dQ (ak kW (pv 1) bA (aq _)) (dL (ak aQ (pv 1) ae (aq _))))) bA (io fD (pv 1)))))),?_⟩
 refine⟨Λ,_,⟨#[45]⟩,Λ,Λ,_,Λ,?_⟩
 unfold im at q
 cases b:Txt.startswith x ⟨#[45]⟩ with
 | false =>
  rw[b]at q
  refine aI ⟨x,Λ,a,λn o=>?_⟩
  have q:=q n o
  rw[Θ (by decide)]at q
  cases e:eU x with
  |none=>rw[e]at q;exact q
  |some m=>rw[e]at q;exact q
 |true =>
 rw[b]at q
 obtain⟨y,rfl⟩:=l4 b
 refine aH ⟨1,Λ,_,1,Λ,Λ,Λ,ώ a (by decide),?_⟩
 rw[fL]at q⊢
 have p:y.length<=1000000:=by rw[fA]at a;omega
 refine⟨y,Λ,p,λr t=>?_⟩
 have q:=q r t
 rw[Ι Λ]at q
 cases e:eU y with
 |none=>rw[e]at q;exact⟨Λ,_,Λ,aI (aI q)⟩
 | some m =>
  rw[e]at q
  refine⟨Λ,_,Λ,aH ⟨Λ,_,Λ,?_⟩⟩
  cases m with
  |zero=>exact aI q
  | succ k =>
   rw[show decide (oV (Α (k+1))=V.int 0)=Ε from Η λz=>by have:=V.int.inj z;omega]
   exact aH ⟨_,Λ,q⟩
theorem TY:ap ["yard","rows"] ["yard"] (ag nu):=L2.F4
theorem bkYt:FQ ["yard","rows"] (ag nu) (extL ((aJ nu).getD 2 (.Pass ⟨0,0,0,0⟩))) [] []:=L2.GR
theorem ndYt:(["deed"]:List Str).Nodup:=by decide +kernel
theorem zf(F:F0 K "yard_text" "yard_text" nu f fd)(Y:mB K ys)(W:Wy K TC fw dw J)(mr:mg "row_of"=Α (.ref fr))(kr:Ϩ K (.ref fr)=Δ)(br:Binds K dr ["things"] [])(Gr:EW P w K mg μ aL 2 fr dr ["things"] (jG K))
  (mv:mg "table_rows"=Α (.ref fv)) (kv:Ϩ K (.ref fv)=Δ) (bv:Binds K dv ["table"] []) (Gv:EW P w K mg μ aL 5 fv dv ["table"] (iS c TC J)) (mh:ck K ys.Fb "history" fh) (bh:Binds K dh ["self"] []) (Gh:EW P w K mg μ aL 1 fh dh ["self"] (qw K ys)):
  EW P w K mg μ aL 6 f fd ["yard"] (lO K c TC J ys):=by
 refine F.ok TY λcdv A X s0 H vs Q E Z h=>?_
 obtain⟨a,s,wy,rfl,l,hAg,G,Fi,m,q⟩:=h
 have FI:Fj 1 _:=Z.mono (by decide)
 have G6:Fj 2 _:=Z.mono (by decide)
 refine⟨_,ad (aA (i:=1) TY.nd Λ (ό Λ) (au Gv Z Λ mv kv bv .nil aw (aa (ao (pv 0) Λ) ac)))
  (ad (aU (aZ plainAttrs_list PySem.F.slot_list_append PySem.F.type_list_append cy (pv 1) (aa (au Gr G6 Λ mr kr br .nil aw (aa (iY (ax v6 (bF (aa aD ac)) (ao (pv 0) Λ))) ac)) ac)))
  (ad (aU (aZ plainAttrs_list slot_list_extend type_list_extend eE (pv 1) (aa (aV (own:=["deed"]) (capN:=[]) (cap:=[]) bkYt Λ (bu (bY (pv 0) Y.cl mh Gh FI bh .nil aw))
   (λC s' j fp=>⟨aE (i:=0) ndYt Λ (ό Λ),bB,au Gr G6 Λ mr kr br .nil aw (aa (pv 0) ac)⟩)) ac)))
  (ah (az (aZ plainAttrs_str slot_str_join type_str_join eV aD (aa (pv 1) ac)))))),?_⟩
 have Hz:=λpr FZ=>cf l.T.G0 (Fi pr FZ)
 obtain⟨l1,l2⟩:=nH l.T.G0 l.T.F3 Hz G
 refine⟨a.y,ys.Fb,a.dy,_,_,Λ,l.Y.ρ,Y.cl,Y.n1,Λ,a.tb,a.lx,a.F1,a.lt,a.n,a.Fo,a.ps,a.wy,wy,Λ,l.T,hAg,Hz,G,λD M s1 hD gD=>?_⟩
 unfold yT mG at q
 generalize bD a.n a.ps wy=g at gD l1 l2 q
 refine⟨.inl ⟨Λ,_,EX.of gD⟩,λv j=>∃t,v=.ref t/\EU M j/\Fn K j t (.str (υ "rooms"):: s.rooms),?_,?_⟩
 ·refine⟨by show 1<=Τ;decide,λt ht=>?_⟩
  have u:=(EU.refl M).new (o:=.tup [.str (υ "rooms")]) ht
  have I:(ο M t (.tup [.str (υ "rooms")])) t=Α (.tup [.str (υ "rooms")]):=ET
  generalize ο M t (.tup [.str (υ "rooms")])=H2 at u I⊢
  have T8:=s1.trans u
  have Lp:=m.rooms.F3
  refine⟨a.y,ys.Fb,a.dy,_,_,Λ,T8 _ _ l.Y.ρ,Y.cl,Y.n2,Λ,t,a.ro,_,s.rooms,Λ,Λ,Fn.of I,bM T8 l.Y.hro,(by intro z;cases z),(by rw[Χ];rw[Ϛ]at Lp;show 1+s.rooms.length<=_;omega),(λe=>⟨t,Λ,u,?_⟩),λ_ p hp=>⟨p,Λ,u.new hp,Fn.of ET⟩⟩
  rw[e]
  exact Fn.of I
 rintro _ H2 ⟨t,rfl,u,I⟩
 refine⟨t,_,Λ,.inr I,m.rooms.wd,ώ m.rooms.F3 (by decide),(λv B=>ώ (m.rooms.len v B) (by decide)),λN s3=>?_⟩
 have TZ:=u.trans s3
 refine⟨D,_,_,Λ,Λ,TZ _ _ gD,by rw[Μ,Χ];omega,?_⟩
 have O:EU H (ο N D (.π (g.map V.str++[.str (fQ (.str (υ "rooms"):: s.rooms))]))):=λb o e=>by rw[af (ai e hD)];exact TZ _ _ (s1 _ _ e)
 have g4:(ο N D (.π (g.map V.str++[.str (fQ (.str (υ "rooms"):: s.rooms))]))) D=Α (.π ((g++[fQ (.str (υ "rooms"):: s.rooms)]).map V.str)):=by rw[ET,ϗ];rfl
 show rF _ _ _ _ (ο N D (.π (g.map V.str++[.str (fQ (.str (υ "rooms"):: s.rooms))])))
 generalize ο N D (.π (g.map V.str++[.str (fQ (.str (υ "rooms"):: s.rooms))]))=H4 at O g4⊢
 refine⟨.inl ⟨Λ,_,EX.of g4⟩,a.y,a.dy,_,Λ,O _ _ l.Y.ρ,Λ,a.y,a.dy,a.tb,a.ro,a.la,a.le,a.li,a.dn,s,Λ,Fq.same l.Y O,λth KJ H5 s5 hth R hP=>?_⟩
 refine⟨th,Λ,⟨_,EX.of R⟩,?_⟩
 have hPl:KJ.length=s.done.length:=Paired.length hP
 have LK:=m.many
 refine b8 s.done.length (by rw[Χ];omega) (λi acc j=>EU H5 j/\acc=((s.done.take i).map fQ).map V.str) ⟨EU.refl _,Λ⟩ (λi acc j h=>by rw[h.2,Μ,Μ];exact æ _ _) (λi acc j hi h=>?_) (λacc j h=>?_)
 ·obtain⟨r,rfl⟩:=h
  have Qy:=Ψ hi
  obtain⟨v,B,td,rfl,L⟩:=Paired.at2 hP Qy
  refine⟨⟨_,_,EX.of (r _ _ R),B⟩,λv' H7 y=>?_⟩
  obtain⟨rfl,y⟩:=y
  have HS:=y _ (EX.of (r _ _ R))
  rw[B]at HS
  cases HS
  have S:=m.done _ (ÿ hi)
  have HC:s.done.take (i+1)=s.done.take i++[s.done[i]]:=by rw[í,Qy];rfl
  generalize s.done[i]=d at S HC L
  refine⟨td,d,Λ,.inr (Fn.of (r _ _ L)),S.wd,ώ S.F3 (by decide),(λv B=>ώ (S.len v B) (by decide)),λH8 s8=>⟨r.trans s8,?_⟩⟩
  rw[HC,ϗ,ϗ]
  rfl
 obtain⟨r,rfl⟩:=h
 rw[Ó]
 refine⟨⟨_,EX.of (r _ _ R),by omega⟩,λU hE2=>?_⟩
 have s7:=r.new (o:=.π ((s.done.map fQ).map V.str)) hE2
 have g7:(ο j U (.π ((s.done.map fQ).map V.str))) U=Α (.π ((s.done.map fQ).map V.str)):=ET
 generalize ο j U (.π ((s.done.map fQ).map V.str))=H7 at s7 g7⊢
 have Oa:=s5.trans s7
 refine⟨D,U,_,_,Λ,Λ,Oa _ _ g4,g7,by rw[Μ,Μ,Μ,Ξ,Χ];show g.length+1+_<=_;omega,?_⟩
 rw[←ϗ]
 have s8:EU H (ο H7 D (.π (((g++[fQ (.str (υ "rooms"):: s.rooms)])++s.done.map fQ).map V.str))):=λb o e=>by rw[af (ai e hD)];exact Oa _ _ (O _ _ e)
 have g8:(ο H7 D (.π (((g++[fQ (.str (υ "rooms"):: s.rooms)])++s.done.map fQ).map V.str))) D=Α (.π (((g++[fQ (.str (υ "rooms"):: s.rooms)])++s.done.map fQ).map V.str)):=ET
 refine⟨Λ,newline,D,_,Λ,Λ,EX.of g8,?_,q _ s8⟩
 have b1:(g.map (·.length)).sum<=g.length* 500:=Ð _ l2
 have b2:((s.done.map fQ).map (·.length)).sum<=(s.done.map fQ).length* 2583:=Ð _ λy hy=>by obtain⟨d,hd,rfl⟩:=ϟ.mp hy;exact(m.done d hd).row
 have b3:=m.rooms.row
 rw[ϗ,ϗ,sum_append,sum_append,Ξ,Ξ]
 rw[Μ]at b2⊢
 show _+_+_+(g.length+1+s.done.length)* 1<=_
 simp only[ϳ,gM,Ł,List.sum_nil]
 omega
inductive Dd
 |post (p g:Nat) (l u:Int)|mv (m:Mv)
noncomputable def dC:Dd->List V
 |.post p g l u=>[.str "post",.int p,.int g,.int l,.int u]
 |.mv m=>iw m
def gd(a:YA)(s:YS):Dd->Prop
 |.post p g l u=>p<a.n/\g<a.n/\p≠g/\a.wy p g Β≠[]/\(1<=l/\l<=60)/\Qj (.int u)=Δ/\s.EV.length<60
 |.mv m=>m∈bQ a s
def GZ(a:YA)(s:YS)(d:Dd)(s':YS):Prop:=match d with
 |.post p g l u=>s'=pB s p g l u
 |.mv m=>∃s1,IG a s m s1/\s'={s1 with done:=s.done++[iw m]}
inductive Hn(a:YA)(rv:List V):List Dd->YS->Prop
 |nil:Hn a rv [] (Y0 rv a.n)
 |cons {ds:List Dd} {s s':YS} {d:Dd} (h:Hn a rv ds s) (l:gd a s d) (st:GZ a s d s'):Hn a rv (ds++[d]) s'
theorem IG.det(r:IG a s m s1)(h:IG a s m s2):s1=s2:=by
 cases r with
 | Gq i t u j v =>
  cases h with
  | Gq e l x f y =>
   rw[i]at e;cases e
   rw[j]at f;cases f
   rfl
 | on g n i u j v =>
  cases h with
  | on c b e x f y =>
   rw[g]at c;cases c
   rw[n]at b
   injection b with b
   injection b with d o
   have d:=ž d
   subst d o
   rw[i]at e;cases e
   rw[j]at f;cases f
   rfl
 | Hm g n i t z A =>
  cases h with
  | Hm c b e l p q =>
   rw[g]at c;cases c
   rw[n]at b
   injection b with b
   injection b with d o
   have d:=ž d
   subst d o
   rw[z]at p
   have B:=ž p
   subst B
   rw[A]at q;cases q
   rfl
 | back g C =>
  cases h with
  |back c D=>rw[g]at c;cases c;rfl
theorem GZ.det(b:GZ a s d s1)(c:GZ a s d s2):s1=s2:=by
 cases d with
 |post p g l u=>exact b.trans c.symm
 | mv m =>
  obtain⟨x,e,f⟩:=b
  obtain⟨y,h,i⟩:=c
  rw[f,i,e.det h]
theorem yk{a:Type}{l b:List a}{x y:a}(h:l++[x]=b++[y]):l=b/\x=y:=by
 have:=YO h Λ
 exact⟨this.1,by injection this.2⟩
theorem Hn.det:∀{b:List Dd}{s f:YS},Hn a rv b s->Hn a rv b f->s=f:=by
 intro b s f i
 induction i generalizing f with
 | nil =>
  intro c
  generalize e:([]:List Dd)=z at c
  cases c with
  |nil=>rfl
  |cons h l g=>exact Κ e.symm (by simp)
 | @cons b s s1 d h l g ih =>
  intro c
  generalize e:b++[d]=z at c
  cases c with
  |nil=>exact Κ e (by simp)
  | @cons ds2 t t' d2 h' l' Jo =>
   obtain⟨rfl,rfl⟩:=yk e
   have:=ih h'
   subst this
   exact g.det Jo
theorem Hn.at(h:Hn a rv ds s):∀{i:Nat}{d:Dd},ds[i]?=Α d->∃t,Hn a rv (ds.take i) t/\gd a t d:=by
 induction h with
 |nil=>intro i d h;cases h
 | @cons ds s s1 d h l st ih =>
  intro i e b
  by_cases f:i<ds.length
  ·rw[Õ f]at b
   obtain⟨t,g,j⟩:=ih b
   exact⟨t,by rw[List.take_append_of_le_length (by omega)];exact g,j⟩
  ·have c:i=ds.length:=by
    have:=(gQ0 b)
    rw[Ξ]at this
    have:i<ds.length+1:=this
    omega
   subst c
   rw[ic]at b
   cases b
   exact⟨s,by rw[TR];exact h,l⟩
theorem Hn.done(h:Hn a rv ds s):s.done=ds.map dC/\s.rooms=rv:=by
 induction h with
 |nil=>exact⟨Λ,Λ⟩
 | @cons ds s s1 d h l st ih =>
  rw[ϗ]
  cases d with
  | post p g l u =>
   cases st
   exact⟨by show s.done++_=_;rw[ih.1];rfl,ih.2⟩
  | mv m =>
   obtain⟨x,b,rfl⟩:=st
   exact⟨by show s.done++_=_;rw[ih.1];rfl,by show x.rooms=rv;rw[b.rooms];exact ih.2⟩
theorem GZ.LI(J:G5 a s)(l:gd a s d)(b:GZ a s d s'):G5 a s':=by
 cases d with
 | post p g j u =>
  cases b
  obtain⟨c,e,_,_,f,_,h⟩:=l
  exact J.post c e ⟨by omega,f.2⟩ h
 | mv m =>
  obtain⟨x,i,rfl⟩:=b
  exact(J.step i).done _
theorem Hn.to(r:a'.ps=a.ps)(t:a'.wy=a.wy)(v:a'.n=a.n)(h:Hn a rv ds s):Hn a' rv ds s:=by
 obtain⟨y,Q,tb,R,S,le,T,U,X,Y,lt,n,Z,ps,wy⟩:=a
 obtain⟨y',A,B,C,D,E,F,G,H,z,I,n',Kd,HE,Wl⟩:=a'
 simp only at r t v
 subst r t v
 induction h with
 |nil=>exact .nil
 | @cons ds s s1 d h l st ih =>
  refine .cons ih ?_ ?_
  ·cases d with
   |post p g J u=>exact l
   |mv m=>exact l
  ·cases d with
   |post p g J u=>exact st
   | mv m =>
    obtain⟨x,L,e⟩:=st
    refine⟨x,?_,e⟩
    cases L with
    |Gq b f i j o=>exact .Gq b f i j o
    |on c q b i j o=>exact .on c q b i j o
    |Hm c q b f M N=>exact .Hm c q b f M N
    |back c O=>exact .back c O
def AJ:Dd->Prop
 |.post p g l u=>p<100/\g<100/\(1<=l/\l<=60)/\u.natAbs<10^60
 |.mv (.Gq k l)=>k<100/\l<100
 |.mv (.on k l)=>k<100/\l<100
 |.mv (.Hm k)=>k<100
 |.mv (.back k)=>k<100
theorem wdI(h:i.natAbs<10^60):Wd (.int i)/\(wT (.int i)).length<=62/\AD (wT (.int i)):=by
 have a:i.natAbs.log2<1920:=by have:=lX h;rw[ó]at this;exact this
 refine⟨.int _ a,?_⟩
 rcases lt_or_le i 0 with b|b
 ·obtain⟨k,rfl⟩:∃k:Nat,i= -((k+1:Nat):Int):=⟨(-i - 1).toNat,by omega⟩
  have c:k+1<10^60:=by rw[Qt,ó]at h;exact h
  rw[qg]
  refine⟨?_,?_⟩
  ·rw[fA,show(⟨#[45]⟩:Str).length=1 from Λ]
   have:=dS (m:=k+1) (k:=60) (by decide) c
   omega
  ·obtain⟨d,f⟩:=eK (k+1)
   have e:tl (⟨#[45]⟩++al (k+1))=45:: tl (al (k+1)):=gf _ _
   refine⟨?_,?_⟩
   ·rw[e];intro z;rcases ύ.mp z with z|z
    ·cases z
    ·exact d z
   ·rw[e];intro z;rcases ύ.mp z with z|z
    ·cases z
    ·exact f z
 ·obtain⟨m,rfl⟩:=Ï b
  rw[ó]at h
  exact⟨ώ (dS (k:=60) (by decide) h) (by decide),eK m⟩
theorem AQ{k:Nat}(h:k<100):Wd (.int (k:Int))/\(wT (.int (k:Int))).length<=62/\AD (wT (.int (k:Int))):=wdI (by rw[ó];exact ø h (by decide))
theorem Q0(a:x.length<=62)(b:10∉tl x)(c:32∉tl x):Wd (.str x)/\(wT (.str x)).length<=62/\AD (wT (.str x)):=⟨.str x,a,b,c⟩
theorem sQ(h:AJ d):(∀v∈dC d,Wd v/\(wT v).length<=62/\AD (wT v))/\(dC d).length<=5:=by
 cases d with
 | post p g l u =>
  obtain⟨b,c,f,e⟩:=h
  refine⟨λv a=>?_,by show 5<=5;decide⟩
  simp only[dC,ύ,ϡ,or_false]at a
  rcases a with rfl|rfl|rfl|rfl|rfl
  ·exact Q0 (by decide) (by decide) (by decide)
  ·exact AQ b
  ·exact AQ c
  ·exact wdI (ß (show l.natAbs<=60 by omega) (by decide))
  ·exact wdI e
 | mv m =>
  cases m with
  | Gq k l =>
   refine⟨λv a=>?_,by show 3<=5;decide⟩
   simp only[dC,iw,ύ,ϡ,or_false]at a
   rcases a with rfl|rfl|rfl
   ·exact Q0 (by decide) (by decide) (by decide)
   ·exact AQ h.1
   ·exact AQ h.2
  | on k l =>
   refine⟨λv a=>?_,by show 3<=5;decide⟩
   simp only[dC,iw,ύ,ϡ,or_false]at a
   rcases a with rfl|rfl|rfl
   ·exact Q0 (by decide) (by decide) (by decide)
   ·exact AQ h.1
   ·exact AQ h.2
  | Hm k =>
   refine⟨λv a=>?_,by show 2<=5;decide⟩
   simp only[dC,iw,ύ,ϡ,or_false]at a
   rcases a with rfl|rfl
   ·exact Q0 (by decide) (by decide) (by decide)
   ·exact AQ h
  | back k =>
   refine⟨λv a=>?_,by show 2<=5;decide⟩
   simp only[dC,iw,ύ,ϡ,or_false]at a
   rcases a with rfl|rfl
   ·exact Q0 (by decide) (by decide) (by decide)
   ·exact AQ h
theorem Hn.LI(b:G5 a (Y0 rv a.n))(h:Hn a rv ds s):G5 a s:=by
 induction h with
 |nil=>exact b
 |cons h l c d=>exact c.LI d l
theorem cb{a:Type}{l:List a}{x:a}(h:l[i]?=Α x):i<l.length:=(gQ0 h)
theorem El(h:Qj (.int u)=Δ):u.natAbs<10^60:=by
 have h:(if u<0 then -u else u)<10^60:=of_decide_eq_true h
 split at h<;>omega
theorem GZ.Nc(J:G5 a s)(v:a.n<=12)(l:gd a s d)(f:GZ a s d s'):AJ d:=by
 have y:=J.F3
 have z:=J.KN
 have A:=J.γ
 cases d with
 | post p g B u =>
  obtain⟨C,D,_,_,h,i,_⟩:=l
  exact⟨by omega,by omega,h,El i⟩
 | mv m =>
  obtain⟨x,j,_⟩:=f
  cases j with
  |Gq c o q e r=>exact⟨by have:=cb c;omega,by have:=cb e;omega⟩
  |on b t c q e r=>exact⟨by have:=cb b;omega,by have:=cb e;rw[Ĵ]at this;omega⟩
  |Hm b t c o E F=>show _<100;have:=cb b;omega
  |back b G=>show _<100;have:=cb b;omega
theorem Hn.Nc(c:G5 a (Y0 rv a.n))(f:a.n<=12)(h:Hn a rv ds s):∀d∈ds,AJ d:=by
 induction h with
 |nil=>intro d g;cases g
 | @cons ds s s1 d h l st ih =>
  intro e b
  rcases ϝ.mp b with b|b
  ·exact ih e b
  ·rw[ϋ.mp b];exact st.Nc (h.LI c) f l
noncomputable def rp(d:Dd):List Str:=(dC d).map wT
noncomputable def dV(x:Str)(ms:List Str):List V:=tO x (ms.map im)
inductive um(P:Program)(w:À)(K:Ϣ)(c:Cs)(ts:Ts)(xc:Xc)(ys:Ys)(vs:List V)(H:Hp)(Q:VK)(E:XK):Prop
 | mk (a:YA) (s:YS) (wa:Ν) (x:Str) (ms:List Str) (_:vs=[.ref a.y,.ref wa]) (_:HP K c ts.told (Ff P w ts) ys H a s) (_:H wa=Α (.π ((x:: ms).map V.str))) (_:ms.length<=90) (_:∀u∈ms,u.length<=1000000) (_:õ x=Δ) (_:VT s) (_:s.done.length<=10000) (_:s.EV.length<60)
  (_:(∀d,gd a s d->dC d≠dV x ms)->Rf K xc E H) (_:∀d,gd a s d->dC d=dV x ms->∀(H':Hp)(s':YS),GZ a s d s'->Fm a.four H H'->Gj K ys H' a s'->Q .Fp H')
noncomputable def CU(s:Ã):Scope:=match s with
 |.Assign _ (.Call _ [.BinOp _ _ (.ListComp _ _ sc _) _] _ _) _=>sc
 |_=>du
abbrev NDe:List Str:=["yard","words","deed"]
noncomputable def ly:Dd->List Int
 |.post p g l u=>[p,g,l,u]
 |.mv (.Gq k l)=>[k,l]
 |.mv (.on k l)=>[k,l]
 |.mv (.Hm k)=>[k]
 |.mv (.back k)=>[k]
noncomputable def xp:Dd->Str
 |.post _ _ _ _ => "post"
 |.mv (.Gq _ _) => "in"
 |.mv (.on _ _) => "on"
 |.mv (.Hm _) => "lie"
 |.mv (.back _) => "back"
theorem CG(m:Mv):decide (V.str (xp (.mv m))=V.str (υ "post"))=Ε:=by
 cases m with
 |Gq k l=>exact fE (x:=υ "in") (by decide)
 |on k l=>exact fE (x:=υ "on") (by decide)
 |Hm k=>exact fE (x:=υ "lie") (by decide)
 |back k=>exact fE (x:=υ "back") (by decide)
theorem fJ(d:Dd):dC d=.str (xp d):: (ly d).map V.int:=by
 cases d with
 |post p g l u=>rfl
 |mv m=>cases m<;>rfl
theorem uX(h:AJ d):(∀i∈ly d,i.natAbs<10^60)/\(ly d).length<=4:=by
 have small:∀k:Nat,k<100->((k:Int)).natAbs<10^60:=λk b=>by rw[ó];exact ø b (by decide)
 cases d with
 | post p g l u =>
  obtain⟨c,e,j,f⟩:=h
  refine⟨λi a=>?_,by show 4<=4;decide⟩
  simp only[ly,ύ,ϡ,or_false]at a
  rcases a with rfl|rfl|rfl|rfl
  ·exact small p c
  ·exact small g e
  ·exact ß (show i.natAbs<=60 by omega) (by decide)
  ·exact f
 | mv m =>
  cases m with
  | Gq k l =>
   refine⟨λi a=>?_,by show 2<=4;decide⟩
   simp only[ly,ύ,ϡ,or_false]at a
   rcases a with rfl|rfl
   ·exact small k h.1
   ·exact small l h.2
  | on k l =>
   refine⟨λi a=>?_,by show 2<=4;decide⟩
   simp only[ly,ύ,ϡ,or_false]at a
   rcases a with rfl|rfl
   ·exact small k h.1
   ·exact small l h.2
  |Hm k=>exact⟨λi a=>by simp only[ly,ύ,ϡ,or_false]at a;subst a;exact small k h,by show 1<=4;decide⟩
  |back k=>exact⟨λi a=>by simp only[ly,ύ,ϡ,or_false]at a;subst a;exact small k h,by show 1<=4;decide⟩
theorem vy(j:s.EV.length<60)(h:DN a.n a.wy sv gv lv wv=Δ):∃p g l u,sv=.int (p:Nat)/\gv=.int (g:Nat)/\lv=.int l/\wv=.int u/\gd a s (.post p g l u):=by
 unfold DN at h
 simp only[ϫ,ă,decide_eq_false_iff_not,not_or]at h
 obtain⟨c,d,e,f,i,b⟩:=h
 obtain⟨p,rfl⟩:=hZ c
 obtain⟨g,rfl⟩:=hZ d
 obtain⟨l,rfl⟩:=hZ e
 obtain⟨u,rfl⟩:∃u,wv=.int u:=by
  cases wv<;>first|exact⟨_,Λ⟩|cases f
 have m:=of_decide_eq_true c
 have o:=of_decide_eq_true d
 obtain⟨p,rfl⟩:=Ï m.1
 obtain⟨g,rfl⟩:=Ï o.1
 have i:¬(p:Int)=(g:Int):=i
 have b:¬a.wy ((p:Int)).toNat ((g:Int)).toNat Β=[]:=b
 rw[Ϙ,Ϙ]at b
 exact⟨p,g,l,u,Λ,Λ,Λ,Λ,by omega,by omega,by omega,b,of_decide_eq_true e,f,j⟩
theorem Ub:ap NDe ["yard","words"] (ag rV):=L2.F4
theorem bkDe:FQ NDe (ag rV) (CU ((aJ rV).getD 0 (.Pass ⟨0,0,0,0⟩))) [] []:=L2.GR
theorem ndDe:(["word"]:List Str).Nodup:=by decide +kernel
theorem BO(F:F0 K "do_deed" "do_deed" rV f fd)(T:Txt mg)(Y:mB K ys)(W:Wy K ts.told fw dw (Ff P w ts))(mS:mg "signed_of"=Α (.ref fs))(ks:Ϩ K (.ref fs)=Δ)(bs:Binds K ds ["word"] [])(Gs:EW P w K mg μ aL 2 fs ds ["word"] mX)
  (mp:ck K ys.Fb "post" fp) (bp:Binds K dp EN []) (Gp:EW P w K mg μ (ix P w) 4 fp dp EN (qr K c xc ts.told (Ff P w ts) ys)) (mo:ck K ys.Fb "do" fo) (bo:Binds K Uc ["self","move"] []) (Go:EW P w K mg μ (ix P w) 8 fo Uc ["self","move"] (yh K c xc ts.told (Ff P w ts) ys)):
  EW P w K mg μ (ix P w) 9 f fd ["yard","words"] (um P w K c ts xc ys):=by
 refine F.KD Ub (λvs H Q E h=>?_) (λcdv A outer s0 H vs Q E hr h=>?_)
 ·obtain⟨a,s,G,x,r,rfl,_⟩:=h
  rfl
 ·obtain⟨a,s,G,x,r,rfl,hI,M,hm9,Pb,hx,hS,HI,Ud,hE,q⟩:=h
  have G6:Fj 2 _:=hr.mono (by decide)
  have J8:Fj 4 _:=hr.mono (by decide)
  refine⟨_,ad (aA (i:=2) Ub.nd Λ (ό Λ) (aS dJ Λ T.tuple PySem.Pv.boot_tuple (aa (ax bP (aP (aa (ay aB (pv 1) ae (λ_ _=>rfl)) ac)) (aV (own:=["word"]) (capN:=[]) (cap:=[]) bkDe Λ (bu (aX bJ (pv 1) (bz ae) bC))
    (λC s' H' fp=>⟨aE (i:=0) ndDe Λ (ό Λ),bB,au Gs G6 Λ mS ks bs .nil aw (aa (pv 0) ac)⟩))) ac)))
   (ah (aN (PW.pt (fR (ak aQ (ay aB (pv 1) ae (λ_ _=>rfl)) aD (aq _)) (dR (ak aQ (aF aC Λ T.len PySem.boot_len (aa (pv 1) ac)) ae (aq _)))))
    (ah (aU (aM (pv 0) Y.cl mp Gp J8 bp .nil (Fg.passes Λ) (aa (ay aK (pv 2) ae (λ_ _=>rfl)) (aa (ay aK (pv 2) ae (λ_ _=>rfl)) (aa (ay aK (pv 2) ae (λ_ _=>rfl)) (aa (ay aK (pv 2) ae (λ_ _=>rfl)) ac)))))))
    (ah (aU (aM (pv 0) Y.cl mo Go hr bo .nil (Fg.passes Λ) (aa (pv 2) ac)))))),?_⟩
  have M:H G=Α (.π (V.str x:: r.map V.str)):=M
  refine⟨G,_,0,_,Λ,Λ,EX.of M,aj (j:=0) Λ,by show 1<=Τ;decide,λZ NU=>?_⟩
  have s1:=(EU.refl H).new (o:=.π [.str x]) NU
  have g1:(ο H Z (.π [.str x])) Z=Α (.π [.str x]):=ET
  generalize ο H Z (.π [.str x])=H1 at s1 g1⊢
  refine⟨1,Λ,G,_,Λ,EX.of (s1 _ _ M),λD hD=>?_⟩
  have ec:dH (V.str x:: r.map V.str) (Α 1) Β=r.map V.str:=k9 1 [V.str x] _ Λ
  rw[ec]
  have s2:=s1.new (o:=.π (r.map V.str)) hD
  have Ip:=(EU.refl H1).new (o:=.π (r.map V.str)) hD
  have g2:(ο H1 D (.π (r.map V.str))) D=Α (.π (r.map V.str)):=ET
  refine⟨D,Λ,⟨_,EX.of g2⟩,?_⟩
  dsimp only
  generalize ο H1 D (.π (r.map V.str))=H2 at s2 Ip g2⊢
  refine ij (K:=K) (F:=im) (R:=iV) (by omega) g2 (λi u O N hu s5 hN=>⟨u,Λ,Pb u (Ϫ hu),λH7 s7=>hN _ s7⟩) λo2 H3 s3 Hv=>?_
  have s4:=(s2.trans s3).new (o:=.π ((r.map im).map iV)) Hv
  have Mo:=s3.new (o:=.π ((r.map im).map iV)) Hv
  have g4:(ο H3 o2 (.π ((r.map im).map iV))) o2=Α (.π ((r.map im).map iV)):=ET
  generalize ο H3 o2 (.π ((r.map im).map iV))=H4 at s4 Mo g4⊢
  refine⟨Z,o2,_,_,Λ,Λ,Mo _ _ (Ip _ _ g1),g4,by rw[Μ,Μ,Χ];show 1+_<=_;omega,λS Pa=>?_⟩
  have s5:=s4.new (o:=.π (dV x r)) Pa
  have g5:(ο H4 S (.π (dV x r))) S=Α (.π (dV x r)):=ET
  change _
  generalize hH5:ο H4 S (.π ([V.str x]++(r.map im).map iV))=O
  rw[show ο H4 S (.π (dV x r))=O from hH5]at s5 g5
  refine⟨S,dV x r,Λ,.inl ⟨EX.of g5,λt htd=>?_⟩⟩
  have I:=s5.new (o:=.tup (dV x r)) htd
  have B:(ο O t (.tup (dV x r))) t=Α (.tup (dV x r)):=ET
  generalize ο O t (.tup (dV x r))=H6 at I B⊢
  have J:=hI.same W I
  have Ue:=I _ _ M
  have U:=λh=>(hE h).same I
  refine⟨G,_,0,_,Λ,Λ,EX.of Ue,aj (j:=0) Λ,Λ,_,Λ,?_⟩
  have Ug:¬(V.str x=V.str (υ "post")/\r.length=4)->yh K c xc ts.told (Ff P w ts) ys [.ref a.y,.ref t] H6 (λv H'=>Q .Fp H') E:=λGu=>by
   refine⟨a,s,t,x,r.map im,Λ,J,B,by rw[Μ];exact hm9,hx,hS,λhn=>U λd X e=>?_,λm hm em H7 s7 st off Nd=>?_⟩
   ·cases d with
    | post p g l u =>
     refine Gu ⟨(Φ e).1.symm,?_⟩
     have:=congrArg ê (Φ e).2
     rw[Μ,Μ]at this
     exact this.symm
    |mv m=>exact hn m X e
   ·exact q (.mv m) hm em H7 _ ⟨s7,st,Λ⟩ (λb o nb e=>off b o nb (I _ _ e)) Nd
  cases h1:decide (V.str x=V.str (υ "post")) with
  |false=>exact aH (aH ⟨a.y,a.dy,_,Λ,J.Y.ρ,Λ,Ug λz=>of_decide_eq_false h1 z.1⟩)
  |true =>
  refine aI ⟨G,_,Λ,.inl (EX.of Ue),Λ,_,Λ,?_⟩
  by_cases L:r.length=4
  rotate_left
  ·rw[Η (λz=>L (by injection z with z;rw[Ϛ,Μ]at z;omega))]
   exact aH ⟨a.y,a.dy,_,Λ,J.Y.ρ,Λ,Ug λz=>L z.2⟩
  rw[Ζ (show V.int ((V.str x:: r.map V.str).length:Nat)=V.int 5 by rw[Ϛ,Μ,L];rfl)]
  have hxp:=V.str.inj (of_decide_eq_true h1)
  subst hxp
  match r,L with
  |[m1,m2,m3,m4],_ =>
  have B:=B
  have sc:∀o:Option Int,tH (iV o):=λo=>by
   cases o
   ·exact .Fp
   ·exact .int _
  refine aI ⟨a.y,a.dy,_,Λ,J.Y.ρ,Λ,t,_,1,_,Λ,Λ,Fn.of B,aj (j:=1) Λ,t,_,2,_,Λ,Λ,Fn.of B,aj (j:=2) Λ,t,_,3,_,Λ,Λ,Fn.of B,aj (j:=3) Λ,t,_,4,_,Λ,Λ,Fn.of B,aj (j:=4) Λ,
   a.y,a.dy,a.tb,a.ro,a.la,a.le,a.li,a.dn,a.lx,a.F1,a.lt,a.n,a.Fo,a.ps,a.wy,s,_,_,_,_,Λ,J.Y,J.T,sc _,sc _,sc _,sc _,Ud,HI,λhb=>U λd X e=>?_,λhg H7 off Nd=>?_⟩
  ·cases d with
   | post p g l u =>
    obtain⟨h1,L,h3,h4,h5,h7,h8⟩:=X
    have e1:=(Φ (Φ e).2).1
    have e2:=(Φ (Φ (Φ e).2).2).1
    have e3:=(Φ (Φ (Φ (Φ e).2).2).2).1
    have e4:=(Φ (Φ (Φ (Φ (Φ e).2).2).2).2).1
    rw[←e1,←e2,←e3,←e4,rY (n:=a.n) (wy:=a.wy) h1 L h5 h7 h3 h4]at hb
    cases hb
   |mv m=>exact of_decide_eq_false (CG m) ((Φ ((fJ (.mv m)).symm.trans e)).1)
  ·obtain⟨p,g,l,u,e1,e2,e3,e4,X⟩:=vy Ud hg
   have e:dC (.post p g l u)=dV (υ "post") [m1,m2,m3,m4]:=by
    show [V.str "post",.int p,.int g,.int l,.int u]=[V.str "post",iV (im m1),iV (im m2),iV (im m3),iV (im m4)]
    rw[e1,e2,e3,e4]
   rw[e1,e2,e3,e4]at Nd
   refine q _ X e H7 _ Λ (λb o nb e=>off b o (λz=>nb ?_) (I _ _ e)) Nd
   simp only[ύ,ϡ,or_false]at z⊢
   rcases z with z|z
   ·exact .inr (.inl z)
   ·exact .inr (.inr (.inr z))
noncomputable def nJ(rm:List Nat):List Str:=υ "rooms":: rm.map al
noncomputable def yW(n:Nat)(ps:List (Int×Int))(wy:cx->Nat)(rm:List Nat)(ds:List Dd):List (List Str):=bj n ps wy++[nJ rm]++ds.map rp
structure GO(n:Nat)(ps:List (Int×Int))(rs:List Rw)(rm:List Nat)(ds:List Dd)(s:YS):Prop where
 G0:1<=n/\n<=12
 F3:ps.length<=40
 HZ:∀q∈ps,gQ n q=Δ
 fit:xB n ps rs
 Uh:rm.length=ps.length
 Wm:∀r∈rm,1<=r/\r<=60
 LL:∃a0:YA,a0.ps=ps/\a0.wy=oZ rs/\a0.n=n/\Hn a0 (nV rm) ds s
 many:ds.length<=100
theorem GO.pairs(h:GO n ps rs rm ds s):∀c∈ps,∃a b:Nat,c=((a:Int),(b:Int))/\a<12/\b<12:=λc d=>cf h.G0.2 (h.HZ c d)
theorem GO.Nc(h:GO n ps rs rm ds s):∀d∈ds,AJ d:=by
 obtain⟨b,a,f,c,t⟩:=h.LL
 refine t.Nc ?_ (by rw[c];exact h.G0.2)
 have e:(nV rm).length=b.ps.length:=by rw[eC,h.Uh,a]
 exact(T2 e).LI (Ä _) (by rw[a];exact h.F3)
theorem GO.done(h:GO n ps rs rm ds s):s.done=ds.map dC/\s.rooms=nV rm:=by
 obtain⟨a,b,c,d,t⟩:=h.LL
 exact t.done
theorem GO.rds(h:GO n ps rs rm ds s):Rds s:=by
 obtain⟨c,e⟩:=h.done
 have b:∀v∈V.str (υ "rooms"):: s.rooms,Wd v/\(wT v).length<=62/\AD (wT v):=λv a=>by
  rcases ύ.mp a with rfl|a
  ·exact Q0 (by decide) (by decide) (by decide)
  ·rw[e]at a
   obtain⟨r,b,rfl⟩:=iF a
   exact AQ (by have:=h.Wm r b;omega)
 refine⟨⟨λv a=>(b v a).1,λv a=>(b v a).2.1,?_⟩,λd f=>?_,?_⟩
 ·rw[Ϛ,e,eC,h.Uh];have:=h.F3;omega
 ·rw[c]at f
  obtain⟨x,i,rfl⟩:=ϟ.mp f
  obtain⟨g,j⟩:=sQ (h.Nc x i)
  exact⟨λv a=>(g v a).1,λv a=>(g v a).2.1,by omega⟩
 ·rw[c,Μ];exact h.many
theorem AS(a:List Nat):(nV a).map wT=a.map al:=by unfold nV;rw[Á];rfl
theorem lJ(h:GO n ps rs rm ds s):mG n ps (av rs) s=(yW n ps (av rs) rm ds).map (Txt.join blank):=by
 obtain⟨a,b⟩:=h.done
 unfold mG yW
 rw[iW (bT h.fit),ϗ,ϗ,a,Á,Á]
 congr 1
 congr 1
 unfold fQ nJ
 rw[ϳ,b,AS]
 rfl
theorem xC(h:GO n ps rs rm ds s):∀ws∈yW n ps (av rs) rm ds,ws≠[]/\(∀x∈ws,AD x)/\ws.length<=100:=by
 intro ws a
 rcases ϝ.mp a with a|a
 ·rcases ϝ.mp a with a|a
  ·obtain⟨c,f⟩:=mH h.pairs ws a
   refine⟨c,f,?_⟩
   rcases ϝ.mp a with a|a
   ·rcases ϝ.mp a with a|a
    ·rw[ϋ.mp a];show 2<=100;decide
    ·obtain⟨l,_,e⟩:=ϟ.mp a
     rw[←e];show 3<=100;decide
   ·obtain⟨r,g,e⟩:=ϟ.mp a
    rw[←e]
    unfold c8 fP
    rw[Ϛ,Ξ,Μ]
    obtain⟨k,o,rfl⟩:=ϟ.mp g
    have:=(bT h.fit).F3 (bO k)
    have:=h.F3
    show 3+(wl (av rs) (bO k)).length+1<=100
    omega
  ·rw[ϋ.mp a]
   refine⟨ň _ _,λx b=>?_,?_⟩
   ·rcases ύ.mp b with rfl|b
    ·exact⟨by decide,by decide⟩
    ·obtain⟨m,_,rfl⟩:=ϟ.mp b
     exact eK m
   ·unfold nJ
    rw[Ϛ,Μ,h.Uh]
    have:=h.F3
    omega
 ·obtain⟨d,i,rfl⟩:=ϟ.mp a
  obtain⟨c,f⟩:=sQ (h.Nc d i)
  refine⟨?_,λx b=>?_,?_⟩
  ·unfold rp
   rw[fJ]
   exact ň _ _
  ·obtain⟨v,j,rfl⟩:=ϟ.mp b
   exact(c v j).2.2
  ·unfold rp
   rw[Μ]
   omega
theorem Ui(h:GO n ps rs rm ds s):
  Txt.split (yT n ps (av rs) s) newline=mG n ps (av rs) s/\(mG n ps (av rs) s).map (λr=>Txt.split r blank)=yW n ps (av rs) rm ds:=by
 have c:=xC h
 constructor
 ·refine cC (by decide) (λz=>by rw[lJ h]at z;exact Κ (ĥ.mp z) (by unfold yW;simp)) λy a=>?_
  rw[lJ h]at a
  obtain⟨ws,b,rfl⟩:=ϟ.mp a
  show 10∉tl (Txt.join ⟨#[32]⟩ ws)
  rw[eN]
  refine mz (by decide) λp d=>?_
  obtain⟨x,e,rfl⟩:=ϟ.mp d
  exact((c ws b).2.1 x e).1
 ·rw[lJ h,Á]
  refine(Æ λws b=>?_).trans (ŋ _)
  exact cC (by decide) (c ws b).1 λy a=>((c ws b).2.1 y a).2
theorem lK(h:xB n ps rs):oZ (bc n ps (av rs))=oZ rs:=by
 funext p g c
 show wl (av (bc n ps (av rs))) (bO ((p:Int),(g:Int),c))=wl (av rs) (bO ((p:Int),(g:Int),c))
 by_cases a:p<n/\g<n/\c∈bR ps p
 ·exact vY (bT h) a.1 a.2.1 a.2.2
 ·have out:∀b:List Rw,xB n ps b->wl (av b) (bO ((p:Int),(g:Int),c))=[]:=λb i=>by
   refine wh.mpr λz j=>a ?_
   obtain⟨r,e,_⟩:=Ii.mp j
   obtain⟨x,y,l,m,_,t,u,f⟩:=i.key r (fq e)
   have d:jj r=((p:Int),(g:Int),c):=iE (kc e)
   have v:r.p=p:=congrArg (·.1) d
   have A:r.g=g:=congrArg (·.2.1) d
   have o:r.c=c:=congrArg (·.2.2) d
   have q:x=p:=by omega
   have s:y=g:=by omega
   subst q s
   rw[o]at f
   exact⟨l,m,f⟩
  rw[out _ (qI (bT h)),out _ h]
theorem Ab:∀x∈bj n ps wy,decide (V.str (x.headD blank)=V.str (υ "rooms"))=Ε:=by
 intro x a
 rcases ϝ.mp a with a|a
 ·rcases ϝ.mp a with a|a
  ·rw[ϋ.mp a];exact fE (x:=υ "places") (by decide)
  ·obtain⟨b,_,rfl⟩:=ϟ.mp a
   exact fE (x:=Fu) (by decide)
 ·obtain⟨r,_,rfl⟩:=ϟ.mp a
  exact fE (x:=ω) (by decide)
theorem Hn.lets(h:Hn a rv ds s):s.EV.length<=ds.length:=by
 induction h with
 |nil=>exact ϛ _
 | @cons ds s s1 d h l st ih =>
  rw[Ξ,ú]
  cases d with
  | post p g l u =>
   cases st
   show(s.EV++[_]).length<=_
   rw[Ξ,ú];omega
  | mv m =>
   obtain⟨x,b,rfl⟩:=st
   rw[b.len];omega
noncomputable def ir(y:List Str):Bool:=decide (V.str (y.headD blank)=V.str (υ "rooms"))
structure At(ws:List (List Str))(i:Nat):Prop where
 pos:0<i
 is:∃y,ws[i]?=Α y/\ir y=Δ
 no:∀j y,0<j->j<i->ws[j]?=Α y->ir y=Ε
theorem At.uniq(h:At ws i)(a:At ws j):i=j:=by
 rcases Rl i j with z|z|z
 ·obtain⟨y,e,r⟩:=h.is
  rw[a.no i y h.pos z e]at r;cases r
 ·exact z
 ·obtain⟨y,e,r⟩:=a.is
  rw[h.no j y a.pos z e]at r;cases r
inductive kK(K:Ϣ)(xc:Xc)(vs:List V)(H:Hp)(Q:VK)(E:XK):Prop
 |mk (D:Ν) (us:List V) (ws:List (List Str)) (_:vs=[.ref D]) (_:H D=Α (.π us)) (_:FH H us ws) (_:∀y∈ws,y≠[]) (_:(∀i,¬At ws i)->Rf K xc E H) (_:∀i,At ws i->∀H',EU H H'->Q (.int i) H')
abbrev NRa:List Str:=["rows","number","words"]
theorem Pk:ap NRa ["rows"] (ag nD):=L2.F4
theorem uH(F:F0 K "rooms_at" "rooms_at" nD f fd)(T:Txt mg)(X:tJ K mg xc.yc "NoText" xc.tx):EW P w K mg μ (ix P w) 1 f fd ["rows"] (kK K xc):=by
 refine F.KD Pk (λU H Q E h=>?_) (λcdv A o s0 H U Q E hr h=>?_)
 ·obtain⟨D,us,ws,rfl,_⟩:=h
  rfl
 ·obtain⟨D,us,ws,rfl,G,I,Y,Z,q⟩:=h
  refine⟨_,ad (cF lT Λ (nQ Λ T.enum (aa (pv 0) ac)) (jz Λ (bX (aE (i:=1) Pk.nd Λ (ό Λ)) (bX (aE (i:=2) Pk.nd Λ (ό Λ)) gZ)))
    (ah (aN (PW.pt (fR (ak jW (pv 1) ae (aq _)) (dR (ak aQ (ay aB (pv 2) ae (λ_ _=>rfl)) aD (aq _))))) (ah (az (pv 1))) aG)))
   (ah (cu Λ X.x Fg (dF X.x X.k Λ Λ X.m (aa aD ac)))),?_⟩
  have J:=Paired.length I
  refine⟨D,Λ,⟨_,EX.of G⟩,oG (sq:=λH=>EX K H D) (xs:=us) (λi g c=>∃(a b:Option V),EU H c/\(∀j y,0<j->j<i->ws[j]?=Α y->ir y=Ε)/\g=[Α (.ref D),a,b]) ⟨Β,Β,EU.refl _,λj y _ h=>Κ h (Yh _),Λ⟩ (λi g c _ Fc=>by obtain⟨_,_,s,_⟩:=Fc;exact EX.of (s _ _ G)) ?_ ?_⟩
  ·rintro i v p g c L ⟨a,b,t,l,rfl⟩ z
   have d:i<ws.length:=by have:=cb L;omega
   have B:=Ψ d
   obtain⟨v',M,u,rfl,gu⟩:=FH.get I B
   rw[L]at M
   cases M
   have N:EU c (ο c p (.tup [.int i,.ref u])):=(EU.refl c).new z
   refine⟨p,_,Λ,Fn.of ET,Λ,_,_,Λ,_,_,Λ,Λ,?_⟩
   generalize ο c p (.tup [.int i,.ref u])=H4 at N⊢
   have n:=t.trans N
   refine⟨_,_,Λ,Λ,_,Λ,?_⟩
   by_cases Uj:i=0
   ·subst Uj
    exact aH (aH ⟨_,_,n,λj y O h2=>by omega,Λ⟩)
   rw[Ζ (show (0:Int)<(i:Int) by omega)]
   refine aI ⟨u,_,0,_,Λ,Λ,EX.of (n _ _ gu),qW (Y _ (ÿ d)),Λ,_,Λ,?_⟩
   cases R:decide (V.str (ws[i].headD blank)=V.str (υ "rooms")) with
   |true=>exact aI (q i ⟨by omega,⟨_,B,R⟩,l⟩ H4 n)
   | false =>
    refine aH ⟨_,_,n,λj y O h2 C=>?_,Λ⟩
    by_cases e:j=i
    ·subst e
     rw[B]at C
     cases C
     exact R
    ·exact l j y O (by omega) C
  ·rintro g c ⟨a,b,t,l,rfl⟩
   refine⟨by show 1<=Τ;decide,Z (λi S=>?_) _ _ _ X.e t⟩
   obtain⟨y,e,r⟩:=S.is
   rw[l i y S.pos (by have:=cb e;omega) e]at r
   cases r
noncomputable def tG:List Str->List V
 |x:: ms=>dV x ms
 |[]=>[]
structure JR(ws:List (List Str))(i n:Nat)(ps:List (Int×Int))(rs:List Rw)(Fl:List V)(ds:List Dd)(s:YS):Prop where
 at_:At ws i
 tab:Jd (ws.take i) n ps rs
 rv:Fl=(((ws.getD i []).drop 1).map eU).map oV
 okr:pf ps.length Fl=Δ
 Wn:(ws.drop (i+1)).map tG=ds.map dC
 LL:∃a0:YA,a0.ps=ps/\a0.wy=oZ rs/\a0.n=n/\Hn a0 Fl ds s
inductive nh(P:Program)(w:À)(K:Ϣ)(c:Cs)(ts:Ts)(xc:Xc)(ys:Ys)(vs:List V)(H:Hp)(Q:VK)(E:XK):Prop
 | mk (D:Ν) (us:List V) (ws:List (List Str)) (ex:List Ν) (_:vs=[.ref D]) (_:H D=Α (.π us)) (_:FH H us ws) (_:GY ws) (_:∀i,At ws i->ws.length<=i+50) (_:(∀b∈ex,∃xs,H b=Α (.π xs))) (_:(∀i n ps rs Fl ds s,¬JR ws i n ps rs Fl ds s)->Rf K xc E H)
  (_:∀i n ps rs Fl ds s,JR ws i n ps rs Fl ds s->∀(a:YA)(H':Hp),a.ps=ps->a.wy=oZ rs->a.n=n->EU H H'->(∀z∈a.four,H z=Β)->HP K c ts.told (Ff P w ts) (yx ys ex) H' a s->G5 a s->Q (.ref a.y) H')
theorem GY.take(h:GY ws)(i:Nat):GY (ws.take i):=
 ⟨λy a=>h.ne y (Ď a),λy a=>h.len y (Ď a),λy a=>h.word y (Ď a),by rw[Ñ];have:=h.many;omega,ώ ((Wj i ws).filter _).length_le h.γ⟩
theorem Jd.det(h:Jd ws n ps rs)(a:Jd ws n' HE FP):n=n'/\ps=HE/\rs=FP:=by
 have e:=ϥ (h.no.symm.trans a.no)
 subst e
 have back:∀{l:List (Int×Int)},(∀p∈l,gQ n p=Δ)->(l.map oP).map x8=l:=λ{l} b=>by
  rw[Á]
  refine(Æ λp f=>?_).trans (ŋ _)
  obtain⟨i,j⟩:=nW (b p f)
  exact QE (å i) (å j)
 have c:∀{l:List Rw},(∀r∈l,0<=r.p/\0<=r.g)->(l.map oX).map jg=l:=λ{l} b=>by
  rw[Á]
  exact(Æ λr d=>rD (b r d).1 (b r d).2).trans (ŋ _)
 refine⟨Λ,?_,?_⟩
 ·rw[←back h.HZ,←h.qs,a.qs,back a.HZ]
 ·rw[←c h.nn,←h.Im,a.Im,c a.nn]
theorem rb(h:dC d=dC e):d=e:=by
 rw[fJ,fJ]at h
 have b:=congrArg tl (V.str.inj (Φ h).1)
 have c:ly d=ly e:=by
  have:=congrArg (Rb vI) (Φ h).2
  rw[Á,Á]at this
  exact(ŋ _).symm.trans (this.trans (ŋ _))
 rcases d with ⟨p,g,l,u⟩|⟨k,l⟩|⟨k,l⟩|k|k<;>rcases e with ⟨i,j,f,m⟩|⟨a,f⟩|⟨a,f⟩|a|a<;>first
  |(simp only[xp]at b;exact Κ b (by decide))
  |(simp only[ly,List.cons.injEq,and_true,Int.ofNat_inj]at c;simp only[c])
abbrev NMy:List Str:=["rows","at","yard","words"]
theorem FH.take:∀{a:List V}{ws:List (List Str)}(k:Nat),FH H a ws->FH H (a.take k) (ws.take k)
 |_,_,0,_ =>.nil
 |_,_,_+1,.nil =>.nil
 |_,_,k+1,.cons h r =>.cons h (FH.take k r)
theorem FH.drop:∀{a:List V}{ws:List (List Str)}(k:Nat),FH H a ws->FH H (a.drop k) (ws.drop k)
 |_,_,0,h=>h
 |_,_,_+1,.nil =>.nil
 |_,_,k+1,.cons _ r=>FH.drop k r
theorem m8(xs:List V)(k:Nat):dH xs Β (Α (k:Int))=xs.take k:=by
 unfold dH
 rw[HT.Jp,HT.Hw]
 rw[drop_zero,Ye]
 by_cases h:k<=xs.length
 ·rw[NM h]
 ·rw[Jw (by omega),Ó,Ź (by omega)]
theorem je(xs:List V)(k:Nat):dH xs (Α (k:Int)) Β=xs.drop k:=by
 unfold dH
 rw[HT.Jp,HT.Hw]
 by_cases h:k<=xs.length
 ·rw[NM h]
  exact Ź (by rw[ą];omega)
 ·rw[Jw (by omega),List.drop_length,ĉ (by omega),List.take_nil]
theorem r6(h:mU K c x TC J ys vs H Q E)(m:∀v g,Q v g->Q' v g):mU K c x TC J ys vs H Q' E:=by
 obtain⟨y,i,tb,j,l,lt,n,o,p,q,r,s,t,u,z,A,B,C⟩:=h
 exact⟨y,i,tb,j,l,lt,n,o,p,q,r,s,t,u,z,A,B,λok D F le G I g a b L d e f=>m _ _ (C ok D F le G I g a b L d e f)⟩
def NewY(P:Program)(w:À)(K:Ϣ)(c:Cs)(ts:Ts)(ys:Ys)(ex:List Ν)(H:Hp)(ws:List (List Str))(i:Nat):VK:=λv H'=>∃(a:YA)(rs:List Rw),v=.ref a.y/\Jd (ws.take i) a.n a.ps rs/\a.wy=oZ rs/\pf a.ps.length ((((ws.getD i []).drop 1).map eU).map oV)=Δ/\EU H H'/\(∀z∈a.four,H z=Β)/\HP K c ts.told (Ff P w ts) (yx ys ex) H' a (Y0 ((((ws.getD i []).drop 1).map eU).map oV) a.n)/\G5 a (Y0 ((((ws.getD i []).drop 1).map eU).map oV) a.n)
noncomputable def Ul(s:Ã):Scope:=match s with
 |.Assign _ (.Call _ [_,.ListComp _ _ sc _] _ _) _=>sc
 |_=>du
theorem Nf:ap NMy ["rows"] (ag jP):=L2.F4
theorem bkMy:FQ NMy (ag jP) (Ul ((aJ jP).getD 1 (.Pass ⟨0,0,0,0⟩))) [] []:=L2.GR
theorem ndMy:(["word"]:List Str).Nodup:=by decide +kernel
theorem wS(F:F0 K "make_yard" "make_yard" jP f fd)(W:Wy K ts.told fw G (Ff P w ts))(ma:mg "rooms_at"=Α (.ref fa))(ka:Ϩ K (.ref fa)=Δ)(ba:Binds K da ["rows"] [])(Ga:EW P w K mg μ (ix P w) 1 fa da ["rows"] (kK K xc))
  (mm:mg "make_table"=Α (.ref fm)) (km:Ϩ K (.ref fm)=Δ) (bm:Binds K dm ["rows"] []) (Gm:EW P w K mg μ (ix P w) 7 fm dm ["rows"] (qu P w K c ts xc)) (mn:mg "number_of"=Α (.ref fn)) (kn:Ϩ K (.ref fn)=Δ) (bn:Binds K dn ["word"] []) (Gn:EW P w K mg μ aL 1 fn dn ["word"] gx)
  (my:mg "Yard"=Α (.ref ys.Fb)) (My:Mk K ys.Fb fy) (ZU:Binds K dy ["self","table","rooms"] []) (Gy:∀ex,EW P w K mg μ (ix P w) 4 fy dy ["self","table","rooms"] (mU K c xc ts.told (Ff P w ts) (yx ys ex)))
  (me:mg "do_deed"=Α (.ref fe)) (ke:Ϩ K (.ref fe)=Δ) (be:Binds K de ["yard","words"] []) (Ge:∀ex,EW P w K mg μ (ix P w) 9 fe de ["yard","words"] (um P w K c ts xc (yx ys ex))):EW P w K mg μ (ix P w) 10 f fd ["rows"] (nh P w K c ts xc ys):=by
 refine F.KD Nf (λvs H Q E h=>?_) (λcdv A outer s0 H vs Q E hr h=>?_)
 ·obtain⟨D,us,ws,ex,rfl,_⟩:=h
  rfl
 ·obtain⟨D,us,ws,ex,rfl,gD,hW,J,h50,hex,hE,q⟩:=h
  have FI:Fj 1 _:=hr.mono (by decide)
  have MT:Fj 5 _:=hr.mono (by decide)
  have Mn:Fj 7 _:=hr.mono (by decide)
  refine⟨_,ad (aA (i:=1) Nf.nd Λ (ό Λ) (au Ga FI Λ ma ka ba .nil (Fg.passes Λ) (aa (pv 0) ac)))
   (ad (aA (i:=2) Nf.nd Λ (ό Λ) (iY (eO My (Gy ex) MT Λ my ZU .nil (Fg.passes Λ) (aa (au Gm Mn Λ mm km bm .nil (Fg.passes Λ) (aa (aX bJ (pv 0) bC (bz (pv 1))) ac)) (aa (aV (own:=["word"]) (capN:=[]) (cap:=[]) bkMy Λ (bu (aX bJ (ay aB (pv 0) (pv 1) (λ_ _=>rfl)) (bz ae) bC))
     (λC X Z fp=>⟨aE (i:=0) ndMy Λ (ό Λ),bB,au Gn FI Λ mn kn bn .nil aw (aa (pv 0) ac)⟩)) ac)))))
   (ad (cF lT Λ (bu (aX bJ (pv 0) (bz (ax bL (pv 1) ae)) bC)) (aE (i:=3) Nf.nd Λ (ό Λ))
    (ah (aU (au (Ge ex) hr Λ me ke be .nil (Fg.passes Λ) (aa (pv 2) (aa (pv 3) ac))))))
   (ah (az (pv 2))))),?_⟩
  have LK:=J.many
  refine⟨D,us,ws,Λ,gD,hW,J.ne,λGu=>hE λi n ps rs S m s B=>Gu i B.at_,λi Pl H1 s1=>?_⟩
  obtain⟨l,L,Um⟩:=Pl.is
  have Uo:=Ϫ L
  have V0:ws.getD i []=l:=by rw[Ò,L];rfl
  have hil:=cb L
  have h50:=h50 i Pl
  have gD1:=s1 _ _ gD
  refine⟨NewY P w K c ts ys ex H ws i,?_,?_⟩
  ·
   refine⟨(i:Int),Λ,D,us,Λ,EX.of gD1,λp hp=>?_⟩
   rw[m8]
   have s2:=s1.new (o:=.π (us.take i)) hp
   have g2:(ο H1 p (.π (us.take i))) p=Α (.π (us.take i)):=ET
   have Qv:=FH.take i hW
   generalize ο H1 p (.π (us.take i))=H2 at s2 g2⊢
   refine⟨p,_,ws.take i,Λ,g2,FH.same s2 Qv,(λz=>by have h1:=congrArg ê z;rw[Ñ,hX]at h1;have:=Pl.pos;omega),J.take i,λGu=>(hE λi' n ps rs S m s B=>?_).same s2,λn ps rs B x lx F1 lt Fo H3 s3 Hj=>?_⟩
   ·have e:=Pl.uniq B.at_
    subst e
    exact Gu n ps rs B.tab
   have Ng:=s2.trans s3
   have KP:=oA B.good B.nn
   have FJ:ps.length<=40:=by
    have:=congrArg ê B.qs
    rw[Μ,Μ]at this
    have:=(J.take i).γ
    omega
   obtain⟨u,hu,ar,rfl,gar⟩:=FH.get hW L
   refine⟨D,us,(i:Int),_,Λ,Λ,EX.of (Ng _ _ gD),aj hu,1,Λ,ar,_,Λ,EX.of (Ng _ _ gar),λp2 HW=>?_⟩
   have ec:dH (l.map V.str) (Α 1) Β=(l.drop 1).map V.str:=by
    rw[show(Α (1:Int))=Α ((1:Nat):Int) from Λ,je,map_drop]
   rw[ec]
   have s4:=Ng.new (o:=.π ((l.drop 1).map V.str)) HW
   have Iq:=(EU.refl H3).new (o:=.π ((l.drop 1).map V.str)) HW
   have g4:(ο H3 p2 (.π ((l.drop 1).map V.str))) p2=Α (.π ((l.drop 1).map V.str)):=ET
   refine⟨p2,Λ,⟨_,EX.of g4⟩,?_⟩
   dsimp only
   generalize ο H3 p2 (.π ((l.drop 1).map V.str))=H4 at s4 Iq g4⊢
   have Up:(l.drop 1).length<=1000:=by rw[ą];have:=J.len l Uo;omega
   refine ij (K:=K) (F:=eU) (R:=oV) Up g4 (λj u H5 N hu s5 hN=>⟨u,Λ,(J.word l Uo u (ī (Ϫ hu))).1,λH7 s7=>hN _ s7⟩) λra H5 s5 hra=>?_
   have s6:=(s4.trans s5).new (o:=.π (((l.drop 1).map eU).map oV)) hra
   have Qw:=(Iq.trans s5).new (o:=.π (((l.drop 1).map eU).map oV)) hra
   have g6:(ο H5 ra (.π (((l.drop 1).map eU).map oV))) ra=Α (.π (((l.drop 1).map eU).map oV)):=ET
   generalize ο H5 ra (.π (((l.drop 1).map eU).map oV))=H6 at s6 Qw g6⊢
   intro y dy ny MV MW
   refine r6 (vd (P:=P) (w:=w) (x:=xc) (E:=E) W (Hj.keep W (EU.Fw Qw)) (λp g k=>ώ (qe (λr hr k hk=>Ϗ (gj (KP.γ r hr k hk)) FJ) p g k).2 (by decide)) B.HZ (EX.of g6) (λv hv=>by obtain⟨o,_,rfl⟩:=ϟ.mp hv;exact rJ o) (by rw[Μ,Μ];exact Up) (λhb=>(hE λi' n' HE FP S m s Wo=>?_).same s6) FJ (λb hb=>let ⟨xs,M⟩:=hex b hb;⟨xs,s6 _ _ M⟩) y dy ny MV MW) ?_
   ·have e:=Pl.uniq Wo.at_
    subst e
    obtain⟨rfl,rfl,rfl⟩:=B.det Wo.tab
    have:=Wo.okr
    rw[Wo.rv,V0,hb]at this
    cases this
   rintro v H7 ⟨rfl,HX,a,e1,e2,e3,e4,e5,s7,Ig,JH,hJ⟩
   subst e3 e4
   rw[←V0]at HX JH hJ
   exact⟨Λ,a,rs,e1,B,e5,HX,s6.trans s7,λz M=>s6.free (Ig z M),JH,hJ⟩
  rintro _ H2 ⟨a,rs,rfl,B,Pm,HX,s2,Ig,JH,hJ⟩
  generalize Sy:(((ws.getD i []).drop 1).map eU).map oV=S at HX JH hJ
  have gD2:=s2 _ _ gD
  refine⟨_,_,Λ,Λ,(i:Int)+1,Λ,D,us,Λ,EX.of gD2,λsl Qe=>?_⟩
  rw[show((i:Int)+1)=((i+1:Nat):Int) from Λ,je]
  have Wq:=FH.drop (i+1) hW
  have hdw:∀y∈ws.drop (i+1),y∈ws:=λy hy=>ī hy
  have Mb:(ws.drop (i+1)).length<=49:=by rw[ą];omega
  have hGi:∀{m:List Dd}{s:YS},(ws.drop (i+1)).map tG=m.map dC->Hn a S m s->JR ws i a.n a.ps rs S m s:=λe tr=>⟨Pl,B,Sy.symm,HX,e,a,Λ,Pm,Λ,tr⟩
  have hGo:∀{i' n' HE FP JI I X},JR ws i' n' HE FP JI I X->(ws.drop (i+1)).map tG=I.map dC/\Hn a S I X:=λ{i' n' HE FP JI I X} hM=>by
   have e:=Pl.uniq hM.at_
   subst e
   obtain⟨e1,e2,e3⟩:=B.det hM.tab
   obtain⟨a0,f1,f2,f3,tr⟩:=hM.LL
   have e4:=hM.rv.trans Sy
   subst e4
   exact⟨hM.Wn,tr.to (by rw[f1,e2]) (by rw[f2,Pm,e3]) (by rw[f3,e1])⟩
  generalize us.drop (i+1)=Pn at Wq⊢
  generalize ws.drop (i+1)=G at Wq hdw Mb hGi hGo
  have s3:=s2.new (o:=.π Pn) Qe
  have JQ:=(EU.refl H2).new (o:=.π Pn) Qe
  have g3:(ο H2 sl (.π Pn)) sl=Α (.π Pn):=ET
  have hsl4:=so JH.Y Qe
  generalize ο H2 sl (.π Pn)=H3 at s3 JQ g3⊢
  refine⟨sl,Λ,⟨_,EX.of g3⟩,?_⟩
  have Kf:=JH.same W JQ
  have NV:=Paired.length Wq
  refine kq (K:=K) (a:=sl) (xs:=Pn) (λj σ Z=>∃(t:YS)(a3:Option V)(m:List Dd),Fm a.four H3 Z/\Gj K (yx ys ex) Z a t/\Hn a S m t/\(G.take j).map tG=m.map dC/\σ=[Α (.ref D),Α (.int (i:Nat)),Α (.ref a.y),a3])
   ⟨_,Β,[],EU.F8 (EU.refl _),Kf.Y,.nil,Λ,Λ⟩ (λi σ Z _ Fc=>by obtain⟨_,_,_,o,_⟩:=Fc;exact EX.of (o _ _ hsl4 g3)) ?_ ?_
  ·rintro j v σ Z hv ⟨t,a3,m,o,hY,U,Nh,rfl⟩
   have hi:j<G.length:=by have:=cb hv;omega
   have Qy:=Ψ hi
   obtain⟨v',HS,u,rfl,gu⟩:=FH.get Wq Qy
   rw[hv]at HS
   cases HS
   have hu4:u∉a.four:=λz=>by rw[Ig u z]at gu;cases gu
   have LM:=U.LI hJ
   have hdsl:m.length<=j:=by
    have:=congrArg ê Nh
    rw[Μ,Μ,Ñ]at this
    omega
   have HI:t.done.length<=100:=by rw[U.done.1,Μ];omega
   have F9:t.EV.length<60:=by have:=U.lets;omega
   have kp:=Fm.Fw (λz M=>Kf.Y.Kb z M) o
   have JS:=hdw _ (ÿ hi)
   have hyn:=J.ne _ JS
   have Pj:=J.len _ JS
   have Lj:=J.word _ JS
   have HC:(G.take (j+1)).map tG=(G.take j).map tG++[tG G[j]]:=by rw[í,Qy,ϗ];rfl
   have hwj:(G.map tG)[j]?=Α (tG G[j]):=by rw[Ç,Qy];rfl
   generalize G[j]=y at*
   match y,hyn with
   |x:: ms,_ =>
   refine⟨a,t,u,x,ms,Λ,⟨hY,Kf.T.keep W kp,Kf.O,LM.ok⟩,o _ _ hu4 (s3 _ _ gu),by rw[Ϛ]at Pj;omega,λz M=>(Lj z (ϊ _ M)).1,(Lj x ϙ).2,LM.sml (by omega),by omega,F9,λGu cl dd H'' e Lm=>hE (λi' n' HE FP JI I X hM=>?_) cl dd H'' e (λb v z=>Lm b v (o b v (λzz=>by rw[Ig b zz]at z;cases z) (s3 b v z))),λd hL ed H'' X st off JP=>?_⟩
   ·obtain⟨e1,tr⟩:=hGo hM
    have hl:I.length=G.length:=by have:=congrArg ê e1;rw[Μ,Μ]at this;omega
    have Uq:=Ψ (show j<I.length by omega)
    obtain⟨t',h1,hL⟩:=tr.at Uq
    have e2:I.take j=m:=by
     have:(I.take j).map dC=m.map dC:=by rw[←Nh,ej,ej,e1]
     exact ŝ (λ_ _ z=>rb z)|>.mp this
    rw[e2]at h1
    have:=h1.det U
    subst this
    refine Gu _ hL ?_
    have h3:(I.map dC)[j]?=Α (dC I[j]):=by rw[Ç,Uq];rfl
    rw[←e1,hwj]at h3
    exact(ϥ h3).symm
   ·exact⟨X,_,m++[d],o.trans off,JP,.cons U hL st,by rw[HC,Nh,ϗ,ϳ,gM,ed];rfl,Λ⟩
  ·rintro σ Z ⟨t,a3,m,o,hY,U,Nh,rfl⟩
   rw[NV,Ó]at Nh
   have kp:=Fm.Fw (λz M=>Kf.Y.Kb z M) o
   have LM:=U.LI hJ
   exact(q _ _ _ _ _ _ _ (hGi Nh U) a Z Λ Pm Λ (rK s3 o Ig) Ig ⟨hY,Kf.T.keep W kp,Kf.O,LM.ok⟩ LM)
theorem JR.pre(h:JR ws i n ps rs Fl ds s)(j:GY ws)(l:ws.length<=i+50):∃e,Fl=nV e/\GO n ps rs e ds s:=by
 have c:=h.okr
 have f:=h.rv
 generalize ((ws.getD i []).drop 1).map eU=d at f
 subst f
 unfold pf at c
 rw[ϫ,decide_eq_true_eq,Ā,Μ]at c
 have a:∀o∈d,∃r,o=Α r/\1<=r/\r<=60:=λo b=>by
  have:=c.2 (oV o) (ϟ.mpr ⟨o,b,Λ⟩)
  cases o with
  |none=>cases this
  | some r =>
   have:(1:Int)<=(r:Int)/\(r:Int)<=60:=of_decide_eq_true this
   exact⟨r,Λ,by omega,by omega⟩
 have g:d.map oV=nV (d.map (·.getD 0)):=by
  unfold nV
  rw[Á]
  refine Æ λo b=>?_
  obtain⟨r,rfl,_⟩:=a o b
  rfl
 have m:ps.length<=40:=by
  have:=congrArg ê h.tab.qs
  rw[Μ,Μ]at this
  have:=(j.take i).γ
  omega
 refine⟨_,g,h.tab.G0,m,h.tab.HZ,oA h.tab.good h.tab.nn,by rw[Μ];exact c.1,λr p=>?_,?_,?_⟩
 ·obtain⟨o,b,rfl⟩:=ϟ.mp p
  obtain⟨r,rfl,q,t⟩:=a o b
  exact⟨q,t⟩
 ·obtain⟨u,v,x,y,z⟩:=h.LL
  exact⟨u,v,x,y,by rw[←g];exact z⟩
 ·have:=congrArg ê h.Wn
  rw[Μ,Μ,ą]at this
  omega
theorem JR.det(h:JR ws i n ps rs Fl ds s)(a:JR ws i' n' HE FP JI JJ s'):n=n'/\ps=HE/\rs=FP/\s=s':=by
 have e:=h.at_.uniq a.at_
 subst e
 obtain⟨c,d,f⟩:=h.tab.det a.tab
 have g:=h.rv.trans a.rv.symm
 have j:=ŝ (λ_ _ z=>rb z)|>.mp (h.Wn.symm.trans a.Wn)
 subst c d f g j
 obtain⟨u,l,m,o,p⟩:=h.LL
 obtain⟨v,q,r,t,b⟩:=a.LL
 exact⟨Λ,Λ,Λ,(p.to (by rw[l,q]) (by rw[m,r]) (by rw[o,t])).det b⟩
abbrev dA(x:Str):List (List Str):=(Txt.split x newline).map λr=>Txt.split r blank
inductive jx(P:Program)(w:À)(K:Ϣ)(c:Cs)(ts:Ts)(xc:Xc)(ys:Ys)(vs:List V)(H:Hp)(Q:VK)(E:XK):Prop
 | mk (x:Str) (ex:List Ν) (_:vs=[.str x]) (_:x.length<=4000000) (_:(Txt.split x newline).length<=1000000) (_:∀r∈Txt.split x newline,r.length<=1000000/\(Txt.split r blank).length<=1000000) (_:GY (dA x)) (_:∀i,At (dA x) i->(dA x).length<=i+50) (_:(∀b∈ex,∃xs,H b=Α (.π xs)))
  (_:(∀i n ps rs Fl ds s,JR (dA x) i n ps rs Fl ds s->yT n ps (av rs) s≠x)->∀H',EU H H'->E (.ref xc.tx) Β H')
  (_:∀i n ps rs Fl ds s,JR (dA x) i n ps rs Fl ds s->yT n ps (av rs) s=x->∀(a:YA)(H':Hp),a.ps=ps->a.wy=oZ rs->a.n=n->EU H H'->(∀z∈a.four,H z=Β)->HP K c ts.told (Ff P w ts) (yx ys ex) H' a s->G5 a s->Q (.ref a.y) H')
 |no (v:V) (t:Ο) (_:vs=[v]) (_:jl K H v t) (_:ü K t (.type "str")=Α Ε) (_:∀H',EU H H'->E (.ref xc.tx) Β H')
theorem K0:ap ["text","rows","yard"] ["text"] (ag kP):=L2.F4
theorem si(F:F0 K "read_yard" "read_yard" kP f fd)(W:Wy K ts.told fw dw (Ff P w ts))(X:tJ K mg xc.yc "NoText" xc.tx)(mY:mg "YardError"=Α (.ref xc.yc))(R:mg "rows_of"=Α (.ref fr))(S:Ϩ K (.ref fr)=Δ)(T:Binds K dr ["text"] [])(U:EW P w K mg μ (ix P w) 2 fr dr ["text"] (mZ K xc))
  (mm:mg "make_yard"=Α (.ref fm)) (km:Ϩ K (.ref fm)=Δ) (bm:Binds K dm ["rows"] []) (Gm:EW P w K mg μ (ix P w) 10 fm dm ["rows"] (nh P w K c ts xc ys)) (mt:mg "yard_text"=Α (.ref ft)) (kt:Ϩ K (.ref ft)=Δ) (bt:Binds K dt ["yard"] []) (Gt:∀ex,EW P w K mg μ aL 6 ft dt ["yard"] (lO K c ts.told (Ff P w ts) (yx ys ex))):
  EW P w K mg μ (Yg P w) 11 f fd ["text"] (jx P w K c ts xc ys):=by
 refine F.KD K0 (λY H Q E h=>?_) (λcdv A y s0 H Y Q E B h=>?_)
 ·rcases h with ⟨x,ex,rfl,_⟩|⟨v,t,rfl,_⟩<;>rfl
 ·have Z:Fj 2 _:=B.mono (by decide)
  have OX:Fj 6 _:=B.mono (by decide)
  rcases h with ⟨x,ex,rfl,l0,l1,l2,hR,j,C,l,q⟩|⟨v,ty,rfl,Mz,G,l⟩
  rotate_left
  ·refine⟨_,ad (aA (i:=1) K0.nd Λ (ό Λ) (au U Z Λ R S T .nil (Fg.up.passes Λ) (aa (pv 0) ac))) (ad fc (ad fc (ah fc))),?_⟩
   exact(.no v ty Λ Mz G l)
  refine⟨_,ad (aA (i:=1) K0.nd Λ (ό Λ) (au U Z Λ R S T .nil (Fg.up.passes Λ) (aa (pv 0) ac)))
   (ad (yO Λ Λ Λ mY (Az (i:=2) K0.nd Λ (ό Λ) (se Gm B Λ mm km bm .nil Λ (aa (pv 1) ac))) X.x Fg wG (λea oe=>dF X.x X.k Λ Λ X.m (aa aD ac)))
   (ad (aN (ak lB (au (Gt ex) OX Λ mt kt bt .nil aw (aa (pv 2) ac)) (pv 0) (aq _)) (ah (cu Λ X.x Fg (dF X.x X.k Λ Λ X.m (aa aD ac)))) aG)
   (ah (az (pv 2))))),?_⟩
  refine(.mk x Λ l0 l1 l2 λD us H1 o gD hW=>?_)
  refine⟨D,us,dA x,ex,Λ,gD,hW,hR,j,(λb hb=>let ⟨xs,I⟩:=C b hb;⟨xs,o _ _ I⟩),λG cl dd H' e s'=>⟨e,λea oe Y _ _ _ _=>⟨by show 1<=Τ;decide,l (λi n p d J L s g=>Κ g (G i n p d J L s)) _ (o.trans s')⟩⟩,λi n p d J L s g a H2 M e2 N s2 Ig JH hJ=>?_⟩
  obtain⟨rm,Wr,r⟩:=g.pre hR (j i g.at_)
  refine⟨a,s,av d,Λ,JH,(by rw[e2];exact m9 d),(mI (bT r.fit) r.F3),(by rw[M,N];exact r.HZ),r.rds,λH3 s3=>⟨Λ,_,Λ,?_⟩⟩
  rw[M,N]
  have Ng:=o.trans (s2.trans s3)
  by_cases u:yT n p (av d) s=x
  ·rw[Ζ (congrArg V.str u)]
   exact aH (q i n p d J L s g u a H3 M e2 N Ng (λz I=>o.free (Ig z I)) (JH.same W s3) hJ)
  ·rw[Η λz=>u (V.str.inj z)]
   refine aI ⟨by show 1<=Τ;decide,l (λi' n' HE FP JI JJ s' O e'=>u ?_) _ Ng⟩
   obtain⟨f1,f2,f3,f4⟩:=g.det O
   rw[f1,f2,f3,f4]
   exact e'
abbrev ND:List Str:=["_law_script","_law_k","_law_cell","_law_number_here"]
theorem iT(h:0<j/\j<2^64):-(2^64)<i% j/\i% j<2^64:=by
 have a:=û i (show j≠0 by omega)
 have b:=ì i h.1
 omega
inductive jI(K:Ϣ)(vs:List V)(H:Hp)(Q:VK)(_:XK):Prop
 |mk (a:Ν)(ns:List Int)(k:Int)(_:vs=[.ref a,.int k])(_:EX K H a (ns.map V.int))(_:0<=k)(_:k<=100000)(_:∀d H',EU H H'->(0<=d/\d<4294967296)->Q (.int d) H')
theorem uJ{i j:Int}(h:0<j/\j<=4294967296):0<=i% j/\i% j<4294967296:=by
 have a:=û i (show j≠0 by omega)
 have b:=ì i h.1
 omega
theorem oi(h:0<=z):∃m:Nat,z=(m:Int):=Ï h
theorem HJ:ap ND ["_law_script","_law_k"] (ag yG):=L2.F4
theorem qS{ns:List Int}{i:Int}(a:0<=i)(c:i<(ns.length:Nat)):∃m,rq (ns.map V.int) i=Α (.int m):=by
 obtain⟨j,rfl⟩:=Ï a
 have b:j<ns.length:=by omega
 exact⟨ns[j],aj (j:=j) (by simp[b])⟩
theorem zt(F:F0 K "_law_draw" "_law_draw" yG f fd)(T:Txt mg):EW P w K mg μ aL 1 f fd ["_law_script","_law_k"] (jI K):=by
 refine F.ok HJ λ_ _ _ s H _ Q E B h=>?_
 obtain⟨a,ns,k,rfl,d,C,N,q⟩:=h
 have p:=B.units
 refine⟨_,ad (aA (i:=2) HJ.nd Λ (ό Λ) ae)
  (ad (aN (PW.pt (fR (ak (zc p) (pv 0) (aP ac) (aq _)) (dR (ak aQ (ax aY (ay aB (pv 0) ae (λ_ _=>rfl)) ae) ae (aq _)))))
   (ad (aN (ak lC (ax bL ae (ax bK (pv 1) ae)) (aF aC Λ T.len PySem.boot_len (aa (pv 0) ac)) (aq _))
     (ah (aA (i:=2) HJ.nd Λ (ό Λ) (ay aB (pv 0) (ax bL ae (ax bK (pv 1) ae)) (λ_ _=>rfl)))) aG)
    (ah (az (ax aY (ax uB (pv 2) (ax nS ae (ax aY (pv 1) ae))) (ax zb ae ae))))) aG)
  (ad (aN (ak (zc p) (pv 0) (aP ac) (aq _)) (ah (aA (i:=2) HJ.nd Λ (ό Λ) (ay aB (pv 0) (ax aY (pv 1) (aF aC Λ T.len PySem.boot_len (aa (pv 0) ac))) (λ_ _=>rfl)))) aG)
  (ad (aA (i:=3) HJ.nd Λ (ό Λ) (ax aY (ax nS (ax bL (ax bL (pv 2) (ax nS ae (pv 1))) ae) ae) ae))
  (ad (aA (i:=3) HJ.nd Λ (ό Λ) (ax aY (ax nS (pv 3) (ax bL (ax bK (pv 3) ae) ae)) ae))
  (ah (az (ax aY (ax nS (pv 3) (ax bL (ax bK (pv 3) ae) ae)) ae))))))),?_⟩
 have r:0<=k% 30:=û _ (by decide)
 have D:0<=k / 30:=Int.ediv_nonneg C (by decide)
 have O:∀{t:Hp},EU H t->∀l,EX K (ο t l (.π [])) l (([]:List Int).map V.int):=λ_ l=>EX.of ET
 refine⟨by show 0<=Τ;exact Ä _,λl u=>⟨a,l,ns,[],Λ,Λ,(EU.new (EU.refl H) u).seq d,EX.of ET,_,Λ,?_⟩⟩
 have c:EU H (ο H l (.π [])):=EU.new (EU.refl H) u
 generalize ο H l (.π [])=j at c⊢
 by_cases m:ns=[]
 ·refine zY m (aH ?_)
  refine⟨by show 0<=Τ;exact Ä _,λe n=>⟨a,e,ns,[],Λ,Λ,(EU.new c n).seq d,EX.of ET,_,Λ,zY m ?_⟩⟩
  have g:EU H (ο j e (.π [])):=EU.new c n
  generalize ο j e (.π [])=G at g⊢
  refine⟨_,_,Λ,Λ,.inl ⟨by decide,by decide⟩,_,_,Λ,Λ,_,_,Λ,Λ,_,_,Λ,Λ,.inr ⟨by decide,by decide⟩,_,_,Λ,Λ,(by show (0:Int)<2147483647;decide),_,_,Λ,Λ,⟨by decide,by decide⟩,_,_,Λ,Λ,_,_,Λ,Λ,.inl (iT (by decide)),_,_,Λ,Λ,(by show (0:Int)<2147483647;decide),_,_,Λ,Λ,⟨by decide,by decide⟩,_,_,Λ,Λ,_,_,Λ,Λ,.inl (iT (by decide)),_,_,Λ,Λ,(by show (0:Int)<2147483399;decide),q _ _ g (uJ (by decide))⟩
 ·have v:=Ħ.mpr m
  rw[Η m]
  refine aI ?_
  obtain⟨I,J⟩:=qS (ns:=ns) (i:=0) (by decide) (by omega)
  refine⟨a,_,0,_,Λ,Λ,c.seq d,J,_,_,Λ,Λ,(by show (0:Int)<2;decide),Λ,_,Λ,?_⟩
  rw[lp]
  cases x:decide (I% 2=1) with
  | true =>
   refine aI ?_
   have y:∀cell:Int,Q (.int (cell / 2^(32* (k% 30)).toNat% 2^(32:Int).toNat)) j:=λcell=>q _ _ c (uJ (by decide))
   have fin:∀cell:Int,0<=32* (k% 30):=λ_=>by omega
   refine⟨_,_,Λ,Λ,⟨by decide,by decide⟩,_,_,Λ,Λ,a,_,Λ,.inl (c.seq d),_,_,Λ,Λ,_,Λ,?_⟩
   refine iq (λL=>?_) λ_=>?_
   ·have z:=of_decide_eq_true L
    rw[Μ]at z
    obtain⟨R,M⟩:=qS (ns:=ns) (i:=1+k / 30) (by omega) z
    exact⟨_,_,Λ,Λ,⟨by decide,by decide⟩,_,_,Λ,Λ,a,_,_,_,Λ,Λ,c.seq d,M,_,_,Λ,Λ,(by show (0:Int)<30;decide),_,_,Λ,Λ,.inl ⟨by decide,by decide⟩,_,_,Λ,Λ,fin 0,_,_,Λ,Λ,⟨by decide,by decide,by decide⟩,_,_,Λ,Λ,(by show (0:Int)<2^(32:Int).toNat;decide),y _⟩
   ·exact⟨_,_,Λ,Λ,(by show (0:Int)<30;decide),_,_,Λ,Λ,.inl ⟨by decide,by decide⟩,_,_,Λ,Λ,fin 0,_,_,Λ,Λ,⟨by decide,by decide,by decide⟩,_,_,Λ,Λ,(by show (0:Int)<2^(32:Int).toNat;decide),y _⟩
  | false =>
   refine aH ?_
   refine⟨by show 0<=Τ;exact Ä _,λe n=>⟨a,e,ns,[],Λ,Λ,(EU.new c n).seq d,EX.of ET,_,Λ,?_⟩⟩
   have g:EU H (ο j e (.π [])):=EU.new c n
   generalize ο j e (.π [])=G at g⊢
   rw[Η m]
   refine aI ?_
   have A:0<((ns.map V.int).length:Int):=by rw[Μ];omega
   obtain⟨S,o⟩:=qS (ns:=ns) (i:=k% ((ns.map V.int).length:Nat)) (û _ (by omega)) (by have:=ì k A;rw[Μ]at this⊢;exact this)
   refine⟨a,_,Λ,.inl (g.seq d),_,_,Λ,Λ,A,a,_,_,_,Λ,Λ,g.seq d,o,_,_,Λ,Λ,.inl ⟨by decide,by decide⟩,_,_,Λ,Λ,_,_,Λ,Λ,_,_,Λ,Λ,.inr ⟨by decide,by decide⟩,_,_,Λ,Λ,(by show (0:Int)<2147483647;decide),?_⟩
   refine⟨_,_,Λ,Λ,⟨by decide,by decide⟩,_,_,Λ,Λ,_,_,Λ,Λ,.inl (iT (by decide)),_,_,Λ,Λ,(by show (0:Int)<2147483647;decide),?_⟩
   exact⟨_,_,Λ,Λ,⟨by decide,by decide⟩,_,_,Λ,Λ,_,_,Λ,Λ,.inl (iT (by decide)),_,_,Λ,Λ,(by show (0:Int)<2147483399;decide),q _ _ g (uJ (by decide))⟩
theorem Us:∀{d:List V}{a:List Rw},Mc H d a->(∀r∈a,0<=r.p/\0<=r.g)->Paired (N5 H) d (a.map oX)
 |_,_,.nil,_ =>.nil
 | _,_,.cons (b:=r) ⟨t,l,e,g1,g2⟩ rest,h =>.cons ⟨t,l,e,by
   obtain⟨f,i⟩:=h r ϙ
   refine⟨?_,?_⟩
   ·rw[g1]
    show Α (HO.tup [.int r.p,.int r.g,cV r.c,.ref l])=Α (HO.tup [.int ((r.p.toNat:Nat):Int),.int ((r.g.toNat:Nat):Int),oV r.c,.ref l])
    rw[å f,å i]
    cases r.c<;>rfl
   ·rw[g2]
    show Α (HO.π (ji r.s))=Α (HO.π ((r.s.map Α).map oV))
    rw[Á];rfl⟩ (Us rest λr j=>h r (ϊ _ j))
theorem yI(b:rs.map jj=b7 ps n n)(c:mE ps rs):xB n ps rs:=by
 refine⟨by rw[b];exact ie ps n n,λr a=>?_,λr a=>(c r a).1⟩
 have:jj r∈b7 ps n n:=by rw[←b];exact ϟ.mpr ⟨r,a,Λ⟩
 obtain⟨p,g,d,e,f,h,i,j⟩:=fj this
 exact⟨p,g,d,e,f,h,i,j⟩
inductive uf(P:Program)(w:À)(K:Ϣ)(c:Cs)(ts:Ts)(vs:List V)(H:Hp)(Q:VK)(E:XK):Prop
 |mk (a:Ν) (ns:List Int) (_:vs=[.ref a]) (_:EX K H a (ns.map V.int)) (_:∀(x lx F1 lt:Ν)(n:Nat)(Fo:List V)(ps:List (Int×Int))(rs:List Rw)(H':Hp),EU H H'->Hh c ts.told (Ff P w ts) H' x lx F1 lt n Fo ps (oZ rs)->(2<=n/\n<=4)->(1<=ps.length/\ps.length<=7)->(∀q∈ps,gQ n q=Δ)->xB n ps rs->Q (.ref x) H')
abbrev Ws:List Str:=["_law_script","_law_places","_law_lanes","_law_k","_law_draw_here","_law_rows_here","_law_place","_law_begin","_law_cames","_law_goal","_law_came"]
noncomputable def CW(i:Nat):Ã:=(m5 ((aJ nG).getD 4 (.Pass ⟨0,0,0,0⟩))).getD i (.Pass ⟨0,0,0,0⟩)
noncomputable def tbIn(i:Nat):Ã:=(m5 ((m5 (CW 2)).getD 0 (.Pass ⟨0,0,0,0⟩))).getD i (.Pass ⟨0,0,0,0⟩)
noncomputable def EJ(s:Ã):Scope:=match s with
 |.If _ (.Expr (.Call _ [.Tuple [_,_,_,.ListComp _ _ sc _] _ _] _ _) _:: _) _ _=>sc
 |_=>du
theorem Ia:ap Ws ["_law_script"] (ag nG):=L2.F4
theorem bkL1:FQ Ws (ag nG) (AA (CW 0)) ["_law_lanes","_law_place"] [2,6]:=L2.GR
theorem bkL2:FQ Ws (ag nG) (Au (CW 1)) ["_law_lanes","_law_place"] [2,6]:=L2.GR
theorem bkL3:FQ Ws (ag nG) (EJ (tbIn 1)) ["_law_draw_here"] [4]:=L2.GR
theorem ndR:(["_law_k","_law_lanes","_law_place"]:List Str).Nodup:=by decide +kernel
theorem ndR3:(["_law_k","_law_draw_here"]:List Str).Nodup:=by decide +kernel
theorem BE(F:F0 K "_law_table" "_law_table" nG f df)(T:Txt mg)(M:ZO P w K mg μ c ts xc fi ft di dt)(md:mg "_law_draw"=Α (.ref fd))(kd:Ϩ K (.ref fd)=Δ)(bd:Binds K dd ["_law_script","_law_k"] [])
  (Gd:EW P w K mg μ aL 1 fd dd ["_law_script","_law_k"] (jI K)):EW P w K mg μ aL 7 f df ["_law_script"] (uf P w K c ts):=by
 refine F.ok Ia λ_ _ _ s H _ Q E J h=>?_
 obtain⟨a,ns,rfl,hS,q⟩:=h
 have FI:Fj 1 _:=J.mono (by decide)
 have MT:Fj 5 _:=J.mono (by decide)
 refine⟨_,ad (aA (i:=1) Ia.nd Λ (ό Λ) (ax bL ae (ax aY (au Gd FI Λ md kd bd .nil aw (aa (pv 0) (aa ae ac))) ae)))
  (ad (aA (i:=2) Ia.nd Λ (Ř Λ) (aP ac))
  (ad (cF ç Λ (b6 Λ T.range (aa (ax bL ae (ax aY (au Gd FI Λ md kd bd .nil aw (aa (pv 0) (aa ae ac))) ae)) ac)) (aE (i:=3) Ia.nd Λ (ό Λ))
   (ad (aA (i:=4) Ia.nd Λ (Ř Λ) (au Gd FI Λ md kd bd .nil aw (aa (pv 0) (aa (ax bL ae (pv 3)) ac))))
   (ah (aU (aZ plainAttrs_list PySem.F.slot_list_append PySem.F.type_list_append cy (pv 2) (aa (bF (aa (ax aY (pv 4) (pv 1))
    (aa (ax aY (ax bL (ax bL (ax aY (pv 4) (pv 1)) ae) (ax aY (ax bK (pv 4) ae) (ax fF (pv 1) ae))) (pv 1)) ac))) ac))))))
  (ad (aA (i:=5) Ia.nd Λ (ό Λ) (aP ac))
  (ad (cF ç Λ (b6 Λ T.range (aa (pv 1) ac)) (aE (i:=6) Ia.nd Λ (Ř Λ))
   (ad (dM (i:=7) (own:=["_law_k"]) (capN:=["_law_lanes","_law_place"]) (cap:=[2,6]) bkL1 Λ Ia.nd Λ Λ (b6 Λ T.range (aa (aF aC Λ T.len PySem.boot_len (aa (pv 2) ac)) ac))
    (λC s' H' fp=>⟨aE (i:=0) ndR Λ (ό Λ),cU (ak aQ (ay (show oS _ (nM K) from aK) (ay (show oS _ (nN K) from aB) (pv 1) (pv 0) (λ_ _=>rfl)) ae (λ_ _=>rfl)) (pv 2) (aq _)),pv 0⟩))
   (ad (aA (i:=8) Ia.nd Λ (ό Λ) (ax bP (aP (aa bA ac)) (aV (own:=["_law_k"]) (capN:=["_law_lanes","_law_place"]) (cap:=[2,6]) bkL2 Λ (b6 Λ T.range (aa (aF aC Λ T.len PySem.boot_len (aa (pv 2) ac)) ac))
    (λC s' H' fp=>⟨aE (i:=0) ndR Λ (ό Λ),cU (ak aQ (ay (show oS _ (nM K) from aK) (ay (show oS _ (nN K) from aB) (pv 1) (pv 0) (λ_ _=>rfl)) ae (λ_ _=>rfl)) (pv 2) (aq _)),pv 0⟩))))
   (ah (cF ç Λ (b6 Λ T.range (aa (pv 1) ac)) (aE (i:=9) Ia.nd Λ (ό Λ))
    (ah (cF ç Λ (bu (pv 8)) (aE (i:=10) Ia.nd Λ (ό Λ))
     (ad (aA (i:=4) Ia.nd Λ (Ř Λ) (au Gd FI Λ md kd bd .nil aw (aa (pv 0) (aa (ax bL ae (aF aC Λ T.len PySem.boot_len (aa (pv 5) ac))) ac))))
     (ah (aN (ak lB (pv 9) (pv 6) (aq _))
      (ah (aU (aZ plainAttrs_list PySem.F.slot_list_append PySem.F.type_list_append cy (pv 5) (aa (bF (aa (pv 6) (aa (pv 9) (aa (pv 10) (aa (aV (own:=["_law_k"]) (capN:=["_law_draw_here"]) (cap:=[4]) bkL3 Λ (bu (pv 7))
       (λC s' H' fp=>⟨aE (i:=0) ndR3 Λ (ό Λ),cU (PW.pt (dQ (ak aQ (ax zd (ax uB (ax bK (pv 1) ae) (pv 0)) ae) ae (aq _)) (dL (ak jW (ax aY (pv 1) ae) ae (aq _))))),pv 0⟩)) ac))))) ac)))) aG))))))))))
  (ah (az (eO M.Mt M.Gt J Λ M.mt M.bt .nil uA (aa (eO M.Mi M.Gi MT Λ M.mi M.bi .nil uA (aa (pv 1) (aa (pv 2) ac))) (aa (pv 5) ac))))))))),?_⟩
 refine⟨a,ns,0,Λ,hS,by decide,by decide,λd0 H0 s0 _=>⟨_,_,Λ,Λ,(by show (0:Int)<3;decide),_,_,Λ,Λ,?_⟩⟩
 obtain⟨n,hn,K4⟩:∃n:Nat,(2:Int)+d0% 3=(n:Int)/\2<=n/\n<=4:=⟨(2+d0% 3).toNat,by omega,by omega,by omega⟩
 rw[hn]
 refine⟨Ä _,λl R=>?_⟩
 have s6:=s0.new (o:=.π []) R
 have g6:(ο H0 l (.π [])) l=Α (.π []):=ET
 have hHl:H l=Β:=s0.free R
 show ci 2 (V.ref l) _ (ο H0 l (.π [])) _
 generalize ο H0 l (.π [])=H6 at s6 g6⊢
 have h1:2<=n:=K4.1
 refine⟨a,ns,1,Λ,s6.seq hS,by decide,by decide,λd1 H7 LN _=>⟨_,_,Λ,Λ,(by show (0:Int)<7;decide),_,_,Λ,Λ,?_⟩⟩
 obtain⟨m,hm,VR,YL⟩:∃m:Nat,1+d1% 7=(m:Int)/\1<=m/\m<=7:=⟨(1+d1% 7).toNat,by omega,by omega,by omega⟩
 refine⟨1+d1% 7,Λ,by omega,by omega,?_⟩
 rw[show(1+d1% 7).toNat=m by omega]
 refine cz (n:=m) (λi L S=>∃(a1 a2:Option V)(O:List V)(ps:List (Int×Int)),EU H S/\S l=Α (.π O)/\F6 S O ps/\ps.length=i/\(∀q∈ps,gQ n q=Δ)/\L=[Α (.ref a),Α (.int n),Α (.ref l),a1,a2,Β,Β,Β,Β,Β,Β])
  ⟨Β,Β,[],[],s6.trans LN,LN _ _ g6,.nil,Λ,(λq hq=>by cases hq),Λ⟩ ?_ ?_
 ·rintro i L S hi ⟨a1,a2,O,ps,s7,g3,Pe,hlen,Fi,rfl⟩
  refine⟨_,_,Λ,Λ,a,ns,_,Λ,s7.seq hS,by omega,by omega,λd H4 s8 _=>?_⟩
  have Ut:0<=d% (n:Int)/\d% (n:Int)<n:=⟨û _ (by omega),ì _ (by omega)⟩
  have Ob:0<=d / 16% ((n:Int) - 1)/\d / 16% ((n:Int) - 1)<(n:Int) - 1:=⟨û _ (by omega),ì _ (by omega)⟩
  have np:(0:Int)<(n:Int):=by omega
  refine⟨.inl ⟨Λ,_,EX.of (s8 _ _ g3)⟩,_,_,Λ,Λ,np,_,_,Λ,Λ,np,_,_,Λ,Λ,_,_,Λ,Λ,⟨by decide,by decide⟩,_,_,Λ,Λ,_,_,Λ,Λ,(by show (0:Int)<(n:Int) - 1;omega),_,_,Λ,Λ,_,_,Λ,Λ,np,?_⟩
  refine⟨by show 2<=Τ;decide,λt ht=>?_⟩
  have s9:=s8.new (o:=.tup [.int (d% (n:Int)),.int ((d% (n:Int)+1+d / 16% ((n:Int) - 1))% (n:Int))]) ht
  have Mf:O.length=ps.length:=Paired.length Pe
  refine⟨l,O,_,Λ,Λ,s9 _ _ g3,by rw[Χ];omega,?_⟩
  have nlt:l≠t:=ai (s8 _ _ g3) ht
  refine⟨_,_,O++[.ref t],ps++[(d% (n:Int),(d% (n:Int)+1+d / 16% ((n:Int) - 1))% (n:Int))],λb o e=>?_,ET,?_,by rw[Ξ,hlen];rfl,λq hq=>?_,Λ⟩
  ·rw[af (ai e hHl)];exact s9 _ _ (s7 _ _ e)
  ·refine F6.snoc ⟨t,Λ,by rw[af (ϧ nlt)];exact ET⟩ ?_
   have z:F6 _ O ps:=F6.same s9 Pe
   exact BX (s9 _ _ g3) z
  ·rcases ϝ.mp hq with z|z
   ·exact Fi q z
   ·rw[ϋ.mp z];exact zv Ut.1 Ut.2 Ob.1 Ob.2
 ·rintro L HL ⟨a1,a2,O,ps,sL,R,S0,hlen,Fi,rfl⟩
  have hSL:=sL.seq hS
  clear hn
  have hn:2<=n/\n<=12:=by omega
  have FJ:ps.length<=40:=by omega
  have Mf:O.length=ps.length:=Paired.length S0
  refine⟨Ä _,λD hD=>?_⟩
  have s0:=(EU.refl HL).new (o:=.π []) hD
  refine⟨(n:Int),Λ,by omega,by omega,?_⟩
  rw[Ϙ]
  refine cz (n:=n) (λi L Y=>∃(a4 a5 a6 a7 Z a9 LO:Option V)(I:List V)(G:List Rw),EU HL Y/\Y D=Α (.π I)/\HY D Y I G/\G.map jj=b7 ps n i/\mE ps G/\L=[Α (.ref a),Α (.int n),Α (.ref l),a4,a5,Α (.ref D),a6,a7,Z,a9,LO])
   ⟨_,_,_,_,_,_,_,[],[],s0,ET,.nil,Λ,(λr J=>by cases J),Λ⟩ ?_ ?_
  ·rintro i L Y hi ⟨a4,a5,a6,a7,Z,a9,LO,I,G,s2,gD,hR,X,Ot,rfl⟩
   rw[ł]
   have Fu:∀{j:Nat}{pr:Int×Int}{HL':Hp},EU HL HL'->ps[j]?=Α pr->∃u,O[j]?=Α (.ref u)/\Fn K HL' u [.int pr.1,.int pr.2]:=λ{j pr HL'} s' hj=>by
    obtain⟨v,hv,u,rfl,hu⟩:=F6.O9 S0 hj
    exact⟨u,hv,Fn.of (s' _ _ hu)⟩
   refine⟨l,_,Λ,.inl (EX.of (s2 _ _ R)),(O.length:Int),Λ,by omega,by omega,?_⟩
   rw[Ϙ,Mf]
   refine vV (sel:=Ø) (pl:=(i:Int)) (by rw[Χ];omega) (λj acc N pr hj h=>?_) λB hB=>?_
   ·obtain⟨u,hv,hu⟩:=Fu s2 hj
    refine⟨l,O,_,_,Λ,Λ,EX.of (s2 _ _ R),aj hv,u,_,0,_,Λ,Λ,hu,aj (j:=0) Λ,Λ,_,Λ,?_⟩
    rw[lp]
    cases hd:decide (pr.1=(i:Int)) with
    |true=>rw[hd]at h;exact aI h
    |false=>rw[hd]at h;exact aH h
   have JQ:EU Y (ο Y B (.π (ji (gK Ø ps i)))):=(EU.refl Y).new hB
   have gB:(ο Y B (.π (ji (gK Ø ps i)))) B=Α (.π (ji (gK Ø ps i))):=ET
   have nB:B≠D:=ϧ (ai gD hB)
   generalize ο Y B (.π (ji (gK Ø ps i)))=S at JQ gB⊢
   have s3:=s2.trans JQ
   refine⟨by show 1<=Τ;decide,λo1 NU=>?_⟩
   have Iq:EU S (ο S o1 (.π [.Fp])):=(EU.refl S).new NU
   have g1:(ο S o1 (.π [.Fp])) o1=Α (.π [.Fp]):=ET
   generalize ο S o1 (.π [.Fp])=H4 at Iq g1⊢
   have s4:=s3.trans Iq
   refine⟨l,_,Λ,.inl (EX.of (s4 _ _ R)),(O.length:Int),Λ,by omega,by omega,?_⟩
   rw[Ϙ,Mf]
   refine vV (sel:=Í) (pl:=(i:Int)) (by rw[Χ];omega) (λj acc N pr hj h=>?_) λo2 Hv=>?_
   ·obtain⟨u,hv,hu⟩:=Fu s4 hj
    refine⟨l,O,_,_,Λ,Λ,EX.of (s4 _ _ R),aj hv,u,_,1,_,Λ,Λ,hu,aj (j:=1) Λ,Λ,_,Λ,?_⟩
    rw[lp]
    cases hd:decide (pr.2=(i:Int)) with
    |true=>rw[hd]at h;exact aI h
    |false=>rw[hd]at h;exact aH h
   have II:EU H4 (ο H4 o2 (.π (ji (gK Í ps i)))):=(EU.refl H4).new Hv
   have g2:(ο H4 o2 (.π (ji (gK Í ps i)))) o2=Α (.π (ji (gK Í ps i))):=ET
   generalize ο H4 o2 (.π (ji (gK Í ps i)))=H5 at II g2⊢
   have Jz:(ji (gK Í ps i)).length<=40:=by unfold ji;rw[Μ];have:=lY Í ps (i:Int);omega
   refine⟨o1,o2,_,_,Λ,Λ,II _ _ g1,g2,by rw[Χ];simp only[ú];omega,λC hC=>?_⟩
   rw[Av]
   have Jj:EU H5 (ο H5 C (.π ((bR ps i).map cV))):=(EU.refl H5).new hC
   have gC:(ο H5 C (.π ((bR ps i).map cV))) C=Α (.π ((bR ps i).map cV)):=ET
   have s25:=(JQ.trans Iq).trans II
   have nC:C≠D:=ϧ (ai (s25 _ _ gD) hC)
   generalize ο H5 C (.π ((bR ps i).map cV))=H6 at Jj gC⊢
   have s26:=s25.trans Jj
   have gB6:=Jj _ _ (II _ _ (Iq _ _ gB))
   have s6:=s2.trans s26
   refine⟨(n:Int),Λ,by omega,by omega,?_⟩
   rw[Ϙ]
   refine cz (n:=n) (λj L H7=>∃(a7 Z a9 LO:Option V)(I:List V)(G:List Rw),Off D H6 H7/\H7 D=Α (.π I)/\HY D H7 I G/\G.map jj=b7 ps n i++cr ps j i/\mE ps G/\L=[Α (.ref a),Α (.int n),Α (.ref l),a7,Z,Α (.ref D),Α (.int i),Α (.ref B),Α (.ref C),a9,LO])
    ⟨_,_,_,_,I,G,λ_ _ _ e=>e,s26 _ _ gD,HY.same s26 hR,by rw[X];simp[cr],Ot,Λ⟩ ?_ ?_
   ·rintro j L H7 hj ⟨a7,Z,a9,LO,I,G,Ni,gD7,hR7,hk7,Pp,rfl⟩
    rw[ł]
    refine⟨C,Λ,⟨_,EX.of (Ni _ _ nC gC)⟩,?_⟩
    refine kq (K:=K) (a:=C) (xs:=(bR ps i).map cV) (λt L H8=>∃(Z a9 LO:Option V)(I:List V)(G:List Rw),Off D H6 H8/\H8 D=Α (.π I)/\HY D H8 I G/\
      G.map jj=(b7 ps n i++cr ps j i)++(if j=i then [] else ((bR ps i).take t).map λc=>((i:Int),(j:Int),c))/\mE ps G/\L=[Α (.ref a),Α (.int n),Α (.ref l),Z,a9,Α (.ref D),Α (.int i),Α (.ref B),Α (.ref C),Α (.int j),LO])
     ⟨_,_,_,I,G,Ni,gD7,hR7,by rw[hk7];split<;>simp,Pp,Λ⟩ (λt L H8 _ Fc=>by obtain⟨_,_,_,_,_,KR,_⟩:=Fc;exact EX.of (KR _ _ nC gC)) ?_ ?_
    ·rintro t v L H8 hv ⟨Z,a9,LO,I,G,KR,Pq,Uu,Uv,Nj,rfl⟩
     rw[Ç]at hv
     obtain⟨c,hc,rfl⟩:∃c,(bR ps i)[t]?=Α c/\v=cV c:=by
      cases e:(bR ps i)[t]? with
      |none=>rw[e]at hv;cases hv
      |some c=>rw[e]at hv;exact⟨c,Λ,(ϥ hv).symm⟩
     have Pr:t<(bR ps i).length:=(gQ0 hc)
     have hrr:I.length=G.length:=Paired.length Uu
     have KG:G.length<=6500:=by
      have e1:G.length=(G.map jj).length:=by rw[Μ]
      rw[e1,Uv,Ξ,Ξ]
      obtain⟨b1,b2⟩:=nj (ps:=ps) (n:=n) (i:=i) (j:=j) FJ hn.2 (by omega) (by omega)
      have b3:(if j=i then [] else ((bR ps i).take t).map λc=>((i:Int),(j:Int),c)).length<=41:=by
       split
       ·exact Ä _
       ·rw[Μ]
        have:=æ t (bR ps i)
        have:=pW ps i
        rw[Ñ]
        omega
      omega
     have s8:EU HL H8:=λb o e=>KR b o (ai e hD) (s6 _ _ e)
     refine⟨D,_,Λ,.inl (EX.of Pq),_,_,Λ,Λ,a,ns,_,Λ,s8.seq hSL,by omega,by omega,λd H9 s9 _=>?_⟩
     have Q2:=s9 _ _ Pq
     have Pt:Off D H6 H9:=λb o nb e=>s9 _ _ (KR b o nb e)
     have gB9:H9 B=Α (.π (nV (gK Ø ps i))):=Pt _ _ nB gB6
     have hil:=lY Ø ps (i:Int)
     refine⟨Λ,_,Λ,?_⟩
     rw[lp]
     by_cases Wt:j=i
     ·refine zY (show (j:Int)=(i:Int) by omega) ?_
      refine⟨_,_,_,I,G,Pt,Q2,HY.same s9 Uu,?_,Nj,Λ⟩
      rw[Uv,Ι Wt,Ι Wt]
     ·rw[Η (show ¬(j:Int)=(i:Int) by omega)]
      refine aI ?_
      refine⟨.inl ⟨Λ,_,EX.of Q2⟩,B,Λ,⟨_,EX.of gB9⟩,?_⟩
      refine As (λk:Nat=>decide (V.int (Ă (d / 8 / 2^((k:Int)).toNat) 1)=V.int 1)||decide (1<d% 4)) (by omega) gB9 (λk acc N X h=>?_) λU hU=>?_
      ·refine⟨_,_,Λ,Λ,⟨by decide,by decide⟩,_,_,Λ,Λ,(by show (0:Int)<=(k:Int);omega),_,_,Λ,Λ,Λ,_,Λ,?_⟩
       cases e1:decide (V.int (Ă (d / 8 / 2^((k:Int)).toNat) 1)=V.int 1) with
       |true=>rw[e1,Bool.true_or]at h;exact aI (aI h)
       | false =>
        rw[e1,Oq]at h
        refine aH ⟨_,_,Λ,Λ,(by show (0:Int)<4;decide),_,_,Λ,Λ,_,Λ,?_⟩
        cases e2:decide (1<d% 4) with
        |true=>rw[e2]at h;exact aI h
        |false=>rw[e2]at h;exact aH h
      generalize Uw:(gK Ø ps (i:Int)).filter (λk:Nat=>decide (V.int (Ă (d / 8 / 2^((k:Int)).toNat) 1)=V.int 1)||decide (1<d% 4))=us
      have KO:∀k∈us,k∈gK Ø ps (i:Int):=λk X=>by rw[←Uw]at X;exact(Ì.mp X).1
      have Tf:us.length<=(gK Ø ps (i:Int)).length:=by rw[←Uw];exact É _ _
      have sa:=(EU.refl H9).new (o:=.π (nV us)) hU
      have gU:(ο H9 U (.π (nV us))) U=Α (.π (nV us)):=ET
      generalize ο H9 U (.π (nV us))=Ha at sa gU⊢
      have gDa:=sa _ _ Q2
      refine⟨by show 4<=Τ;decide,λtt Lr=>?_⟩
      have sb:=(EU.refl Ha).new (o:=.tup [.int i,.int j,cV c,.ref U]) Lr
      have gT:(ο Ha tt (.tup [.int i,.int j,cV c,.ref U])) tt=Α (.tup [.int i,.int j,cV c,.ref U]):=ET
      have nT:tt≠D:=ϧ (ai gDa Lr)
      generalize ο Ha tt (.tup [.int i,.int j,cV c,.ref U])=Hb at sb gT⊢
      have Pu:=sa.trans sb
      have s9b:=s9.trans Pu
      have nU:U≠D:=ϧ (ai Q2 hU)
      refine⟨D,I,_,Λ,Λ,Pu _ _ Q2,by rw[Χ];omega,?_⟩
      refine⟨_,_,_,I++[.ref tt],G++[⟨(i:Int),(j:Int),c,us⟩],λb o nb e=>by rw[af nb];exact Pu _ _ (Pt b o nb e),ET,?_,?_,?_,Λ⟩
      ·refine HY.snoc ⟨tt,U,Λ,⟨by rw[af nT];exact gT,by rw[af nU];exact sb _ _ gU⟩,nU⟩ ?_
       exact HY.off (Pu _ _ Q2) (HY.same s9b Uu)
      ·rw[ϗ,Uv,Θ Wt,Θ Wt,í,hc,ϗ,Ù]
       rfl
      ·intro r LX
       rcases ϝ.mp LX with h|h
       ·exact Nj r h
       ·rw[ϋ.mp h]
        exact⟨KO,ώ Tf (lY _ _ _)⟩
    ·rintro L H8 ⟨Z,a9,LO,I,G,KR,Pq,Uu,Uv,Nj,rfl⟩
     refine⟨_,_,_,_,I,G,KR,Pq,Uu,?_,Nj,Λ⟩
     rw[Uv,oR,Ù]
     congr 2
     unfold eI
     rw[Μ,Ó]
   ·rintro L H7 ⟨a7,Z,a9,LO,I,G,Ni,gD7,hR7,hk7,Pp,rfl⟩
    refine⟨_,_,_,_,_,_,_,I,G,λb o e=>Ni b o (ai e hD) (s6 _ _ e),gD7,hR7,?_,Pp,Λ⟩
    rw[hk7,pO]
  ·rintro L Y ⟨a4,a5,a6,a7,Z,a9,LO,I,G,s2,gD,hR,X,Ot,rfl⟩
   have hf:=yI X Ot
   have hnn:∀r∈G,0<=r.p/\0<=r.g:=λr J=>by
    obtain⟨p,g,_,_,_,e1,e2,_⟩:=hf.key r J
    omega
   have KG:G.length<=10000:=by
    have e1:G.length=(G.map jj).length:=by rw[Μ]
    rw[e1,X]
    have:=(nj (ps:=ps) (n:=n) (i:=n) (j:=n) FJ hn.2 (ϛ _) (ϛ _)).1
    omega
   have hRw:=HY.rws hR
   refine(λx dx nx ML Ld=>?_)
   have s3:=jV (o:=.ρ c.land dx []) nx ML Ld
   refine⟨x,dx,Α n,l,O,ps.map oP,Λ,ET,EX.of (s3 _ _ (s2 _ _ R)),zN (F6.same (s2.trans s3) S0) Fi,by omega,λPf=>Κ ⟨n,ps,Λ,by omega,by omega,Λ,Fi⟩ Pf,?_⟩
   intro n' HE en hn1' hn2' Q3 Ov S lt Fo off hL
   cases en
   have Q3:HE=ps:=by
    have back:∀{l:List (Int×Int)},(∀p∈l,gQ n p=Δ)->(l.map oP).map x8=l:=λ{l} R=>by
     rw[Á]
     refine(Æ λp hp=>?_).trans (ŋ _)
     obtain⟨a1,a2⟩:=nW (R p hp)
     exact QE (å a1) (å a2)
    have h2:=congrArg (Rb x8) Q3
    rw[back Fi,back Ov]at h2
    exact h2.symm
   subst Q3
   refine⟨Λ,?_⟩
   have JQ:EU Y S:=λb o z=>off b o (ai z nx) (s3 _ _ z)
   intro y dy ny MV MW
   have s4:=jV (o:=.ρ ts.told dy []) ny MV MW
   have Sy:I.length=G.length:=Paired.length hRw
   refine⟨y,dy,x,dx,lt,D,(n:Int),Fo,I,HE,G.map oX,Λ,ET,⟨s4 _ _ hL.1,s4 _ _ hL.2.1,F6.same s4 hL.2.2⟩,EX.of (s4 _ _ (JQ _ _ gD)),Us (Mc.same (JQ.trans s4) hRw) hnn,by omega,by omega,?_,λPf=>Κ ⟨G,Λ,hnn,sJ hf⟩ Pf,?_⟩
   ·intro r J
    obtain⟨z,hz,rfl⟩:=ϟ.mp J
    show(z.s.map Α).length<=1000
    rw[Μ]
    have:=(Ot z hz).2
    omega
   ·intro FP Md nn' hg' H9 de EZ o9 hy Pg Ph
    have Md:FP=G:=by
     have Uk:∀{l:List Rw},(∀r∈l,0<=r.p/\0<=r.g)->(l.map oX).map jg=l:=λ{l} R=>by
      rw[Á]
      exact(Æ λr J=>rD (R r J).1 (R r J).2).trans (ŋ _)
     rw[←Uk nn',←Md,Uk hnn]
    subst Md
    refine⟨Λ,?_⟩
    have Nb:EU S H9:=λb u z=>o9 b u (ai z ny) (s4 _ _ z)
    refine q y x dx lt n Fo HE FP H9 (sL.trans (s2.trans (JQ.trans Nb))) ?_ K4 (by omega) Fi hf
    exact⟨⟨dy,de,_,EZ,FP,hy,Pg,Ph,(λr J k X=>Ϗ (gj (hf.γ r J k X)) FJ),Λ⟩,⟨dy,_,hy,Λ,Λ⟩,⟨Nb _ _ hL.1,Nb _ _ hL.2.1,F6.same Nb hL.2.2⟩,hn.2,FJ,λp g k _ _=>(qe (λr J k X=>gj (hf.γ r J k X)) p g k).1⟩
end K83
namespace L2
open PySem
section
variable {X:Cx}
inductive rSlU(x:V)(lo:Option Int)(hi:Option Int)(H:Hp)(Q:VK):Prop
 |mk (z:Str)(i:Int)(_:x=.str z)(_:lo=Β)(_:hi=Α i)(_:z.length<=Τ)(_:Q (.str (Txt.slice z Β (Α i))) H)
theorem Ba:Rc X rSlU:=by
 intro a s j H x v m n o p r Q I b c d e h
 obtain⟨z,i,rfl,rfl,rfl,f,q⟩:=h
 obtain⟨t,rfl⟩:=b
 cases e with
 | int _ g =>
  cases d
  exact⟨"str",_,XI.lookup,et _ _ _,Rx (l:=Β) (u:=Α (i,g)) (st:=Β) c Λ
   (post_val_or_str ⟨ώ (Txt.slice_le z _ _) f,λw k=>⟨.str _,H,I.tok _,⟨_,Λ⟩,q⟩⟩)⟩
end
theorem w8(c:Nat)(y:Str):Txt.slice (⟨#[c]⟩++y) Β (Α 1)=⟨#[c]⟩:=by
 have a:(⟨#[c]⟩++y:Str).cps.toList=c:: y.cps.toList:=by
  show(#[c]++y.cps).toList=_
  rw[ć]
  rfl
 show Qz (⟨#[c]⟩++y) Β (Α ((1:Nat):Int))=⟨#[c]⟩
 rw[StrLaws.sliceText_to (by rw[a,Ϛ];omega),a]
 rfl
end L2
namespace K83
open PySem L2
variable {P:Program}{w:À}{K:Ϣ}{mg:Str->Option Ο}{μ:ò}
inductive ug(vs:List V)(H:Hp)(Q:VK)(E:XK):Prop
 |mk (x:Str) (_:vs=[.str x]) (_:x.length<=1000000) (_:õ x=Δ) (_:∀H',EU H H'->Q (iV (im x)) H')
noncomputable def Ux(s:Ã):Scope:=match s with
 |.If (.BoolOp _ [_,_,.Compare (.ListComp _ _ sc _) _ _ _] _) _ _ _=>sc
 |_=>du
noncomputable def eB(c:Nat):Bool:=!decide (c∈(υ "0123456789").cps.toList)
noncomputable def sgD(c:Nat):ĩ:=.str ⟨#[c]⟩
theorem wu(h:õ x=Δ)(a:c∈tl x):c<0x110000:=by
 unfold õ at h
 rw[←vr,Ā]at h
 exact of_decide_eq_true (h c a)
theorem vP:∀l:List Nat,oW K H (l.map λc=>V.str ⟨#[c]⟩) (l.map sgD)
 |[] =>.nil
 |_:: l =>.cons (.str _) (vP l)
abbrev NLn:List Str:=["_law_word","_law_figures"]
theorem Pw:ap NLn ["_law_word"] (ag rO):=L2.F4
theorem bkLn:FQ NLn (ag rO) (Ux ((aJ rO).getD 2 (.Pass ⟨0,0,0,0⟩))) [] []:=L2.GR
theorem ndLn:(["_law_sign"]:List Str).Nodup:=by decide +kernel
def rNiS:R2:=λx y H Q=>∃i j:Str,x=.str i/\y=.str j/\Q (.bl (!(!(į j i 0 j.length 1).isEmpty))) H
theorem BF(F:F0 K "_law_number" "_law_number" rO f fd)(T:Txt mg):EW P w K mg μ aL 1 f fd ["_law_word"] ug:=by
 refine F.ok Pw λ_ _ _ s H _ Q E hr h=>?_
 obtain⟨x,rfl,OY,O,q⟩:=h
 have hu:=hr.units
 refine⟨_,ad (aA (i:=1) Pw.nd Λ (ό Λ) (pv 0))
  (ad (gX (aN (ak aQ (aX Ba (pv 0) bC (bz ae)) aD (aq _)) (ah (aA (i:=1) Pw.nd Λ (ό Λ) (aX vp (pv 0) (bz ae) bC))) aG))
  (ad (aN (PW.pt (dQ (ak aQ (pv 1) aD (aq _)) (dQ (ak jW (aF kA Λ T.len PySem.boot_len (aa (pv 1) ac)) ae (aq _)) (dL (ak (qM hu) (aV (own:=["_law_sign"]) (capN:=[]) (cap:=[]) bkLn Λ (yU (pv 1))
    (λC s' g fp=>⟨aE (i:=0) ndLn Λ (ό Λ),cU (ak (qK) (pv 0) aD (by with_unfolding_all rfl)),pv 0⟩)) (aP ac) (aq _)))))) (ah (az bA)) aG)
  (ad (aN (PW.pt (dQ (ak lB (aS Fz Λ T.str PySem.Pv.boot_str (aa (aS eX Λ T.int PySem.Pv.boot_int (aa (pv 1) ac)) ac)) (pv 1) (aq _)) (dL (ak aQ (pv 0) aD (aq _))))) (ah (az bA)) aG)
  (ad (aN (ak aQ (pv 1) (pv 0) (aq _)) (ah (az (aS eX Λ T.int PySem.Pv.boot_int (aa (pv 1) ac)))) aG)
  (ah (az (ax fF ae (aS eX Λ T.int PySem.Pv.boot_int (aa (pv 1) ac))))))))),?_⟩
 have R:x.length<=Τ:=ώ OY (by decide)
 refine⟨λp g=>g=H/\∃y:Str,((y=x/\Txt.startswith x ⟨#[45]⟩=Ε)∨x=⟨#[45]⟩++y)/\p=[Α (.str x),Α (.str y)],?_,?_⟩
 ·refine⟨1,Λ,x,1,Λ,Λ,Λ,R,Λ,_,Λ,?_⟩
  rcases p0 x with rfl|⟨c,y,rfl⟩
  ·rw[Η (show ¬V.str (Txt.slice ⟨#[]⟩ Β (Α 1))=V.str (υ "-") by decide)]
   exact aH ⟨Λ,_,.inl ⟨Λ,by decide⟩,Λ⟩
  ·rw[w8]
   by_cases a:c=45
   ·subst a
    rw[Ζ (show V.str ⟨#[45]⟩=V.str (υ "-") by decide)]
    refine aI ⟨1,Λ,_,1,Λ,Λ,Λ,R,?_⟩
    rw[fL]
    exact⟨Λ,y,.inr Λ,Λ⟩
   ·rw[Η (λz=>a (by have:=congrArg tl (V.str.inj z);exact(Φ this).1))]
    exact aH ⟨Λ,_,.inl ⟨Λ,by rw[e7];exact Η a⟩,Λ⟩
 rintro p g ⟨rfl,y,u,rfl⟩
 have Pj:y.length<=x.length:=by
  rcases u with ⟨rfl,_⟩|rfl
  ·exact ϛ _
  ·rw[fA];omega
 have A:eU y=Β->∀b,EU g b->Q .Fp b:=λh b B=>by
  have q:=q b B
  unfold im at q
  rcases u with ⟨rfl,r⟩|rfl
  ·rw[r,Θ (by decide),h]at q;exact q
  ·rw[e7,Ι (by decide),fL,h]at q;exact q
 refine⟨Λ,_,Λ,?_⟩
 by_cases G:y=⟨#[]⟩
 ·rw[Ζ (show V.str y=V.str (υ "") by rw[G];rfl)]
  refine aI (aI (A (jY λm S e=>?_) g (EU.refl g)))
  have:=Ħ.mpr (jX m)
  rw[←e,G]at this
  exact Κ this (by decide)
 rw[Η (show ¬V.str y=V.str (υ "") from λz=>G (V.str.inj z))]
 refine aH ⟨y,Λ,ώ Pj R,_,_,Λ,Λ,_,Λ,?_⟩
 by_cases h60:60<y.length
 ·rw[Ζ (show (60:Int)<(y.length:Nat) by omega)]
  refine aI (aI (A (jY λm S e=>?_) g (EU.refl g)))
  have:=dS (by decide) S
  rw[←e]at this
  omega
 rw[Η (show ¬(60:Int)<(y.length:Nat) by omega)]
 refine aH ⟨y,Λ,?_⟩
 refine b8 y.cps.size (by rw[Χ];show y.length<_;omega) (λi acc b=>b=g/\acc=((y.cps.toList.take i).filter eB).map λc=>V.str ⟨#[c]⟩) ⟨Λ,Λ⟩ (λi acc g h=>by rw[h.2,Μ];exact ώ (É _ _) (æ _ _)) (λi acc b hi h=>?_) (λacc b h=>?_)
 ·obtain⟨rfl,rfl⟩:=h
  refine⟨hi,λv I yy=>?_⟩
  obtain⟨rfl,c,a,rfl⟩:=yy
  refine⟨_,_,Λ,Λ,?_⟩
  rw[Q1]
  have VY:y.cps.toList[i]?=Α c:=by rw[Ż];exact a
  rw[í,VY,Ú,ϗ]
  refine⟨eB c,Λ,?_⟩
  cases Y:eB c with
  |true=>exact aI ⟨Λ,by simp[Y]⟩
  |false=>exact aH ⟨Λ,by simp[Y]⟩
 obtain⟨rfl,rfl⟩:=h
 rw[show y.cps.size=y.cps.toList.length from Â.symm,Ó]
 refine⟨ϛ _,λD hD=>?_⟩
 have B:=(EU.refl b).new (o:=.π ((y.cps.toList.filter eB).map λc=>V.str ⟨#[c]⟩)) hD
 have Z:(ο b D (.π ((y.cps.toList.filter eB).map λc=>V.str ⟨#[c]⟩))) D=Α (.π ((y.cps.toList.filter eB).map λc=>V.str ⟨#[c]⟩)):=ET
 generalize ο b D (.π ((y.cps.toList.filter eB).map λc=>V.str ⟨#[c]⟩))=I at B Z⊢
 refine⟨Ä _,λU IM=>?_⟩
 have J:=B.new (o:=.π []) IM
 have Ip:=(EU.refl I).new (o:=.π []) IM
 have g2:(ο I U (.π [])) U=Α (.π []):=ET
 generalize ο I U (.π [])=L at J Ip g2⊢
 have JS:∀c∈tl y,c∈tl x:=λc a=>by
  rcases u with ⟨rfl,_⟩|rfl
  ·exact a
  ·rw[gf];exact Å _ a
 refine neN (f:=sgD) (l:=y.cps.toList.filter eB) (.π (EX.of (Ip _ _ Z)) (vP _)) (.π (EX.of g2) .nil) ((jJ (m:=0) λz hz=>by
  obtain⟨c,a,rfl⟩:=ϟ.mp hz
  refine iU ?_
  unfold õ
  rw[←vr,Ā]
  intro d j
  have j:d=c:=by simpa using j
  subst j
  exact Ζ (wu O (JS _ (Ì.mp a).1))).le (by decide)) ⟨_,Λ,?_⟩
 cases X:(y.cps.toList.filter eB).isEmpty with
 | false =>
  refine aI (A (jY λm S e=>?_) L J)
  have:y.cps.toList.filter eB=[]:=J6.mpr λc a=>by
   rw[e]at a
   unfold eB
   rw[Ζ (T4 c (cK m c a))]
   decide
  rw[this]at X
  cases X
 |true =>
 have j:=λc a=>by
  have:=J6.mp (YE.mp X) c a
  unfold eB at this
  rw[ă,Bool.not_eq_false,decide_eq_true_eq]at this
  exact CK c this
 have FG:=λe=>G (jv e)
 have M:Ô y.cps.toList<10^60:=by
  have:=uW y.cps.toList 0 j
  refine Ϗ this ?_
  rw[Nat.zero_add,one_mul]
  exact Ĥ (by decide) (by rw[Â];show y.length<=60;omega)
 have N:=PySem.intText_digits j FG (by omega)
 have t:eU y=if y=al (Ô y.cps.toList)/\Ô y.cps.toList<10^60 then Α (Ô y.cps.toList) else Β:=rfl
 generalize Ô y.cps.toList=m at M N t
 refine aH ⟨y,_,Λ,N,by omega,(m:Int),Λ,lX M,Λ,_,Λ,?_⟩
 by_cases n:y=al m
 rotate_left
 ·rw[Η (λz=>n (by injection z with z;exact z.symm))]
  exact aI (aI (A (by rw[t,Θ λz=>n z.1]) L J))
 rw[Ζ (by rw[n];rfl)]
 rw[Ι ⟨n,M⟩]at t
 have q:=q L J
 unfold im at q
 refine aH ⟨Λ,_,Λ,?_⟩
 rcases u with ⟨rfl,r⟩|rfl
 ·rw[Η (λz=>by rw[V.str.inj z]at r;exact Κ r (by decide))]
  refine aH ⟨Λ,_,Λ,?_⟩
  rw[Ζ Λ]
  rw[r,Θ (by decide),t]at q
  exact aI ⟨y,_,Λ,N,by omega,q⟩
 ·rw[e7,Ι (by decide),fL,t]at q
  by_cases Po:m=0
  ·subst Po
   rw[Ζ (show V.str (⟨#[45]⟩++y)=V.str (υ "-0") by rw[n];decide)]
   exact aI q
  ·rw[Η (λz=>Po ?_)]
   ·refine aH ⟨Λ,_,Λ,?_⟩
    rw[Η (λz=>by have:=congrArg Str.length (V.str.inj z);rw[fA]at this;have:(⟨#[45]⟩:Str).length=1:=rfl;omega)]
    refine aH ⟨y,_,Λ,N,by omega,_,_,Λ,Λ,?_⟩
    obtain⟨k,rfl⟩:∃k,m=k+1:=⟨m - 1,by omega⟩
    rw[Int.zero_sub]
    exact q
   ·have h1:=congrArg tl (V.str.inj z)
    rw[gf]at h1
    have h2:tl y=[48]:=(Φ h1).2
    have h3:y=al 0:=jv (by rw[h2];decide)
    rw[n]at h3
    exact sk (ώ (dS (k:=60) (by decide) M) (by decide)) h3
inductive uj(P:Program)(w:À)(K:Ϣ)(c:Cs)(ts:Ts)(ys:Ys)(vs:List V)(H:Hp)(Q:VK)(E:XK):Prop
 |mk (a:YA) (s:YS) (d:Int) (_:vs=[.ref a.y,.ref a.tb,.int d]) (_:HP K c ts.told (Ff P w ts) ys H a s) (_:G5 a s) (_:1<=a.n/\a.n<=12) (_:∀(D:Ν)(e:Dd)(H':Hp),EU H H'->H D=Β->H' D=Α (.π (dC e))->AJ e->Q (.ref D) H')
abbrev NGd:List Str:=["_law_yard","_law_table_here","_law_draw_here","_law_moves","_law_place","_law_goal"]
theorem BU(J:G5 a s)(h:m∈bQ a s):AJ (.mv m):=by
 have n:=J.F3
 have o:=J.KN
 have p:=J.γ
 obtain⟨b,e⟩:=lf h
 cases m with
 | Gq k l =>
  obtain⟨f,t,g,c,i,_,_,d,_⟩:=uM (e)
  cases c
  exact⟨by have:=cb i;omega,by have:=cb d;omega⟩
 | on k l =>
  obtain⟨f,q,lk,g,c,j,_,_,d,_⟩:=uL (e)
  cases c
  exact⟨by have:=cb j;omega,by have:=cb d;omega⟩
 | Hm k =>
  have b:k<s.γ.length:=b
  show k<100
  omega
 | back k =>
  have b:k<s.γ.length:=b
  show k<100
  omega
theorem Nl:ap NGd ["_law_yard","_law_table_here","_law_draw_here"] (ag yE):=L2.F4
theorem BL(F:F0 K "_law_good" "_law_good" yE f fd)(T:Txt mg)(Y:mB K ys)(L:tI K c)(W:Wy K ts.told fw dw (Ff P w ts))(mm:ck K ys.Fb "moves" fm)(bm:Binds K dm ["self"] [])(Gm:EW P w K mg μ aL 7 fm dm ["self"] (lP K c ts.told (Ff P w ts) ys)):
  EW P w K mg μ aL 8 f fd ["_law_yard","_law_table_here","_law_draw_here"] (uj P w K c ts ys):=by
 refine F.ok Nl λcdv A N s0 H vs Q E U h=>?_
 obtain⟨a,s,d,rfl,O,hJ,hn,q⟩:=h
 have hu:=U.units
 refine⟨_,ad (aA (i:=3) Nl.nd Λ (ό Λ) (bY (pv 0) Y.cl mm Gm U bm .nil aw))
  (ad (aN (gc (PW.pt (dQ (ak aQ (ax aY (pv 2) ae) ae (aq _)) (dL (ak (qN hu) (pv 3) (aP ac) (aq _))))))
   (ad (aA (i:=4) Nl.nd Λ (ό Λ) (ax aY (ax bK (pv 2) ae) (ao (ao (pv 1) Λ) Λ)))
   (ad (aA (i:=5) Nl.nd Λ (ό Λ) (ax aY (ax bK (pv 2) ae) (ao (ao (pv 1) Λ) Λ)))
   (ah (az (aP (aa aD (aa (pv 4) (aa (pv 5) (aa (ax bL ae (ax aY (ax bK (pv 2) ae) ae)) (aa (ax fF (ax aY (ax bK (pv 2) ae) ae) ae) ac)))))))))) aG)
  (ah (az (aS dX Λ T.list PySem.Pv.boot_list (aa (ay aB (pv 3) (ax aY (ax bK (pv 2) ae) (aF aC Λ T.len PySem.boot_len (aa (pv 3) ac))) (λ_ _=>rfl)) ac))))),?_⟩
 refine⟨a.y,a.dy,_,Λ,O.Y.ρ,Λ,a,s,Λ,O,λM t X s3 hM Z R=>?_⟩
 refine⟨λb H'=>EU X H'/\(b=Ε->bQ a s≠[]),?_,?_⟩
 ·refine⟨_,_,Λ,Λ,(by show (0:Int)<4;decide),Λ,_,Λ,?_⟩
  refine iq (λ_=>⟨EU.refl _,λz=>by cases z⟩) λ_=>?_
  refine⟨Ä _,λe he=>?_⟩
  have j:=(EU.refl X).new (o:=.π []) he
  exact eqN (f:=xA) (l:=bQ a s) (.π (EX.of (j _ _ Z)) (k7 (Paired.mono (λ_ _ z=>z.keep (EU.Fw j)) R))) (.π (EX.of ET) .nil) (vq _) ⟨_,Λ,j,λz w=>by rw[w]at z;cases z⟩
 rintro b H4 ⟨j,hb⟩
 have u:=s3.trans j
 have r:=O.same W u
 cases b with
 | true =>
  obtain⟨JO,x,JA,FK,_⟩:=r.T.i
  have J:(0:Int)<(a.n:Int):=by omega
  refine aI ⟨_,_,Λ,Λ,⟨by decide,by decide⟩,a.tb,ts.told,JO,x,_,Λ,JA,W.cl,W.nl,FK,a.lx,c.land,a.F1,_,_,Λ,r.T.l.1,L.cl,L.np,Λ,_,_,Λ,Λ,J,?_⟩
  refine⟨_,_,Λ,Λ,⟨by decide,by decide⟩,a.tb,ts.told,JO,x,_,Λ,JA,W.cl,W.nl,FK,a.lx,c.land,a.F1,_,_,Λ,r.T.l.1,L.cl,L.np,Λ,_,_,Λ,Λ,J,_,_,Λ,Λ,⟨by decide,by decide⟩,_,_,Λ,Λ,(by show (0:Int)<3;decide),_,_,Λ,Λ,_,_,Λ,Λ,⟨by decide,by decide⟩,_,_,Λ,Λ,(by show (0:Int)<3;decide),_,_,Λ,Λ,by show 5<=Τ;decide,λD B=>?_⟩
  obtain⟨p,hp⟩:=oi (û (d / 8) (show(a.n:Int)≠0 by omega))
  obtain⟨g,hg⟩:=oi (û (d / 64) (show(a.n:Int)≠0 by omega))
  have FJ:=ì (d / 8) J
  have hgl:=ì (d / 64) J
  refine q D (.post p g (1+d / 512% 3) (d / 4096% 3 - 1)) _ (u.new B) (u.free B) ?_ ⟨by omega,by omega,by omega,ß (show(d / 4096% 3 - 1).natAbs<=60 by omega) (by decide)⟩
  rw[ET]
  show Α (HO.π [V.str "post",.int (d / 8% (a.n:Int)),.int (d / 64% (a.n:Int)),.int (1+d / 512% 3),.int (d / 4096% 3 - 1)])=Α (HO.π [V.str "post",.int p,.int g,.int (1+d / 512% 3),.int (d / 4096% 3 - 1)])
  rw[hp,hg]
 | false =>
  have FG:=hb Λ
  have S:=Paired.mono (λ_ _ z=>Hl.keep (EU.Fw j) z) R
  have C:=j _ _ Z
  have LD:t.length=(bQ a s).length:=by rw[Paired.length R,Μ]
  have HU:0<t.length:=by rw[LD];exact Ħ.mpr FG
  obtain⟨k,hk⟩:∃k:Nat,d / 8% (t.length:Int)=(k:Int):=oi (û _ (by omega))
  have HA:k<(bQ a s).length:=by have:=ì (d / 8) (show (0:Int)<(t.length:Int) by omega);omega
  obtain⟨v,hv,tm,rfl,G⟩:=Paired.at2 S (show((bQ a s).map iw)[k]?=Α (iw (bQ a s)[k]) by rw[Ç,Ψ HA];rfl)
  have I:=ÿ HA
  generalize (bQ a s)[k]=m at G I
  refine aH ⟨_,_,Λ,Λ,⟨by decide,by decide⟩,M,_,Λ,.inl (EX.of C),_,_,Λ,Λ,(by show (0:Int)<(t.length:Int);omega),M,_,_,_,Λ,Λ,EX.of C,(by rw[hk];exact aj hv),tm,_,Λ,.inr (Fn.of G),λD B=>?_⟩
  exact q D (.mv m) _ (u.new B) (u.free B) ET (BU hJ I)
end K83
namespace L2
open PySem PySem.Spec PyProof.Rows
theorem Uz(m:PT X.KY c tc)(n:CO b X as ta)(o:CO b X bs tb):
  CO b X [.If c as bs pos] (λD e H E=>tc e H λk g=>if k=Δ then ta D e g E else tb D e g E):=by
 intro a s e H D E I h
 refine Ĺ (Ë (wpAny_If (Q:=SP X a D) (bq (Ë (m a s e H _ (I.HH _) h) (λ_ _ (z:TP X.KY a e _ _ _)=>(z:TP X.KY a e _ _ _)) λ_ _ z=>Ö z) λd j ⟨g,i,l⟩=>?_)) (λf j q=>?_) λ_ _ z=>z)
 ·have i:=i.FO
  cases d with
  |true=>exact n a j e g D E i l
  |false=>exact o a j e g D E i l
 ·cases f with
  |next=>exact ċ q
  |ret v=>exact q
  |brk=>exact q
  |cont=>exact q
structure Iw(X:Cx)(ss:List Ã)(t:TS):Prop where
 h:Ib X ss t
structure Wu(X:Cx)(pos:Pos)(ks:List (Option Expr))(vs:List Expr)(J7:List (TE×TE)):Prop where
 h:RH X pos ks vs J7
section
variable {X:Cx}{st:Ã}{rest:List Ã}{t u:TS}
theorem dc(a:PS X st t)(b:Iw X rest u):Iw X (st:: rest) (rF t u):=⟨ad a b.h⟩
theorem U0(h:Ib X rest u):Iw X rest u:=⟨h⟩
theorem DL:Wu X pos [] [] []:=⟨Bu⟩
theorem jS(a:PE X k tk)(b:PE X v tv)(c:Wu X pos ks vs J7):Wu X pos (Α k:: ks) (v:: vs) ((tk,tv):: J7):=⟨yS a b c.h⟩
theorem Bt(b:X.N.Nodup)(c:X.N[i]?=Α x)(d:Loc X.env.scope x)(h:Wu X dp ks vs J7)(e:ks.all (·.isSome)=Δ)(f:ks.length=vs.length)(g:ks≠[])
  (a:ks.length<=15) (j:ĺ (.Dict ks vs dp) (Α (.Name x pos')) pos.line X.env=pure Ε) (l:X.fn x=Δ∨X.env.scope.names.lookup x=Α .local) (m:Iw X rest u):Iw X (.Assign [.Name x pos'] (.Dict ks vs dp) pos:: rest) (rF (AW (C0 J7) (ci i)) u):=
 ⟨ad (aA b c d (Bw h.h e f g a) j l) m.h⟩
structure AE(X:Cx)(e:Expr)(t:TE):Prop where
 h:PE X e t
structure Ww(X:Cx)(es:List Expr)(t:TA):Prop where
 h:PA X es t
variable {e a b:Expr}{es:List Expr}{te ta tb:TE}{tr:TA}
theorem dY(h:PE X e te):AE X e te:=⟨h⟩
theorem gA(c:fW X (binaryOp op) r)(d:AE X a ta)(f:AE X b tb):AE X (.BinOp a op b pos) (AG r ta tb):=⟨ax c d.h f.h⟩
theorem CA(c:oS X r)(d:AE X a ta)(f:AE X b tb)(g:wg b):AE X (.Subscript a b pos) (AG r ta tb):=⟨ay c d.h f.h g⟩
theorem i9(h:Ww X es tr):AE X (.List es pos) (Di tr):=⟨aP h.h⟩
theorem iA:Ww X [] xP:=⟨ac⟩
theorem bS(c:AE X e te)(d:Ww X es tr)(f:autoParam (Ϭ (e:: es) X.env=(Ε,eval e X.env):: Ϭ es X.env) η):Ww X (e:: es) (vg te tr):=⟨aa c.h d.h f⟩
theorem fZ:AE X (.Constant (.str x) j p) (tC (.str x)):=⟨aD⟩
theorem nO(c:AE X e te):Iw X [.Return (Α e) pos] (QL te):=⟨ah (az c.h)⟩
theorem l9(h:PS X st t):Iw X [st] t:=⟨ah h⟩
theorem U1(d:PT X c tc)(f:Iw X as t)(g:Iw X bs u)(i:Iw X rest v):Iw X (.If c as bs pos:: rest) (rF (vf (AV tc t u)) v):=⟨ad (gX (aN d f.h g.h)) i.h⟩
theorem yM(d:PT X c tc)(f:Iw X as t)(g:Iw X bs u):Iw X [.If c as bs pos] (AV tc t u):=⟨ah (aN d f.h g.h)⟩
theorem nP:Iw X [] Cz:=⟨aG⟩
theorem u7(d:PT X c tc)(f:Iw X as t)(g:Iw X bs u)(i:Iw X rest v):Iw X (.If c as bs pos:: rest) (rF (AV tc t u) v):=⟨ad (aN d f.h g.h) i.h⟩
end
end L2
namespace K83
open PySem L2
variable {P:Program}{w:À}{K:Ϣ}{mg:Str->Option Ο}{μ:ò}
noncomputable def AX:List (L2.Key×V):=[(Ą (υ "post"),.int 4),(Ą (υ "in"),.int 2),(Ą (υ "on"),.int 2),(Ą (υ "lie"),.int 1),(Ą (υ "back"),.int 1)]
noncomputable def rj(s:Ã):Scope:=match s with
 |.Assign _ (.ListComp _ _ sc _) _=>sc
 |_=>du
abbrev NDn:List Str:=["_law_yard","_law_row","_law_words","_law_numbers","_law_sizes","_law_bad"]
inductive ul(P:Program)(w:À)(K:Ϣ)(c:Cs)(ts:Ts)(ys:Ys)(vs:List V)(H:Hp)(Q:VK)(E:XK):Prop
 | mk (a:YA) (s:YS) (z x:Str) (ms:List Str) (_:vs=[.ref a.y,.str z]) (_:Txt.split z (υ " ")=x:: ms) (_:z.length<=4000000) (_:HP K c ts.told (Ff P w ts) ys H a s) (_:ms.length<=90) (_:∀u∈ms,u.length<=1000000/\õ u=Δ) (_:õ x=Δ) (_:VT s) (_:s.done.length<=10000) (_:s.EV.length<60)
  (_:(∀d,gd a s d->dC d≠dV x ms)->∀H',EU H H'->Q (.bl Ε) H') (_:∀d,gd a s d->dC d=dV x ms->∀(H':Hp)(s':YS),GZ a s d s'->Fm a.four H H'->Gj K ys H' a s'->Q (.bl Δ) H')
noncomputable def lH(x:Str):Int:=if (("post":Str)=x) then 4 else if (("in":Str)=x) then 2 else if (("on":Str)=x) then 2 else if (("lie":Str)=x) then 1 else if (("back":Str)=x) then 1 else -1
theorem AT[DecidableEq κ]{k:κ}(e:p.1≠k):iy (p:: r) k=iy r k:=by simp[iy,Ķ,e]
theorem Dm(x:Str):(iy AX (Ą x)).getD (.int (-1))=.int (lH x):=by
 have a:∀(y:Str)(n:Int)(r:List (L2.Key×V))(m:Int),(iy r (Ą x)).getD (.int (-1))=.int m->(iy ((Ą y,V.int n):: r) (Ą x)).getD (.int (-1))=.int (if y=x then n else m):=λy n r m h=>by
  by_cases e:y=x
  ·subst e;rw[mK (show(Ą y:L2.Key)=Ą y from Λ),Ι Λ];rfl
  ·rw[AT (λz=>e (Ą.inj z)),Θ e];exact h
 exact a _ _ _ _ (a _ _ _ _ (a _ _ _ _ (a _ _ _ _ (a _ _ _ _ Λ))))
theorem U2(d:Dd):lH (xp d)=(ly d).length:=by
 cases d with
 |post p g l u=>exact (by decide:lH (υ "post")=4)
 | mv m=>cases m with
  |Gq k l=>exact (by decide:lH (υ "in")=2)
  |on k l=>exact (by decide:lH (υ "on")=2)
  |Hm k=>exact (by decide:lH (υ "lie")=1)
  |back k=>exact (by decide:lH (υ "back")=1)
theorem Aq(e:dC d=dV x ms):xp d=x/\(ly d).map Α=ms.map im:=by
 rw[fJ]at e
 have c:=(Φ e).1
 have a:=(Φ e).2
 refine⟨V.str.inj c,?_⟩
 generalize ms.map im=b at a
 generalize ly d=f at a
 clear c e
 induction f generalizing b with
 | nil=>cases b with
  |nil=>rfl
  |cons z b=>cases a
 | cons n f h=>cases b with
  |nil=>cases a
  | cons z b =>
   have g:=(Φ a).1
   cases z with
   |none=>cases g
   |some z=>rw[ϳ,h b (Φ a).2,V.int.inj g]
theorem U3(h:gd a s d):∀i∈(ly d).take 3,0<=i:=by
 intro i b
 cases d with
 | post p g l u =>
  obtain⟨_,_,_,_,c,_⟩:=h
  simp only[ly,List.take,ύ,ϡ,or_false]at b
  rcases b with rfl|rfl|rfl<;>omega
 | mv m =>
  cases m<;>simp only[ly,List.take,ύ,ϡ,or_false]at b
  ·rcases b with rfl|rfl<;>omega
  ·rcases b with rfl|rfl<;>omega
  ·subst b;omega
  ·subst b;omega
theorem Ez(a:List (Option Int)):Ca .Fp (a.map iV)=a.any K2:=by
 unfold Ca
 rw[List.any_map]
 congr 1
 funext o
 cases o<;>rfl
theorem tu:∀{zs:List (Option Int)},zs.any K2=Ε->∃a:List Int,zs=a.map Α
 |[],_=>⟨[],Λ⟩
 |none:: _,h=>by cases h
 | some z:: zs,h=>by
  obtain⟨a,rfl⟩:=tu (zs:=zs) (by rw[q7]at h;exact h)
  exact⟨z:: a,Λ⟩
theorem Cd(a:List (Option Int)):(a.map iV).all jq=Δ:=by
 rw[Ā]
 intro v b
 obtain⟨o,_,rfl⟩:=ϟ.mp b
 cases o<;>rfl
theorem lR(a:List Int):(a.map Α).map iV=a.map V.int:=by rw[Á];rfl
theorem yj{a b:List Int}(h:a.map Α=b.map Α):a=b:=by
 have:=congrArg (List.filterMap id) h
 rw[Vn,Vn]at this
 simpa using this
theorem KS:ap NDn ["_law_yard","_law_row"] (ag rT):=L2.F4
theorem bkDn:FQ NDn (ag rT) (rj ((aJ rT).getD 1 (.Pass ⟨0,0,0,0⟩))) [] []:=L2.GR
theorem ndDn:(["_law_word"]:List Str).Nodup:=by decide +kernel
theorem BN(F:F0 K "_law_done" "_law_done" rT f fd)(T:Txt mg)(Y:mB K ys)(W:Wy K ts.told fw dw (Ff P w ts))(Ym:mg "YardError"=Α (.ref xc.yc))(mS:mg "_law_number"=Α (.ref fs))(ks:Ϩ K (.ref fs)=Δ)(bs:Binds K ds ["_law_word"] [])(Gs:EW P w K mg μ aL 1 fs ds ["_law_word"] ug)
  (mp:ck K ys.Fb "post" fp) (bp:Binds K dp EN []) (Gp:EW P w K mg μ (ix P w) 4 fp dp EN (qr K c xc ts.told (Ff P w ts) ys)) (mo:ck K ys.Fb "do" fo) (bo:Binds K Uc ["self","move"] []) (Go:EW P w K mg μ (ix P w) 8 fo Uc ["self","move"] (yh K c xc ts.told (Ff P w ts) ys)):
  EW P w K mg μ aL 9 f fd ["_law_yard","_law_row"] (ul P w K c ts ys):=by
 refine F.ok KS λcdv A outer s0 H vs Q E hr h=>?_
 obtain⟨a,s,z,x,t,rfl,hz,hzl,hI,hm9,Pb,hx,hS,HI,Ud,hE,q⟩:=h
 have FI:Fj 1 _:=hr.mono (by decide)
 have J8:Fj 4 _:=hr.mono (by decide)
 have hu:=hr.units
 have hu1:=ß (T3 (show 1<=64 by decide) _) hu
 refine⟨_,Iw.h (dc (aA (i:=2) KS.nd Λ (ό Λ) (aZ plainAttrs_str Ju type_str_split gH (pv 1) (aa aD ac)))
  (dc (dM (i:=3) (own:=["_law_word"]) (capN:=[]) (cap:=[]) bkDn Λ KS.nd Λ Λ (bu (aX bJ (pv 2) (bz ae) bC))
   (λC U I fp=>⟨aE (i:=0) ndDn Λ (ό Λ),bB,au Gs FI Λ mS ks bs .nil aw (aa (pv 0) ac)⟩))
  (Bt (i:=4) KS.nd Λ (ό Λ) (jS aD ae (jS aD ae (jS aD ae (jS aD ae (jS aD ae DL))))) Λ Λ (by intro z;cases z) (by decide) Λ (.inl Λ)
  (U0 (ad (aN (PW.pt (dQ (ak pC bA (pv 3) (by with_unfolding_all rfl)) (dQ (ak lB (yY hu1 (pv 4) (ay aB (pv 2) ae (λ_ _=>rfl)) (io fD ae) ⟨Λ,Λ,Λ,Λ⟩) (aF aC Λ T.len PySem.boot_len (aa (pv 3) ac)) (aq _))
    (dL (ak lC (aF (xt Λ) Λ T.min A4 (aa (aX bJ (pv 3) bC (bz ae)) ac)) ae (aq _))))))
   (ah (az iD)) aG)
  (ad (aA (i:=5) KS.nd Λ (ό Λ) iD)
  (ad (DK Λ Λ Λ Ym (Uz (ak aQ (ay aB (pv 2) ae (λ_ _=>rfl)) aD (aq _))
    (vW (sd (pv 0) Y.cl mp Gp J8 bp .nil Λ (aa (ay aB (pv 3) ae (λ_ _=>rfl)) (aa (ay aB (pv 3) ae (λ_ _=>rfl)) (aa (ay aB (pv 3) ae (λ_ _=>rfl)) (aa (ay aB (pv 3) ae (λ_ _=>rfl)) ac))))))
    (vW (sd (pv 0) Y.cl mo Go hr bo .nil Λ (aa (aS dJ Λ T.tuple PySem.Pv.boot_tuple (aa (ax bP (aP (aa (ay aB (pv 2) ae (λ_ _=>rfl)) ac)) (pv 3)) ac)) ac))))
   (λea oe=>ah (aA (i:=5) KS.nd Λ (ό Λ) iD)))
  (ah (az (yX (pv 5))))))))))),?_⟩
 refine⟨Λ,z,_,Λ,Λ,Λ,hzl,(by rw[hz];show t.length+1<=_;omega),λJ Kc=>?_⟩
 rw[hz]
 have s1:=(EU.refl H).new (o:=.π ((x:: t).map V.str)) Kc
 have g1:(ο H J (.π ((x:: t).map V.str))) J=Α (.π (V.str x:: t.map V.str)):=ET
 generalize ο H J (.π ((x:: t).map V.str))=H1 at s1 g1⊢
 refine⟨1,Λ,J,_,Λ,EX.of g1,λD hD=>?_⟩
 have ec:dH (V.str x:: t.map V.str) (Α 1) Β=t.map V.str:=k9 1 [V.str x] _ Λ
 rw[ec]
 have s2:=s1.new (o:=.π (t.map V.str)) hD
 have Ip:=(EU.refl H1).new (o:=.π (t.map V.str)) hD
 have g2:(ο H1 D (.π (t.map V.str))) D=Α (.π (t.map V.str)):=ET
 refine⟨D,Λ,⟨_,EX.of g2⟩,?_⟩
 dsimp only
 generalize ο H1 D (.π (t.map V.str))=H2 at s2 Ip g2⊢
 refine ij (K:=K) (F:=im) (R:=iV) (by omega) g2 (λi u H5 N hu s5 hN=>⟨u,Λ,(Pb u (Ϫ hu)).1,(Pb u (Ϫ hu)).2,λO s7=>hN _ s7⟩) λG H3 s3 hna=>?_
 have s4:=(s2.trans s3).new (o:=.π ((t.map im).map iV)) hna
 have Mo:=(Ip.trans s3).new (o:=.π ((t.map im).map iV)) hna
 have g4:(ο H3 G (.π ((t.map im).map iV))) G=Α (.π ((t.map im).map iV)):=ET
 generalize ο H3 G (.π ((t.map im).map iV))=H4 at s4 Mo g4⊢
 have gw4:=Mo _ _ g1
 refine λp hp=>⟨ET,AX,Λ,by decide,?_⟩
 have s5:EU H4 (ο (ο H4 p (.dK [])) p (.dK AX)):=λb o e=>by
  have X:=ai e hp
  rw[af X,af X];exact e
 have g5:(ο (ο H4 p (.dK [])) p (.dK AX)) p=Α (.dK AX):=ET
 show ci 4 (V.ref p) _ (ο (ο H4 p (.dK [])) p (.dK AX)) _
 generalize ο (ο H4 p (.dK [])) p (.dK AX)=H5 at s5 g5⊢
 have gw5:=s5 _ _ gw4
 have U4:=s5 _ _ g4
 have s05:=s4.trans s5
 have S:(∀d,gd a s d->dC d≠dV x t)->Q (.bl Ε) H5:=λh=>hE h _ s05
 refine⟨G,_,Λ,.inl (EX.of U4),Λ,Cd _,Ca .Fp ((t.map im).map iV),Λ,?_⟩
 rw[Ez]
 cases hn:(t.map im).any K2 with
 | true =>
  refine aI (aI (S λd L e=>?_))
  obtain⟨_,B⟩:=Aq e
  rw[←B,List.any_map]at hn
  exact Κ hn (by rw[Oh];rintro⟨_,_,z⟩;cases z)
 |false =>
 obtain⟨r,Jg⟩:=tu hn
 have Q4:r.length=t.length:=by have:=congrArg ê Jg;rw[Μ,Μ]at this;exact this.symm
 rw[Jg,lR]at U4
 have dI:∀{d},dC d=dV x t->xp d=x/\ly d=r:=λe=>let ⟨M,B⟩:=Aq e;⟨M,yj (B.trans Jg)⟩
 refine aH ⟨p,Λ,.inl ⟨AX,.inl g5⟩,J,_,0,_,Λ,Λ,EX.of gw5,aj (j:=0) Λ,1,Λ,_,L6.k (k:=Ą x) g5,?_⟩
 rw[show(iy AX (Ą x)).getD _=V.int (lH x) from Dm x]
 refine⟨G,_,Λ,.inl (EX.of U4),Λ,_,Λ,?_⟩
 rw[Μ]
 by_cases v:lH x=(r.length:Nat)
 rotate_left
 ·rw[Η (show ¬V.int (lH x)=V.int (r.length:Nat) from λz=>v (V.int.inj z))]
  refine aI (aI (S λd L e=>?_))
  obtain⟨M,B⟩:=dI e
  rw[←M,←B]at v
  exact v (U2 d)
 rw[Ζ (congrArg V.int v)]
 have Y8:1<=r.length:=by
  rcases Nat.eq_zero_or_pos r.length with z|z
  ·rw[z]at v
   exfalso
   revert v
   unfold lH
   repeat' split
   all_goals (intro z;cases z)
  ·exact z
 refine aH ⟨3,Λ,G,_,Λ,EX.of U4,λD2 Hd=>?_⟩
 rw[show dH (r.map V.int) Β (Α 3)=(r.take 3).map V.int by rw[ej];exact m8 _ 3]
 have Z:=s05.new (o:=.π ((r.take 3).map V.int)) Hd
 have Jj:=(EU.refl H5).new (o:=.π ((r.take 3).map V.int)) Hd
 have g6:(ο H5 D2 (.π ((r.take 3).map V.int))) D2=Α (.π ((r.take 3).map V.int)):=ET
 generalize ο H5 D2 (.π ((r.take 3).map V.int))=H6 at Z Jj g6⊢
 refine⟨D2,_,Λ,EX.of g6,(λz=>by have:=congrArg ê z;rw[Ñ]at this;have:min 3 r.length=0:=this;omega),λm hm hmin=>⟨_,_,Λ,Λ,_,Λ,?_⟩⟩
 by_cases Po:m<0
 ·rw[Ζ Po]
  refine aI (hE (λd L e=>?_) H6 Z)
  obtain⟨_,B⟩:=dI e
  have:=U3 L m (by rw[B];exact hm)
  omega
 rw[Η Po]
 have Ue:=Jj _ _ gw5
 have U5:=Jj _ _ U4
 have Li:=hI.same W Z
 have U6:(∀d,gd a s d->dC d≠dV x t)->∀I,EU H6 I->Q (.bl Ε) I:=λh I U=>hE h I (Z.trans U)
 clear S hE
 refine aH ⟨J,_,0,_,Λ,Λ,EX.of Ue,aj (j:=0) Λ,Λ,_,Λ,?_⟩
 have dVe:dV x t=.str x:: r.map V.int:=by unfold dV tO;rw[Jg,lR]
 cases h1:decide (V.str x=V.str (υ "post")) with
 | true =>
  have hxp:=V.str.inj (of_decide_eq_true h1)
  subst hxp
  have h4:r.length=4:=by
   have e:lH (υ "post")=4:=by decide
   rw[e]at v
   omega
  match r,h4 with
  |[i1,i2,i3,i4],_ =>
  refine aI ⟨a.y,a.dy,_,Λ,Li.Y.ρ,Λ,G,_,0,_,Λ,Λ,EX.of U5,aj (j:=0) Λ,G,_,1,_,Λ,Λ,EX.of U5,aj (j:=1) Λ,G,_,2,_,Λ,Λ,EX.of U5,aj (j:=2) Λ,G,_,3,_,Λ,Λ,EX.of U5,aj (j:=3) Λ,
   a.y,a.dy,a.tb,a.ro,a.la,a.le,a.li,a.dn,a.lx,a.F1,a.lt,a.n,a.Fo,a.ps,a.wy,s,.int i1,.int i2,.int i3,.int i4,Λ,Li.Y,Li.T,.int _,.int _,.int _,.int _,Ud,HI,λhb cl dd I ex U=>⟨ex,λea oe vs _ _ _ _=>⟨Δ,Λ,U6 (λd L e=>?_) I U⟩⟩,λhg O off Nd=>⟨Ε,Λ,?_⟩⟩
  ·rw[dVe]at e
   cases d with
   | post p g l u =>
    obtain⟨h1,h2,h3,h4,h5,h7,h8⟩:=L
    injection e with e0 e
    injection e with M e
    injection e with B e
    injection e with e3 e
    injection e with e4 e
    rw[←M,←B,←e3,←e4,rY (n:=a.n) (wy:=a.wy) h1 h2 h5 h7 h3 h4]at hb
    cases hb
   |mv m=>exact of_decide_eq_false (CG m) ((Φ ((fJ (.mv m)).symm.trans e)).1)
  ·obtain⟨p,g,l,u,M,B,e3,e4,L⟩:=vy Ud hg
   have e:dC (.post p g l u)=dV (υ "post") t:=by
    rw[dVe]
    show [V.str "post",.int p,.int g,.int l,.int u]=[V.str "post",.int i1,.int i2,.int i3,.int i4]
    rw[M,B,e3,e4]
   rw[M,B,e3,e4]at Nd
   refine q _ L e O _ Λ (λb o X e=>off b o (λz=>X ?_) (Z _ _ e)) Nd
   simp only[ύ,ϡ,or_false]at z⊢
   rcases z with z|z
   ·exact .inr (.inl z)
   ·exact .inr (.inr (.inr z))
 | false =>
  refine aH ⟨a.y,a.dy,_,Λ,Li.Y.ρ,Λ,J,_,0,_,Λ,Λ,EX.of Ue,aj (j:=0) Λ,by show 1<=Τ;decide,λo1 NU=>?_⟩
  have s7:=(EU.refl H6).new (o:=.π [.str x]) NU
  have g7:(ο H6 o1 (.π [.str x])) o1=Α (.π [.str x]):=ET
  generalize ο H6 o1 (.π [.str x])=O at s7 g7⊢
  refine⟨o1,G,_,_,Λ,Λ,g7,s7 _ _ U5,by rw[Μ,Χ];show 1+_<=_;omega,λCm Pa=>?_⟩
  have s8:=s7.new (o:=.π ([.str x]++r.map V.int)) Pa
  have g8:(ο O Cm (.π ([.str x]++r.map V.int))) Cm=Α (.π ([.str x]++r.map V.int)):=ET
  generalize ο O Cm (.π ([.str x]++r.map V.int))=H8 at s8 g8⊢
  refine⟨Cm,_,Λ,.inl ⟨EX.of g8,λtd htd=>?_⟩⟩
  have s9:=s8.new (o:=.tup (tO x (r.map Α))) htd
  have g9:(ο H8 td (.tup (tO x (r.map Α)))) td=Α (.tup (tO x (r.map Α))):=ET
  rw[show HO.tup ([.str x]++r.map V.int)=.tup (tO x (r.map Α)) by unfold tO;rw[lR];rfl]
  generalize ο H8 td (.tup (tO x (r.map Α)))=H9 at s9 g9⊢
  have eD:tO x (r.map Α)=dV x t:=by unfold dV;rw[Jg]
  refine⟨a,s,td,x,r.map Α,Λ,Li.same W s9,g9,by rw[Μ];omega,hx,hS,λGu cl dd I ex U=>⟨ex,λea oe vs _ _ _ _=>⟨Δ,Λ,U6 (λd L e=>?_) I (s9.trans U)⟩⟩,λm hm em O s7' st off Nd=>⟨Ε,Λ,?_⟩⟩
  ·cases d with
   |post p g l u=>exact of_decide_eq_false h1 (Φ e).1.symm
   |mv m=>exact Gu m L (e.trans eD.symm)
  ·exact q (.mv m) hm (em.trans eD) O _ ⟨s7',st,Λ⟩ (λb o X e=>off b o X (s9 _ _ (Z _ _ e))) Nd
def Wc(x:Str)(n:Nat):Prop:=x.length<=n/\∀c∈tl x,c≠10/\c≠32/\c<0x110000
instance (x:Str) (n:Nat):Decidable (Wc x n):=by unfold Wc;infer_instance
theorem Wc.app(h:Wc x n)(a:Wc y m):Wc (x++y) (n+m):=by
 refine⟨by rw[fA];have:=h.1;have:=a.1;omega,λc b=>?_⟩
 rw[gf]at b
 rcases ϝ.mp b with z|z
 ·exact h.2 c z
 ·exact a.2 c z
theorem mJ(a:0<n)(h:m<10^n):Wc (al m) n:=⟨dS a h,λc b=>by
 have:=cK m c b
 omega⟩
theorem tL(h:i.natAbs<10^61):Wc (wT (.int i)) 62:=by
 rcases lt_or_le i 0 with a|a
 ·obtain⟨k,rfl⟩:∃k:Nat,i= -((k+1:Nat):Int):=⟨(-i - 1).toNat,by omega⟩
  have b:k+1<10^61:=by rw[Qt,ó]at h;exact h
  rw[qg]
  exact(show Wc ⟨#[45]⟩ 1 from ⟨by decide,by decide⟩).app (mJ (n:=61) (by decide) b)
 ·obtain⟨m,rfl⟩:=Ï a
  rw[ó]at h
  have:=mJ (n:=61) (by decide) h
  exact⟨ώ this.1 (by decide),this.2⟩
theorem iJ(h:m<10^61):m.log2<1920:=by
 by_cases a:m=0
 ·subst a;decide
 ·exact(Nat.log2_lt a).mpr (Ϗ h (by decide))
inductive Wv:V->Prop
 |str (x:Str) (h:Wc x 90):Wv (.str x)
 |int (i:Int) (h:i.natAbs<10^61):Wv (.int i)
theorem Wv.wc(h:Wv v):Wc (wT v) 90:=by
 cases h with
 |str x h=>exact h
 |int i h=>have:=tL h;exact⟨ώ this.1 (by decide),this.2⟩
def WL(L:List V):Prop:=(∀v∈L,Wv v)/\L.length<=8/\L≠[]
theorem Ap(h:AJ d):WL (dC d)/\(dC d).length<=5/\2<=(dC d).length:=by
 obtain⟨b,f⟩:=uX h
 have c:Wc (xp d) 90:=by
  cases d with
  |post p g l u=>exact (by decide:Wc (υ "post") 90)
  | mv m=>cases m with
   |Gq k l=>exact (by decide:Wc (υ "in") 90)
   |on k l=>exact (by decide:Wc (υ "on") 90)
   |Hm k=>exact (by decide:Wc (υ "lie") 90)
   |back k=>exact (by decide:Wc (υ "back") 90)
 have j:1<=(ly d).length:=by
  cases d with
  |post p g l u=>show 1<=4;decide
  |mv m=>cases m<;>(simp only[ly,Ϛ];omega)
 rw[fJ,Ϛ,Μ]
 refine⟨⟨λv a=>?_,by rw[Ϛ,Μ];omega,ň _ _⟩,by omega,by omega⟩
 rcases ύ.mp a with rfl|a
 ·exact .str _ c
 ·obtain⟨i,e,rfl⟩:=ϟ.mp a
  exact .int i (ø (b i e) (by decide))
noncomputable def Iy:List Str:=["in","on","lie","back","post","go",""]
theorem pick(a:List Str)(h:∀x∈a,Wc x 90)(c:0<=i)(d:i<(a.length:Int)):∃x,rq (a.map V.str) i=Α (.str x)/\Wc x 90:=by
 obtain⟨j,rfl⟩:=Ï c
 have b:j<a.length:=by omega
 exact⟨a[j],aj (by rw[Ç,Ψ b];rfl),h _ (ÿ b)⟩
inductive qm(vs:List V)(H:Hp)(Q:VK)(E:XK):Prop
 |mk (D:Ν) (e:Dd) (d:Int) (_:vs=[.ref D,.int d]) (_:H D=Α (.π (dC e))) (_:AJ e) (_:∀(p:Ν)(L:List V)(H':Hp),EU H H'->H p=Β->H' p=Α (.π L)->WL L->Q (.ref p) H')
abbrev NSp:List Str:=["_law_deed","_law_draw_here","_law_way","_law_at"]
def tUp(K:Ϣ):TE:=X9 (Bl K) (jh 0) qj (xO (jh 3))
def tDn(K:Ϣ):TE:=X9 (Bl K) (jh 0) (xO (AG (wC λi j =>.int (i+j)) (jh 3) (tC (.int 1)))) qj
theorem tvm{σ:St}{i:Nat}{v:V}{H:Hp}{Q:VK}(h:σ[i]?=Α (Α v))(q:Q v H):jh i σ H Q:=by
 unfold jh
 rw[h]
 exact q
theorem C7(a:σ[0]?=Α (Α (.ref D)))(b:σ[3]?=Α (Α (.int (k:Int))))(g:H D=Α (.π L))
  (q:∀p,H p=Β->Q (.ref p) (ο H p (.π (L.take k)))):tUp K σ H Q:=by
 unfold tUp X9;refine tvm a ?_;unfold qj xO;exact tvm b ⟨_,Λ,D,L,Λ,EX.of g,λp c=>by rw[m8];exact q p c⟩
theorem C9(a:σ[0]?=Α (Α (.ref D)))(b:σ[3]?=Α (Α (.int (k:Int))))(g:H D=Α (.π L))
  (q:∀p,H p=Β->Q (.ref p) (ο H p (.π (L.drop (k+1))))):tDn K σ H Q:=by
 unfold tDn X9;refine tvm a ?_;unfold qj xO AG;refine tvm b ⟨_,_,Λ,Λ,_,Λ,D,L,Λ,EX.of g,λp c=>?_⟩
 rw[show((k:Int)+1)=((k+1:Nat):Int) from Λ,je];exact q p c
theorem qH{k:Nat}(l:σ[0]?=Α (Α (.ref D)))(m:σ[3]?=Α (Α (.int (k:Int))))(g:H D=Α (.π L))(n:WL L)(X:L.length<=5)
  (I:∀(b:Hp)(N:VK),EU H b->(∀v a,Wv v->EU b a->N v a)->te σ b N)
  (q:∀(p:Ν)(L:List V)(f:Hp),EU H f->H p=Β->f p=Α (.π L)->WL L->Q (.ref p) f):AG Bp (AG Bp (tUp K) (Di (vg te xP))) (tDn K) σ H Q:=by
 refine C7 l m g λc J=>?_
 have h:=(EU.refl H).new (o:=.π (L.take k)) J
 have r:(ο H c (.π (L.take k))) c=Α (.π (L.take k)):=ET
 generalize ο H c (.π (L.take k))=b at h r⊢
 refine I _ _ h λv a M s=>⟨by show 1<=Τ;decide,λd t=>?_⟩
 have x:=(h.trans s).new (o:=.π [v]) t
 have y:=(s.new (o:=.π [v]) t) _ _ r
 have A:(ο a d (.π [v])) d=Α (.π [v]):=ET
 generalize ο a d (.π [v])=B at x y A⊢
 refine⟨c,d,_,_,Λ,Λ,y,A,by rw[Ñ,Χ];show _+1<=_;omega,λe O=>?_⟩
 have i:=x.new (o:=.π (L.take k++[v])) O
 have C:(ο B e (.π (L.take k++[v]))) e=Α (.π (L.take k++[v])):=ET
 generalize ο B e (.π (L.take k++[v]))=R at i C⊢
 refine C9 l m (i _ _ g) λS E=>?_
 have F:=i.new (o:=.π (L.drop (k+1))) E
 have j:=((EU.refl R).new (o:=.π (L.drop (k+1))) E) _ _ C
 refine⟨e,S,_,_,Λ,Λ,j,ET,by rw[Ξ,Ñ,ą,Χ];show _+1+_<=_;omega,λT G=>q T _ _ (F.new G) (F.free G) ET ⟨λu U=>?_,?_,?_⟩⟩
 ·rcases ϝ.mp U with z|z
  ·rcases ϝ.mp z with z|z
   ·exact n.1 u (Ď z)
   ·rw[ϋ.mp z];exact M
  ·exact n.1 u (ī z)
 ·rw[Ξ,Ξ,Ñ,ą];show _+1+_<=_;omega
 ·simp
theorem AGi{r:R2}{ta tb:TE}{σ:St}{H:Hp}{Q:VK}(h:ta σ H λx H1=>tb σ H1 λy H2=>r x y H2 Q):AG r ta tb σ H Q:=h
theorem Px:ap NSp ["_law_deed","_law_draw_here"] (ag ut):=L2.F4
theorem zi(F:F0 K "_law_spoiled" "_law_spoiled" ut f fd)(T:Txt mg):EW P w K mg μ aL 1 f fd ["_law_deed","_law_draw_here"] qm:=by
 refine F.ok Px λcdv A outer s0 H vs Q E hr h=>?_
 obtain⟨D,e,d,rfl,b,hd,q⟩:=h
 have up:∀{X:Cx}{C G:Expr}{p c:Pos},PE X C (jh 0)->PE X G (jh 3)->PE X (.Subscript C (.Slice Β (Α G) Β c) p) (tUp X.K):=λU Y=>aX bJ U bC (bz Y)
 have I:∀{X:Cx}{C G:Expr}{p c p3 p4:Pos}{j:Nat},PE X C (jh 0)->PE X G (jh 3)->PE X (.Subscript C (.Slice (Α (.BinOp G .Add (.Constant (.int 1) j p4) p3)) Β Β c) p) (tDn X.K):=λU Y=>aX bJ U (bz (ax bL Y ae)) bC
 refine⟨_,Iw.h (dc (aA (i:=2) Px.nd Λ (ό Λ) (ax aY (pv 1) ae))
  (dc (aA (i:=3) Px.nd Λ (ό Λ) (ax bL ae (ax aY (ax bK (pv 1) ae) (ax fF (aF aC Λ T.len PySem.boot_len (aa (pv 0) ac)) ae))))
  (u7 (ak aQ (pv 2) ae (aq _)) (nO (gA bP (gA bP (dY (up (pv 0) (pv 3))) (i9 (bS (dY (aS Fz Λ T.str PySem.Pv.boot_str (aa (ax bL (ay aB (pv 0) (pv 3) (λ_ _=>rfl)) ae) ac))) iA))) (dY (I (pv 0) (pv 3))))) nP
  (u7 (ak aQ (pv 2) ae (aq _)) (nO (gA bP (dY (up (pv 0) (pv 3))) (dY (I (pv 0) (pv 3))))) nP
  (u7 (ak aQ (pv 2) ae (aq _)) (nO (gA bP (dY (pv 0)) (i9 (bS (dY (ax aY (ax bK (pv 1) ae) ae)) iA)))) nP
  (u7 (ak aQ (pv 2) ae (aq _)) (nO (gA bP (i9 (bS (CA aB (i9 (bS fZ (bS fZ (bS fZ (bS fZ (bS fZ (bS fZ (bS fZ iA)))))))) (dY (ax aY (ax bK (pv 1) ae) ae)) (λ_ _=>rfl)) iA)) (dY (aX bJ (pv 0) (bz ae) bC)))) nP
  (u7 (ak aQ (pv 2) ae (aq _)) (nO (gA bP (gA bP (dY (up (pv 0) (pv 3))) (i9 (bS (gA fS fZ (dY (aS Fz Λ T.str PySem.Pv.boot_str (aa (ay aB (pv 0) (pv 3) (λ_ _=>rfl)) ac)))) iA))) (dY (I (pv 0) (pv 3))))) nP
  (u7 (ak aQ (pv 2) ae (aq _)) (nO (gA bP (gA bP (dY (up (pv 0) (pv 3))) (i9 (bS (gA fS fZ (dY (aS Fz Λ T.str PySem.Pv.boot_str (aa (ay aB (pv 0) (pv 3) (λ_ _=>rfl)) ac)))) iA))) (dY (I (pv 0) (pv 3))))) nP
  (nO (gA bP (gA bP (dY (up (pv 0) (pv 3))) (i9 (bS (CA aB (i9 (bS fZ (bS fZ (bS fZ (bS fZ (bS fZ iA)))))) (dY (ax aY (ax bK (pv 1) ae) ae)) (λ_ _=>rfl)) iA))) (dY (I (pv 0) (pv 3))))))))))))),?_⟩
 obtain⟨r,Z,Y⟩:=Ap hd
 refine⟨_,_,Λ,Λ,(by show (0:Int)<7;decide),_,_,Λ,Λ,⟨by decide,by decide⟩,D,_,Λ,.inl (EX.of b),_,_,Λ,Λ,_,_,Λ,Λ,(by show (0:Int)<((dC e).length:Int) - 1;omega),_,_,Λ,Λ,?_⟩
 obtain⟨k,hk,Wx,VW⟩:∃k:Nat,1+d / 8% (((dC e).length:Int) - 1)=(k:Int)/\1<=k/\k<(dC e).length:=by
  have h0:=û (d / 8) (show((dC e).length:Int) - 1≠0 by omega)
  have U:=ì (d / 8) (show (0:Int)<((dC e).length:Int) - 1 by omega)
  exact⟨(1+d / 8% (((dC e).length:Int) - 1)).toNat,by omega,by omega,by omega⟩
 rw[hk]
 generalize d% 7=m
 obtain⟨i,Nm,hi⟩:∃i:Int,rq (dC e) (k:Int)=Α (.int i)/\i.natAbs<10^60:=by
  obtain⟨j,rfl⟩:∃j,k=j+1:=⟨k - 1,by omega⟩
  have hj:j<(ly e).length:=by rw[fJ,Ϛ,Μ]at VW;omega
  exact⟨(ly e)[j],aj (by rw[fJ,List.getElem?_cons_succ,Ç,Ψ hj];rfl),(uX hd).1 _ (ÿ hj)⟩
 have VQ:(i+1).natAbs<10^61:=ß (show(i+1).natAbs<=10^60 by omega) (by decide)
 have Uj:i.natAbs<10^61:=ø hi (by decide)
 have J:=tL Uj
 have L:=tL VQ
 have eL:=EU.refl H
 refine⟨Λ,_,Λ,iq (λ_=>?_) λ_=>?_⟩
 ·unfold QL;exact qH (k:=k) Λ Λ b r Z (λn N a t=>⟨D,_,_,_,Λ,Λ,EX.of (a _ _ b),Nm,_,_,Λ,Λ,_,Λ,iJ VQ,t _ _ (.str _ ⟨ώ L.1 (by decide),L.2⟩) (EU.refl _)⟩) q
 refine⟨Λ,_,Λ,iq (λ_=>?_) λ_=>?_⟩
 ·unfold QL;refine AGi (C7 (k:=k) Λ Λ b λg M=>?_)
  have a:=(EU.refl H).new (o:=.π ((dC e).take k)) M
  have O:(ο H g (.π ((dC e).take k))) g=Α (.π ((dC e).take k)):=ET
  generalize ο H g (.π ((dC e).take k))=n at a O⊢
  refine C9 (k:=k) Λ Λ (a _ _ b) λc B=>?_
  have l:=a.new (o:=.π ((dC e).drop (k+1))) B
  have SK:=((EU.refl n).new (o:=.π ((dC e).drop (k+1))) B) _ _ O
  refine⟨g,c,_,_,Λ,Λ,SK,ET,by rw[Ñ,ą,Χ];omega,λR s=>q R _ _ (l.new s) (l.free s) ET ⟨λu S=>?_,?_,?_⟩⟩
  ·rcases ϝ.mp S with z|z
   ·exact r.1 u (Ď z)
   ·exact r.1 u (ī z)
  ·rw[Ξ,Ñ,ą];omega
  ·intro z
   have:=congrArg ê z
   rw[Ξ,Ñ]at this
   have:min k (dC e).length+_=0:=this
   omega
 refine⟨Λ,_,Λ,iq (λ_=>?_) λ_=>?_⟩
 ·refine⟨_,_,Λ,Λ,⟨by decide,by decide⟩,_,_,Λ,Λ,(by show (0:Int)<3;decide),by show 1<=Τ;decide,λc B=>?_⟩
  have l:=(EU.refl H).new (o:=.π [.int (d / 64% 3)]) B
  refine⟨D,c,_,_,Λ,Λ,l _ _ b,ET,by rw[Χ];show _+1<=_;omega,λR s=>q R _ _ (l.new s) (l.free s) ET ⟨λu S=>?_,by rw[Ξ];show _+1<=_;omega,by simp⟩⟩
  rcases ϝ.mp S with z|z
  ·exact r.1 u z
  ·rw[ϋ.mp z]
   exact .int _ (ß (show(d / 64% 3).natAbs<=3 by omega) (by decide))
 refine⟨Λ,_,Λ,iq (λ_=>?_) λ_=>?_⟩
 ·obtain⟨x,hx,v⟩:=pick Iy (by decide) (û (d / 64) (show (7:Int)≠0 by decide)) (ì (d / 64) (show (0:Int)<7 by decide))
  refine⟨by show 7<=Τ;decide,λg M=>?_⟩
  have a:=(EU.refl H).new (o:=.π (Iy.map V.str)) M
  have O:(ο H g (.π (Iy.map V.str))) g=Α (.π (Iy.map V.str)):=ET
  change _
  generalize hH1:ο H g _=n
  rw[show ο H g (.π (Iy.map V.str))=n from hH1]at a O
  refine⟨_,_,Λ,Λ,⟨by decide,by decide⟩,_,_,Λ,Λ,(by show (0:Int)<7;decide),g,_,_,_,Λ,Λ,EX.of O,hx,by show 1<=Τ;decide,λc B=>?_⟩
  have l:=a.new (o:=.π [.str x]) B
  have g2:(ο n c (.π [.str x])) c=Α (.π [.str x]):=ET
  generalize ο n c (.π [.str x])=H2 at l g2⊢
  refine⟨1,Λ,D,_,Λ,EX.of (l _ _ b),λp3 ID=>?_⟩
  rw[show dH (dC e) (Α 1) Β=(dC e).drop 1 from je _ 1]
  have s3:=l.new (o:=.π ((dC e).drop 1)) ID
  have g23:=((EU.refl H2).new (o:=.π ((dC e).drop 1)) ID) _ _ g2
  refine⟨c,p3,_,_,Λ,Λ,g23,ET,by rw[ą,Χ];show 1+_<=_;omega,λR s=>q R _ _ (s3.new s) (s3.free s) ET ⟨λu S=>?_,by rw[Ξ,ą];show 1+_<=_;omega,by simp⟩⟩
  rcases ϝ.mp S with z|z
  ·rw[ϋ.mp z];exact .str _ v
  ·exact r.1 u (ī z)
 refine⟨Λ,_,Λ,iq (λ_=>?_) λ_=>?_⟩
 ·have y:=(show Wc (υ "0") 1 from ⟨by decide,by decide⟩).app J
  unfold QL;exact qH (k:=k) Λ Λ b r Z (λn N a t=>⟨D,_,_,_,Λ,Λ,EX.of (a _ _ b),Nm,i,Λ,iJ Uj,_,_,Λ,Λ,by rw[Χ,←fA];exact ώ y.1 (by decide),t _ _ (.str _ ⟨ώ y.1 (by decide),y.2⟩) (EU.refl _)⟩) q
 refine⟨Λ,_,Λ,iq (λ_=>?_) λ_=>?_⟩
 ·have y:=(show Wc (υ "-") 1 from ⟨by decide,by decide⟩).app J
  unfold QL;exact qH (k:=k) Λ Λ b r Z (λn N a t=>⟨D,_,_,_,Λ,Λ,EX.of (a _ _ b),Nm,i,Λ,iJ Uj,_,_,Λ,Λ,by rw[Χ,←fA];exact ώ y.1 (by decide),t _ _ (.str _ ⟨ώ y.1 (by decide),y.2⟩) (EU.refl _)⟩) q
 obtain⟨x,hx,v⟩:=pick ["","x","+1","1.","-"] (by decide) (û (d / 64) (show (5:Int)≠0 by decide)) (ì (d / 64) (show (0:Int)<5 by decide))
 unfold Cz;(try dsimp only);unfold QL;(try dsimp only)
 refine qH (k:=k) ?_ ?_ b r Z ?_ q
 ·rfl
 ·rfl
 exact(λn N a t=>⟨by show 5<=Τ;decide,λg M=>⟨_,_,Λ,Λ,⟨by decide,by decide⟩,_,_,Λ,Λ,(by show (0:Int)<5;decide),g,_,_,_,Λ,Λ,EX.of ET,hx,t _ _ (.str _ v) ((EU.refl _).new M)⟩⟩)
end K83
namespace L2
open PySem
theorem EW.ex{e:Type}{d:e->Sp}(h:∀i,EW P w K mg μ CX k f fd ps (d i)):EW P w K mg μ CX k f fd ps (λb H Q E=>∃i,d i b H Q E):=
 ⟨λb H Q E c=>by obtain⟨i,q⟩:=c;exact(h i).len b H Q E q,λA a s H args us b Q E g j l m c=>by obtain⟨i,n⟩:=c;exact(h i).run A a s H args us b Q E g j l m n⟩
end L2
namespace K83
open PySem L2
variable {P:Program}{w:À}{K:Ϣ}{mg:Str->Option Ο}{μ:ò}
structure JK(y:List Str):Prop where
 ne:y≠[]
 len:y.length<=8
 wc:∀u∈y,Wc u 90
theorem WL.ws(h:WL L):JK (L.map wT):=by
 refine⟨λz=>h.2.2 (ĥ.mp z),by rw[Μ];exact h.2.1,λu a=>?_⟩
 obtain⟨v,b,rfl⟩:=ϟ.mp a
 exact(h.1 v b).wc
theorem Wc.no(h:Wc x n):AD x/\õ x=Δ:=by
 refine⟨⟨λz=>(h.2 10 z).1 Λ,λz=>(h.2 32 z).2.1 Λ⟩,?_⟩
 unfold õ
 rw[←vr,Ā]
 exact λc a=>Ζ (h.2 c a).2.2
theorem JK.cut(h:JK y):Txt.split (Txt.join blank y) blank=y/\(Txt.join blank y).length<=1000/\(y.map (·.length)).sum+y.length* blank.length<=1000:=by
 have b:=Ð _ λu a=>(h.wc u a).1
 have c:=ñ blank y
 have d:y.length* blank.length=y.length:=Ţ _
 have e:=h.len
 refine⟨cC (by decide) h.ne λu a=>(h.wc u a).no.1.2,?_,by omega⟩
 rw[show Txt.join blank y=ĭ blank y from à _ _]
 omega
def Q5(a:YA)(rv:List V)(DW:List (List Str)):Prop:=∃(A B:List (List Str))(y:List Str)(ds:List Dd)(s:YS),DW=A++y:: B/\Hn a rv ds s/\A=ds.map rp/\∀d,gd a s d->dC d≠tG y
theorem Q5.more(h:Q5 a rv DW)(z:List Str):Q5 a rv (DW++[z]):=by
 obtain⟨A,B,y,b,s,e,t,c,d⟩:=h
 exact⟨A,B++[z],y,b,s,by rw[e,Ù];rfl,t,c,d⟩
theorem Cg(e:dC d=dV x a):rp d=x:: a:=by
 obtain⟨c,b⟩:=Aq e
 unfold rp
 rw[fJ,ϳ,c]
 congr 1
 generalize ly d=f at b
 clear e c
 induction f generalizing a with
 | nil=>cases a with
  |nil=>rfl
  |cons m a=>cases b
 | cons n f g=>cases a with
  |nil=>cases b
  | cons m a =>
   have h:=(Φ b).1
   rw[ϳ,ϳ,g (Φ b).2,(y8 h.symm).1]
noncomputable def bN(y:List Str):V:=.str (Txt.join blank y)
structure rn(a:YA)(rv:List V)(good:Bool)(DW:List (List Str))(s:YS):Prop where
 LL:∃ds,Hn a rv ds s/\ds.length<=DW.length/\(good=Δ->DW=ds.map rp)
 bad:good=Ε->Q5 a rv DW
 ws:∀y∈DW,JK y
inductive tY(P:Program)(w:À)(K:Ϣ)(c:Cs)(ts:Ts)(ys:Ys)(vs:List V)(H:Hp)(Q:VK)(E:XK):Prop
 | mk (sa:Ν) (ns:List Int) (a:YA) (rv:List V) (_:vs=[.ref sa,.ref a.tb,.ref a.y]) (_:H sa=Α (.π (ns.map V.int))) (_:sa∉a.four) (_:HP K c ts.told (Ff P w ts) (yx ys []) H a (Y0 rv a.n)) (_:G5 a (Y0 rv a.n)) (_:1<=a.n/\a.n<=12)
  (_:∀(p D:Ν)(good:Bool)(DW:List (List Str))(s:YS)(H':Hp),Fm a.four H H'->H' p=Α (.tup [.ref D,.bl good])->H' D=Α (.π (DW.map bN))->HP K c ts.told (Ff P w ts) (yx ys []) H' a s->DW.length<=20->rn a rv good DW s->Q (.ref p) H')
abbrev NRw:List Str:=["_law_script","_law_table_here","_law_yard","_law_rows_here","_law_good_here","_law_k","_law_draw_here","_law_deed","_law_row"]
noncomputable def U7(s:Ã):Scope:=match s with
 |.Assign _ (.Call _ [.ListComp _ _ sc _] _ _) _=>sc
 |_=>du
structure RwM(P:Program)(w:À)(K:Ϣ)(mg:Str->Option Ο)(μ:ò)(c:Cs)(ts:Ts)(ys:Ys)(fd fg fs fn:Ν)(dd dg ds dn:ë):Prop where
 md:mg "_law_draw"=Α (.ref fd)
 kd:Ϩ K (.ref fd)=Δ
 bd:Binds K dd ["_law_script","_law_k"] []
 Gd:EW P w K mg μ aL 1 fd dd ["_law_script","_law_k"] (jI K)
 Zz:mg "_law_good"=Α (.ref fg)
 kg:Ϩ K (.ref fg)=Δ
 bg:Binds K dg ["_law_yard","_law_table_here","_law_draw_here"] []
 Gg:∀ex,EW P w K mg μ aL 8 fg dg ["_law_yard","_law_table_here","_law_draw_here"] (uj P w K c ts (yx ys ex))
 ms:mg "_law_spoiled"=Α (.ref fs)
 ks:Ϩ K (.ref fs)=Δ
 bs:Binds K ds ["_law_deed","_law_draw_here"] []
 Gs:EW P w K mg μ aL 1 fs ds ["_law_deed","_law_draw_here"] qm
 mn:mg "_law_done"=Α (.ref fn)
 kn:Ϩ K (.ref fn)=Δ
 bn:Binds K dn ["_law_yard","_law_row"] []
 Gn:∀ex,EW P w K mg μ aL 9 fn dn ["_law_yard","_law_row"] (ul P w K c ts (yx ys ex))
theorem Je:ap NRw ["_law_script","_law_table_here","_law_yard"] (ag rL):=L2.F4
theorem bkRw:FQ NRw (ag rL) (U7 ((m5 ((aJ rL).getD 2 (.Pass ⟨0,0,0,0⟩))).getD 3 (.Pass ⟨0,0,0,0⟩))) [] []:=L2.GR
theorem ndRw:(["_law_word"]:List Str).Nodup:=by decide +kernel
theorem B5(F:F0 K "_law_rows" "_law_rows" rL f df)(T:Txt mg)(W:Wy K ts.told fw dw (Ff P w ts))(M:RwM P w K mg μ c ts ys fd fg fs fn dd dg t dn):
  EW P w K mg μ aL 10 f df ["_law_script","_law_table_here","_law_yard"] (tY P w K c ts ys):=by
 refine F.ok Je λcdv A outer s0 H vs Q E hr h=>?_
 obtain⟨I,ns,a,rv,rfl,hS,hsa,hI,hJ,Sz,q⟩:=h
 have FI:Fj 1 _:=hr.mono (by decide)
 have TU:Fj 8 _:=hr.mono (by decide)
 have GG:=EW.ex M.Gg
 have GN:=EW.ex M.Gn
 refine⟨_,ad (aA (i:=3) Je.nd Λ (ό Λ) (aP ac))
  (ad (aA (i:=4) Je.nd Λ (ό Λ) iD)
  (ad (cF ç Λ (b6 Λ T.range (aa (aF (xv Λ) Λ T.min A4 (aa ae (aa (aF aC Λ T.len PySem.boot_len (aa (pv 0) ac)) ac))) ac)) (aE (i:=5) Je.nd Λ (ό Λ))
   (ad (aA (i:=6) Je.nd Λ (ό Λ) (au M.Gd FI Λ M.md M.kd M.bd .nil aw (aa (pv 0) (aa (ax bL ae (pv 5)) ac))))
   (ad (aA (i:=7) Je.nd Λ (ό Λ) (au GG TU Λ M.Zz M.kg M.bg .nil aw (aa (pv 2) (aa (pv 1) (aa (ax bK (pv 6) ae) ac)))))
   (ad (gX (aN (PW.pt (fR (ak aQ (ax aY (pv 6) ae) ae (aq _)) (dR (ak jW (ax aY (au M.Gd FI Λ M.md M.kd M.bd .nil aw (aa (pv 0) (aa ae ac))) ae) ae (aq _)))))
     (ah (aA (i:=7) Je.nd Λ (ό Λ) (au M.Gs FI Λ M.ms M.ks M.bs .nil aw (aa (pv 7) (aa (ax bK (pv 6) ae) ac))))) aG))
   (ad (aA (i:=8) Je.nd Λ (ό Λ) (aZ plainAttrs_str slot_str_join type_str_join eV aD (aa (aV (own:=["_law_word"]) (capN:=[]) (cap:=[]) bkRw Λ (bu (pv 7))
     (λC s' m fp=>⟨aE (i:=0) ndRw Λ (ό Λ),bB,aS (Fz.or jt) Λ T.str PySem.Pv.boot_str (aa (pv 0) ac)⟩)) ac)))
   (ad (aU (aZ plainAttrs_list PySem.F.slot_list_append PySem.F.type_list_append cy (pv 3) (aa (pv 8) ac)))
   (ah (aN (PW.pt (fR (b9 (pv 4)) (dR (bV (b9 (au GN hr Λ M.mn M.kn M.bn .nil aw (aa (pv 2) (aa (pv 8) ac)))))))) (ah (aA (i:=4) Je.nd Λ (ό Λ) iD)) aG))))))))
  (ah (az (bF (aa (pv 3) (aa (pv 4) ac))))))),?_⟩
 refine⟨Ä _,λD hD=>?_⟩
 have s1:=(EU.refl H).new (o:=.π []) hD
 have g1:(ο H D (.π [])) D=Α (.π []):=ET
 generalize hH1:ο H D (.π [])=H1 at s1 g1⊢
 have S:=hI.same W s1
 have Ja:=hI.Y.exs s1 λb r=>by
  rw[ϋ.mp r];exact .inr ⟨hD,_,g1⟩
 have hD4:=so hI.Y hD
 have hsD:=ai hS hD
 have NY:∀b∈a.four++[D],∃xs,H1 b=Α (.π xs):=λb r=>by
  rcases ϝ.mp r with z|z
  ·exact S.Y.Kb b z
  ·rw[ϋ.mp z];exact⟨_,g1⟩
 have hsX:I∉a.four++[D]:=λz=>by
  rcases ϝ.mp z with z|z
  ·exact hsa z
  ·exact hsD (ϋ.mp z)
 have U:=s1 _ _ hS
 obtain⟨N,hN,hN20⟩:∃N:Nat,(if ((ns.map V.int).length:Int)<20 then ((ns.map V.int).length:Int) else 20)=(N:Int)/\N<=20:=by
  by_cases z:((ns.map V.int).length:Int)<20
  ·exact⟨(ns.map V.int).length,by rw[Ι z],by omega⟩
  ·exact⟨20,by rw[Θ z];rfl,ϛ _⟩
 refine⟨I,_,Λ,.inl (EX.of U),_,_,Λ,?_⟩
 rw[hN]
 refine⟨(N:Int),Λ,by omega,by omega,?_⟩
 rw[Ϙ]
 have X:∀{m},Fm (a.four++[D]) H1 m->FD H1 m:=λo=>Fm.Fw NY o
 refine cz (n:=N) (λi σ m=>∃(g:Bool)(a5 a6 a7 a8:Option V)(l:List (List Str))(t:List Dd)(s:YS),Fm (a.four++[D]) H1 m/\m D=Α (.π (l.map bN))/\Gj K (yx ys [D]) m a s/\l.length=i/\(∀y∈l,JK y)/\Hn a rv t s/\t.length<=i/\(g=Δ->l=t.map rp)/\(g=Ε->Q5 a rv l)/\σ=[Α (.ref I),Α (.ref a.tb),Α (.ref a.y),Α (.ref D),Α (.bl g),a5,a6,a7,a8])
  ⟨Δ,Β,Β,Β,Β,[],[],_,EU.F8 (EU.refl _),g1,Ja,Λ,(λy G=>by cases G),.nil,ϛ _,λ_=>rfl,(λz=>by cases z),Λ⟩ ?_ ?_
 ·rintro i σ m hi ⟨g,a5,a6,a7,a8,l,t,s,o,gD,hY,R,JF,B,Mb,HB,LQ,rfl⟩
  rw[ł]
  have JH:HP K c ts.told (Ff P w ts) (yx ys [D]) m a s:=⟨hY,S.T.keep W (X o),S.O,(B.LI hJ).ok⟩
  have LM:=B.LI hJ
  refine⟨_,_,Λ,Λ,I,ns,_,Λ,EX.of (o _ _ hsX U),by omega,by omega,λd H4 s4 _=>?_⟩
  refine⟨_,_,Λ,Λ,⟨by decide,by decide⟩,[D],a,s,d / 7,Λ,JH.same W s4,LM,Sz,λDd e H5 s5 hDd Z he=>?_⟩
  have II:=s4.trans s5
  have gS5:=II _ _ (o _ _ hsX U)
  refine⟨λσ' m=>EU H5 m/\∃L Dl,m Dl=Α (.π L)/\WL L/\∃a5 a8:Option V,σ'=[Α (.ref I),Α (.ref a.tb),Α (.ref a.y),Α (.ref D),Α (.bl g),a5,Α (.int d),Α (.ref Dl),a8],?_,?_⟩
  ·have μ:EU H5 H5/\∃L Dl,H5 Dl=Α (.π L)/\WL L/\∃a5' a8':Option V,[Α (V.ref I),Α (.ref a.tb),Α (.ref a.y),Α (.ref D),Α (.bl g),Α (.int i),Α (.int d),Α (.ref Dd),a8]=[Α (V.ref I),Α (.ref a.tb),Α (.ref a.y),Α (.ref D),Α (.bl g),a5',Α (.int d),Α (.ref Dl),a8']:=⟨EU.refl _,_,_,Z,(Ap he).1,_,_,Λ⟩
   refine⟨_,_,Λ,Λ,(by show (0:Int)<7;decide),Λ,_,Λ,iq (λ_=>?_) λ_=>aH μ⟩
   refine⟨I,ns,_,Λ,EX.of gS5,by decide,by decide,λd2 H6 s6 _=>⟨_,_,Λ,Λ,(by show (0:Int)<3;decide),_,_,Λ,Λ,_,Λ,iq (λ_=>?_) λ_=>?_⟩⟩
   ·refine⟨_,_,Λ,Λ,⟨by decide,by decide⟩,Dd,e,_,Λ,s6 _ _ Z,he,λp L H7 s7 hp gp hL=>?_⟩
    exact⟨s6.trans s7,L,p,gp,hL,_,_,Λ⟩
   ·exact⟨s6,_,_,s6 _ _ Z,(Ap he).1,_,_,Λ⟩
  rintro _ H7 ⟨Oa,L,Dl,gL,hWL,a5',a8',rfl⟩
  have G:=hWL.ws
  obtain⟨c1,c2,c3⟩:=G.cut
  refine⟨Λ,Dl,Λ,⟨_,EX.of gL⟩,rh (λv =>.str (wT v)) (by rw[Χ];have:=hWL.2.1;omega) (EX.of gL) (λv N hv h=>(?_)) λD2 Hd=>?_⟩
  ·cases hWL.1 v hv with
   |str x hx=>exact .inr ⟨x,Λ,h⟩
   |int j hj=>exact .inl ⟨j,Λ,iJ hj,h⟩
  have s8:=Oa.new (o:=.π (L.map λv =>.str (wT v))) Hd
  refine⟨blank,D2,L.map wT,Λ,Λ,EX.of (by rw[ET,Á];rfl),by omega,?_⟩
  show ci 8 (bN (L.map wT)) _ (ο H7 D2 (.π (L.map λv =>.str (wT v)))) _
  generalize ο H7 D2 (.π (L.map λv =>.str (wT v)))=H8 at s8⊢
  generalize L.map wT=y at G c1 c2 c3
  have s48:=II.trans s8
  have Pq:=s48 _ _ gD
  refine⟨.inl ⟨Λ,_,EX.of Pq⟩,D,_,_,Λ,Λ,Pq,by rw[Μ,Χ];omega,?_⟩
  rw[show l.map bN++[bN y]=(l++[y]).map bN by rw[ϗ];rfl]
  have o9:Fm (a.four++[D]) H1 (ο H8 D (.π ((l++[y]).map bN))):=λb u nb e=>by
   rw[af (λz=>nb (by rw[z];simp))]
   exact s48 _ _ (o _ _ nb e)
  have g9:(ο H8 D (.π ((l++[y]).map bN))) D=Α (.π ((l++[y]).map bN)):=ET
  have Q6:Gj K (yx ys [D]) (ο H8 D (.π ((l++[y]).map bN))) a s:=Gj.Z3 (e:=[D]) (Fq.same hY s48) (λb u nb e=>by
   rw[af (λz=>nb (by rw[z];simp))];exact e) (λb r=>r) (λb r z=>hD4 (by rw[←ϋ.mp z];exact r)) (λb r=>by rw[ϋ.mp r];exact⟨_,ET⟩)
  generalize ο H8 D (.π ((l++[y]).map bN))=H9 at o9 g9 Q6⊢
  have Py:∀z∈l++[y],JK z:=λz hz=>by
   rcases ϝ.mp hz with z'|z'
   ·exact JF z z'
   ·rw[ϋ.mp z'];exact G
  have VN:(l++[y]).length=i+1:=by rw[Ξ,R];rfl
  have hYI9:HP K c ts.told (Ff P w ts) (yx ys [D]) H9 a s:=⟨Q6,S.T.keep W (X o9),S.O,LM.ok⟩
  refine⟨_,Λ,?_⟩
  cases g with
  |false=>exact aH (aH ⟨Ε,_,_,_,_,l++[y],t,s,o9,g9,Q6,VN,Py,B,by omega,(λz=>by cases z),λ_=>(LQ Λ).more y,Λ⟩)
  |true =>
  refine aI ?_
  have Nh:=HB Λ
  have HI:s.done.length<=100:=by rw[B.done.1,Μ];omega
  have F9:s.EV.length<60:=by have:=B.lets;omega
  obtain⟨x,J,rfl⟩:∃x J,y=x:: J:=by
   cases y with
   |nil=>exact Κ Λ G.ne
   |cons x J=>exact⟨x,J,Λ⟩
  have Pj:=G.len
  rw[Ϛ]at Pj
  refine⟨[D],a,s,Txt.join blank (x:: J),x,J,Λ,c1,ώ c2 (by decide),hYI9,by omega,(λu hu=>⟨ώ (G.wc u (ϊ _ hu)).1 (by decide),(G.wc u (ϊ _ hu)).no.2⟩),(G.wc x ϙ).no.2,LM.sml (by omega),by omega,F9,λGu Ko Kn=>?_,λdd hL e Ko s' st off hY10=>?_⟩
  ·refine⟨_,Λ,aI ⟨Ε,_,_,_,_,l++[x:: J],t,s,o9.trans (EU.F8 Kn),Kn _ _ g9,Fq.same Q6 Kn,VN,Py,B,by omega,(λz=>by cases z),λ_=>⟨l,[],x:: J,t,s,Λ,B,Nh,Gu⟩,Λ⟩⟩
  ·refine⟨_,Λ,aH ⟨Δ,_,_,_,_,l++[x:: J],t++[dd],s',o9.trans (off.mono λb r=>Ê _ r),off _ _ hD4 g9,hY10,VN,Py,.cons B hL st,by rw[Ξ];show _+1<=_;omega,(λ_=>by rw[ϗ,←Nh,ϳ,Cg e];rfl),(λz=>by cases z),Λ⟩⟩
 ·rintro σ m ⟨g,a5,a6,a7,a8,l,t,s,o,gD,hY,R,JF,B,Mb,HB,LQ,rfl⟩
  have LM:=B.LI hJ
  refine⟨by show 2<=Τ;decide,λp hp=>?_⟩
  have s9:=(EU.refl m).new (o:=.tup [.ref D,.bl g]) hp
  have o4:Fm a.four H m:=λb u nb e=>o b u (λz=>(ϝ.mp z).elim nb λz=>by rw[ϋ.mp z,hD]at e;cases e) (s1 b u e)
  refine q p D g l s _ (o4.trans (EU.F8 s9)) ET (s9 _ _ gD) ⟨(hY.exs s9 λb r=>by cases r),S.T.keep W ((X o).trans (EU.Fw s9)),S.O,LM.ok⟩ (by omega) ⟨⟨t,B,by omega,HB⟩,LQ,JF⟩
end K83
namespace L2
open PySem PySem.Spec PyProof.Rows
section
variable {X:Cx}
inductive rIns(x:V)(vs:List V)(H:Hp)(Q:VK):Prop
 |mk (l:Ν)(xs:List V)(i:Int)(y:V)(_:x=.ref l)(_:vs=[.int i,y])(_:H l=Α (.π xs))(_:0<=i)(_:i<=(xs.length:Int))(_:xs.length<Τ)(_:Q .Fp (ο H l (.π (xs.take i.toNat++y:: xs.drop i.toNat))))
theorem lc:EQ X "list.insert" rIns:=by
 intro b s j H x m v us Q I d f h
 obtain⟨l,xs,i,y,rfl,rfl,c,o,p,w,q⟩:=h
 cases d
 cases f with
 | @cons _ w1 _ ws1 ri r1 =>
 cases r1 with
 | @cons _ u _ ws2 ry r2 =>
 cases r2
 obtain⟨t,rfl⟩:=ri
 obtain⟨z,a,n,r,A,e⟩:=I.Jq c
 have B:=Χ
 refine ŏ F.slot_list_insert ⟨_,e,Λ⟩ F.entry_list_insert (F.args_list_insert_3 _ _ _) (PySem.AutoSeq1.list_insert_list_int_val_1 l a.toArray n i t u (by rw[fitsIndex_both (by omega) (by omega)];decide) (by rw[Ϯ];omega)) ⟨e,?_⟩
 refine⟨.Fp,_,I.M0 (its':=a.take i.toNat++u:: a.drop i.toNat) c e ?_ ((r.take i.toNat).append (.cons ry (r.drop i.toNat))) ?_,Λ,q⟩
 ·show(a.toArray.extract 0 (if i<0 then (i+(a.toArray.size:Int)).toNat else min i.toNat a.toArray.size)).push u++a.toArray.extract (if i<0 then (i+(a.toArray.size:Int)).toNat else min i.toNat a.toArray.size)=_
  have g:(if i<0 then (i+(a.toArray.size:Int)).toNat else min i.toNat a.toArray.size)=i.toNat:=by
   rw[Θ (by omega),Ϯ];omega
  rw[g]
  apply Į.mp
  simp
  exact Ź (by rw[ą];exact ϛ _)
 ·rw[Ξ,Ϛ,Ñ,ą]
  omega
end
end L2
namespace K83
open PySem L2
variable {P:Program}{w:À}{K:Ϣ}{mg:Str->Option Ο}{μ:ò}
structure Tb(n:Nat)(ps:List (Int×Int))(rs:List Rw):Prop where
 G0:1<=n/\n<=12
 F3:ps.length<=40
 HZ:∀q∈ps,gQ n q=Δ
 fit:xB n ps rs
def x5(TW:List (List Str)):Prop:=∀n ps rs,Tb n ps rs->TW≠bj n ps (av rs)
theorem fG(a:m<10^9)(h:al m=al k):m=k:=sk (ώ (dS (by decide) a) (by decide)) h
theorem Ak(h:m<10^60):Ô (tl (al m))=m:=by
 have:=lV h
 unfold eU at this
 split at this
 ·exact ϥ this
 ·cases this
theorem AL(b:m<10^9)(c:k<10^9):υ "0"++al m≠al k:=λh=>by
 have e:tl (υ "0"++al m)=48:: tl (al m):=gf _ _
 have a:Ô (tl (υ "0"++al m))=Ô (tl (al m)):=by rw[e];rfl
 rw[h,Ak (ø c (by decide)),Ak (ø b (by decide))]at a
 subst a
 have:=congrArg ê e
 rw[h,Ϛ]at this
 omega
theorem r8(h:Tb n ps rs)(b:y∈(bc n ps (av rs)).map c8):∃k,k∈b7 ps n n/\y=c8 (c6 (av rs) k)/\wl (av rs) (bO k)≠[]/\(∀l∈wl (av rs) (bO k),l<40):=by
 obtain⟨r,c,rfl⟩:=ϟ.mp b
 obtain⟨k,d,rfl⟩:=ϟ.mp c
 obtain⟨e,a⟩:=Ì.mp d
 refine⟨k,e,Λ,λz=>?_,λl f=>Ϗ ((bT h.fit).lt _ l f) h.F3⟩
 unfold Bk at a
 rw[z]at a
 cases a
theorem sC(h:Tb n ps rs):∀y∈bj n ps (av rs),∃z m,y=z++[al m]/\z≠[]/\m<10^9:=by
 intro y c
 rcases ϝ.mp c with c|c
 ·rcases ϝ.mp c with c|c
  ·rw[ϋ.mp c]
   exact⟨[υ "places"],n,Λ,by simp,ß h.G0.2 (by decide)⟩
  ·obtain⟨f,g,rfl⟩:=ϟ.mp c
   obtain⟨a,b,rfl,p,i⟩:=cf h.G0.2 (h.HZ f g)
   exact⟨[Fu,al a],b,Λ,by simp,ø i (by decide)⟩
 ·obtain⟨k,_,rfl,j,o⟩:=r8 h c
  obtain⟨d,l,e⟩:∃d l,wl (av rs) (bO k)=d++[l]:=⟨_,_,(Ň j).symm⟩
  refine⟨ω:: ([al k.1.toNat,al k.2.1.toNat,wT (cV k.2.2)]++d.map al),l,?_,by simp,ø (o l (by rw[e];simp)) (by decide)⟩
  show ω:: ([al k.1.toNat,al k.2.1.toNat,wT (cV k.2.2)]++(wl (av rs) (bO k)).map al)=_
  rw[e]
  simp
theorem BQ(a:m<10^9)(h:z++[υ "0"++al m]∈TW):x5 TW:=λn f g b e=>by
 rw[e]at h
 obtain⟨i,k,c,_,d⟩:=sC b _ h
 have:=YO c Λ
 exact AL a d (Φ this.2).1
theorem Ex(a:y∈bj n ps wy)(h:y.headD blank=ω):y∈(bc n ps wy).map c8:=by
 rcases ϝ.mp a with a|a
 ·rcases ϝ.mp a with a|a
  ·rw[ϋ.mp a]at h
   exact Κ (congrArg tl h) (by show tl (υ "places")≠tl ω;decide)
  ·obtain⟨b,c,rfl⟩:=ϟ.mp a
   exact Κ (congrArg tl h) (by show tl Fu≠tl ω;decide)
 ·exact a
theorem nX:∀{s t:List Nat},(∀l∈s,l<40)->s.map al=t.map al->s=t
 |[],[],_,_=>rfl
 |[],_:: _,_,h=>by cases h
 |_:: _,[],_,h=>by cases h
 | a:: s,b:: t,hs,h=>by
  rw[fG (ø (hs a ϙ) (by decide)) (Φ h).1,nX (λl c=>hs l (ϊ _ c)) (Φ h).2]
theorem v8{s:List Nat}(d:∀l∈s,l<40)(f:¬s.Pairwise (· < ·))(h:ω:: ([a,b,c]++s.map al)∈TW):x5 TW:=λn o g i e=>by
 rw[e]at h
 obtain⟨k,_,j,_,_⟩:=r8 i (Ex h Λ)
 have m:=(List.append_inj (Φ j).2 Λ).2
 exact f (nX d m▸lL _ _)
theorem kj(m:n<=12)(o:ps.length<=40)(h:k∈b7 ps n n)(q:k'∈b7 HE n' n')(e:c8 (c6 wy k)=c8 (c6 Wl k')):k=k':=by
 obtain⟨p,g,r,s,_,t,u,b⟩:=fj h
 obtain⟨v,A,_,_,_,c,d,_⟩:=fj q
 obtain⟨G,H,f⟩:=k
 obtain⟨B,C,a⟩:=k'
 subst t u c d
 have e:=e
 injection e with _ e
 injection e with i e
 injection e with j e
 injection e with l _
 have i:=fG (Ϗ r (ώ m (by decide))) i
 have j:=fG (Ϗ s (ώ m (by decide))) j
 subst i j
 have D:∀x,f=Α x->x<40:=λx E=>by
  rw[E]at b
  unfold bR at b
  rcases ύ.mp b with z|z
  ·cases z
  ·obtain⟨y,F,e⟩:=ϟ.mp z
   cases e
   exact Ϗ (gj F) o
 congr 2
 cases f with
 | none=>cases a with
  |none=>rfl
  |some y=>exact Κ (congrArg V.str l.symm) (of_decide_eq_false (nY y))
 | some x=>cases a with
  |none=>exact Κ (congrArg V.str l) (of_decide_eq_false (nY x))
  |some y=>rw[fG (ø (D x Λ) (by decide)) l]
theorem kF(h:Tb n ps rs)(a:y∈(bc n ps (av rs)).map c8):fz y=Δ:=by
 have:y∈(bj n ps (av rs)).filter fz:=by rw[jC];exact a
 exact(Ì.mp this).2
theorem qh(d:fz y1=Δ)(f:fz y2=Δ)(h:Ċ [y1,y2] (bj n ps (av rs))):
  ∃a b,Ċ [a,b] (b7 ps n n)/\y1=c8 (c6 (av rs) a)/\y2=c8 (c6 (av rs) b):=by
 have:=h.filter fz
 rw[jC,k4 (l:=[y1,y2]) (λx c=>by
  rcases ύ.mp c with rfl|c
  ·exact d
  ·rw[ϋ.mp c];exact f)]at this
 unfold bc at this
 rw[Á]at this
 obtain⟨g,i,e⟩:=List.sublist_map_iff.mp this
 match g,e with
 | [a,b],e =>
  injection e with j e
  injection e with m _
  exact⟨a,b,i.trans List.filter_sublist,j,m⟩
theorem pG{c:Type}{l:List c}{a b:c}(d:l.Nodup)(h:Ċ [a,b] l):a≠b:=λz=>by
 have:=d.sublist h
 rw[z]at this
 exact Κ this (by simp)
theorem nZ{f:Type}:∀{l:List f}{a b:f},l.Nodup->Ċ [a,b] l->¬Ċ [b,a] l
 |[],_,_,_,h,_=>by cases h
 | x:: l,a,b,d,h,c=>by
  obtain⟨e,d⟩:=č.mp d
  have i:=pG (č.mpr ⟨e,d⟩) h
  cases h with
  | cons _ h =>
   have j:a∈l:=h.subset (by simp)
   have g:b∈l:=h.subset (by simp)
   cases c with
   |cons _ c=>exact nZ d h c
   |cons_cons _ c=>exact e g
  | cons_cons _ h =>
   have g:b∈l:=h.subset (by simp)
   cases c with
   |cons _ c=>exact e (c.subset (by simp))
   |cons_cons _ c=>exact i Λ
theorem zB(h:Tb n ps rs)(b:y∈(bc n ps (av rs)).map c8)(c:Ċ [y,y] TW):x5 TW:=λi j l d e=>by
 rw[e]at c
 obtain⟨m,o,a,f,g⟩:=qh (kF h b) (kF h b) c
 exact pG (ie _ _ _) a (kj d.G0.2 d.F3 (a.subset (by simp)) (a.subset (by simp)) (f.symm.trans g))
theorem BR(h:Tb n ps rs)(f:y1∈(bc n ps (av rs)).map c8)(g:y2∈(bc n ps (av rs)).map c8)(x:Ċ [y1,y2] (bj n ps (av rs)))(u:Ċ [y2,y1] TW)
  (i:TW.head?=(bj n ps (av rs)).head?) (o:TW.filter bW=(bj n ps (av rs)).filter bW):x5 TW:=λj y M v e=>by
 rw[e]at u i o
 rw[gJ,gJ]at o
 have A:=fG (ß v.G0.2 (by decide)) (by
  have i:=i
  exact(Φ (Φ (ϥ i)).2).1)
 subst A
 have B:y=ps:=by
  have C:∀{l c:List (Int×Int)},(∀q∈l,gQ j q=Δ)->(∀q∈c,gQ j q=Δ)->l.map fu=c.map fu->l=c:=by
   intro l
   induction l with
   | nil=>intro c _ _ z;cases c with
    |nil=>rfl
    |cons=>cases z
   | cons q l D =>
    intro c a b z
    cases c with
    |nil=>cases z
    | cons E c =>
     obtain⟨F,G,rfl,f,g⟩:=cf h.G0.2 (a q ϙ)
     obtain⟨H,I,rfl,_,_⟩:=cf h.G0.2 (b E ϙ)
     have d:=(Φ z).1
     injection d with _ d
     injection d with p d
     injection d with r _
     rw[fG (ø f (by decide)) p,fG (ø g (by decide)) r,D (λq s=>a q (ϊ _ s)) (λq s=>b q (ϊ _ s)) (Φ z).2]
  exact C v.HZ h.HZ o
 subst B
 obtain⟨N,O,m,p,r⟩:=qh (kF h f) (kF h g) x
 obtain⟨Q,R,t,J,L⟩:=qh (kF h g) (kF h f) u
 rw[kj h.G0.2 h.F3 (m.subset (by simp)) (t.subset (by simp)) (p.symm.trans L),kj h.G0.2 h.F3 (m.subset (by simp)) (t.subset (by simp)) (r.symm.trans J)]at m
 exact nZ (ie _ _ _) m t
theorem zC{w l:List Str}(h:w.headD blank=ω)(i:l.headD blank=Fu)(a:Ċ [w,l] TW):x5 TW:=λn c f o e=>by
 rw[e]at a
 unfold bj at a
 have d:∀x∈[c7 n]++c.map fu,x≠w:=λx b z=>by
  have:=z▸h
  rcases ϝ.mp b with b|b
  ·rw[ϋ.mp b]at this
   exact Κ (congrArg tl this) (by show tl (υ "places")≠tl ω;decide)
  ·obtain⟨p,q,rfl⟩:=ϟ.mp b
   exact Κ (congrArg tl this) (by show tl Fu≠tl ω;decide)
 have g:l∉(bc n c (av f)).map c8:=λz=>by
  obtain⟨r,_,rfl⟩:=ϟ.mp z
  exact Κ (congrArg tl i) (by show tl ω≠tl Fu;decide)
 generalize [c7 n]++c.map fu=A at a d
 generalize (bc n c (av f)).map c8=B at a g
 clear e
 induction A with
 |nil=>exact g (a.subset (by simp))
 | cons x A j =>
  rw[qp]at a
  cases a with
  |cons _ a=>exact j (λy m=>d y (ϊ _ m)) a
  |cons_cons _ a=>exact d w ϙ Λ
theorem p9(x y:Str):Txt.startswith x y=decide ((tl x).take (tl y).length=tl y):=by
 have c:=mP x
 have b:=mP y
 unfold Txt.startswith Builtin.Str.subAt
 by_cases h:(tl x).take (tl y).length=tl y
 ·rw[Ζ h]
  have a:(tl y).length<=(tl x).length:=by have:=congrArg ê h;rw[Ñ]at this;omega
  rw[Ζ (show 0+y.length<=x.length by omega),Ý,beq_iff_eq]
  apply Į.mp
  rw[Ō,Nw,b]
  simpa using h
 ·rw[Η h]
  by_cases a:0+y.length<=x.length
  ·rw[Ζ a,Ý,beq_eq_false_iff_ne]
   intro z
   refine h ?_
   have:=congrArg O3 z
   rw[Ō,Nw,b]at this
   simpa using this
  ·rw[Η a,ö]
theorem xL(u:Str)(v:Str)(r:List Str):tl (Txt.join blank (u:: v:: r))=tl u++32:: tl (Txt.join blank (v:: r)):=by
 show tl (Txt.join ⟨#[32]⟩ _)=_++_:: tl (Txt.join ⟨#[32]⟩ _)
 rw[eN,eN];rfl
theorem xb(h:y≠[])(u:Str):Txt.join blank (y++[u])=Txt.join blank y++blank++u:=by
 apply jv
 rw[gf,gf]
 show tl (Txt.join ⟨#[32]⟩ _)=tl (Txt.join ⟨#[32]⟩ _)++[32]++_
 rw[eN,eN,ϗ]
 show dB 32 (y.map tl++[tl u])=_
 rw[pR _ _ (λz=>h (ĥ.mp z)),Ù]
 rfl
noncomputable def tM(y:List Str):Bool:=Txt.startswith (Txt.join blank y) (υ "way ")
theorem xD(r:Rw):tM (c8 r)=Δ:=by
 unfold tM c8 fP
 rw[p9]
 have e:=xL ω (al r.p.toNat) ([al r.g.toNat,wT (cV r.c)]++r.s.map al)
 refine Ζ ?_
 show(tl (Txt.join blank (ω:: al r.p.toNat:: ([al r.g.toNat,wT (cV r.c)]++r.s.map al)))).take _=_
 rw[e]
 rfl
theorem ve(h:(tl u).head?≠Α 119)(a:tl u≠[]):tM (u:: v:: r)=Ε:=by
 unfold tM
 rw[p9,xL]
 refine Η λz=>h ?_
 cases e:tl u with
 |nil=>exact Κ e a
 | cons c l =>
  rw[e]at z
  have b:tl (υ "way ")=[119,97,121,32]:=by decide
  rw[b]at z
  injection z with d _
  rw[d];rfl
theorem u5(a b:Nat):(Ϝ (a+b)).filter (λk=>decide (a<=k))=(Ϝ b).map (a+ ·):=by
 rw[List.range_add,Ú,kz (l:=Ϝ a) λk c=>Η (by have:=î.mp c;omega),nil_append,k4 λk c=>?_]
 obtain⟨j,_,rfl⟩:=ϟ.mp c
 exact Ζ (Nat.le_add_right _ _)
theorem oK(xs:List V)(v:V):dH (xs++[v]) Β (Α (-1))=xs:=by
 unfold dH
 have e:HT.HK (xs++[v]).length (xs++[v]).length (Α (-1))=xs.length:=by
  show(if (-1:Int)<0 then (-1+((xs++[v]).length:Int)).toNat else min (-1:Int).toNat (xs++[v]).length)=_
  rw[Ι (by decide),Ξ]
  show(-1+((xs.length+1:Nat):Int)).toNat=_
  omega
 rw[e]
 show(xs++[v]).take (xs.length - 0)=xs
 rw[Ye,TR]
theorem Ar(xs:List V)(u v:V):dH (xs++[u,v]) Β (Α (-2))=xs:=by
 unfold dH
 have e:HT.HK (xs++[u,v]).length (xs++[u,v]).length (Α (-2))=xs.length:=by
  show(if (-2:Int)<0 then (-2+((xs++[u,v]).length:Int)).toNat else min (-2:Int).toNat (xs++[u,v]).length)=_
  rw[Ι (by decide),Ξ]
  show(-2+((xs.length+2:Nat):Int)).toNat=_
  omega
 rw[e]
 show(xs++[u,v]).take (xs.length - 0)=xs
 rw[Ye,TR]
theorem xy(xs:List α)(u v:α):rq (xs++[u,v]) (-2)=Α u:=by
 have a:(xs++[u,v]).length=xs.length+2:=by simp
 have e:xf (xs++[u,v]).length (-2)=Α xs.length:=by
  unfold xf
  rw[a,Θ (by decide),Ι (by omega)]
  congr 1
  omega
 unfold rq
 rw[e]
 show(xs++[u,v])[xs.length]?=Α u
 simp
theorem sK{a:Type}(p:a->Bool)(x:a):∀(l:List a)(i:Nat),((l.set i x).filter p).length<=(l.filter p).length+1
 |[],_=>by simp
 | y:: l,0=>by
  rw[Rq,ï,ï]
  split<;>split<;>(try simp only[Ϛ])<;>omega
 | y:: l,i+1=>by
  have:=sK p x l i
  rw[Rr,ï,ï]
  split<;>(try simp only[Ϛ])<;>omega
theorem sM{a:Type}(u w:a)(C:List a):∀A:List a,(A++u:: w:: C).eraseIdx (A.length+1)=A++u:: C
 |[]=>rfl
 | x:: A=>by
  show x:: (A++u:: w:: C).eraseIdx (A.length+1)=_
  rw[sM u w C A];rfl
structure pj(TW:List (List Str)):Prop where
 ne:TW≠[]
 rows:∀y∈TW,y≠[]/\y.length<=20/\(∀u∈y,Wc u 20)/\ir y=Ε
 F3:TW.length<=150
 γ:(TW.filter bW).length<=10
structure Kg(T0:List (List Str)):Prop where
 rows:∀y∈T0,y≠[]/\y.length<=11/\(∀u∈y,Wc u 10)/\ir y=Ε
 F3:T0.length<=140
 γ:(T0.filter bW).length<=7
def Iz(y:List Str):Prop:=y≠[]/\y.length<=20/\(∀u∈y,Wc u 20)/\ir y=Ε
theorem Wc.le(h:Wc x n)(a:n<=m):Wc x m:=⟨ώ h.1 a,h.2⟩
theorem Kg.row(h:Kg T0)(e:y∈T0):Iz y:=let ⟨a,b,c,d⟩:=h.rows y e;⟨a,by omega,λu f=>(c u f).le (by decide),d⟩
theorem Kg.set(h:Kg T0)(b:Iz y)(c:i<T0.length):pj (T0.set i y):=by
 refine⟨λz=>by have:=congrArg ê z;rw[Ĵ,hX]at this;omega,λx a=>?_,by rw[Ĵ];have:=h.F3;omega,by have:=sK bW y T0 i;have:=h.γ;omega⟩
 rcases List.mem_or_eq_of_mem_set a with a|rfl
 ·exact h.row a
 ·exact b
theorem Kg.ρ(h:Kg T0){A B:List (List Str)}{y:List Str}(b:y∈T0)(a:Ċ (A++B) T0):pj (A++y:: B):=by
 have c:=a.length_le
 have d:=(a.filter bW).length_le
 rw[Ξ]at c
 rw[Ú,Ξ]at d
 have f:=h.F3
 have g:=h.γ
 refine⟨by simp,λx e=>?_,by rw[Ξ,Ϛ];omega,?_⟩
 ·rcases ϝ.mp e with z|z
  ·exact h.row (a.subset (Ê _ z))
  ·rcases ύ.mp z with rfl|z
   ·exact h.row b
   ·exact h.row (a.subset (Å _ z))
 ·rw[Ú,Ξ,ï]
  split<;>(try simp only[Ϛ])<;>omega
theorem zR(c:n<=4)(d:ps.length<=7):(b7 ps n n).length<=128:=by
 have a:∀p g,(eI ps p g).length<=8:=λp g=>by
  unfold eI
  split
  ·exact Ä _
  ·rw[Μ]
   unfold bR
   rw[Ϛ,Μ]
   have:(gK Í ps (p:Int)).length<=ps.length:=by
    unfold gK
    exact ώ (É _ _) (by rw[ĝ];exact ϛ _)
   omega
 have b:∀p,(cr ps n p).length<=32:=λp=>by
  have:=jd (l:=Ϝ n) (B:=8) (f:=λg=>eI ps p g) λg _=>a p g
  rw[ĝ]at this
  unfold cr
  omega
 have:=jd (l:=Ϝ n) (B:=32) (f:=λp=>cr ps n p) λp _=>b p
 rw[ĝ]at this
 unfold b7
 omega
theorem C3(h:Tb n ps rs)(s:n<=4)(q:ps.length<=7):Kg (bj n ps (av rs)):=by
 refine⟨λy c=>?_,?_,by rw[gJ,Μ];exact q⟩
 ·refine⟨(mH (λf i=>cf h.G0.2 (h.HZ f i)) y c).1,?_⟩
  have t:=Ab y c
  refine⟨?_,?_,t⟩
  ·rcases ϝ.mp c with c|c
   ·rcases ϝ.mp c with c|c
    ·rw[ϋ.mp c];show 2<=11;decide
    ·obtain⟨f,_,rfl⟩:=ϟ.mp c;show 3<=11;decide
   ·obtain⟨k,_,rfl,_⟩:=r8 h c
    unfold c8 fP
    rw[Ϛ,Ξ,Μ]
    have:=(bT h.fit).F3 (bO k)
    show 3+(wl (av rs) (bO k)).length+1<=11
    omega
  ·have num:∀{m:Nat},m<40->Wc (al m) 10:=λE=>(mJ (n:=2) (by decide) (by omega)).le (by decide)
   rcases ϝ.mp c with c|c
   ·rcases ϝ.mp c with c|c
    ·rw[ϋ.mp c]
     intro u d
     have d:u∈[υ "places",al n]:=d
     simp only[ύ,ϡ,or_false]at d
     rcases d with rfl|rfl
     ·decide
     ·exact num (by omega)
    ·obtain⟨f,i,rfl⟩:=ϟ.mp c
     obtain⟨a,b,rfl,F,G⟩:=cf h.G0.2 (h.HZ f i)
     intro u d
     have d:u∈[Fu,al a,al b]:=d
     simp only[ύ,ϡ,or_false]at d
     rcases d with rfl|rfl|rfl
     ·decide
     ·exact num (by omega)
     ·exact num (by omega)
   ·obtain⟨k,v,rfl,_,A⟩:=r8 h c
    obtain⟨p,g,B,H,_,C,j,r⟩:=fj v
    obtain⟨I,J,o⟩:=k
    subst C j
    intro u d
    have d:u∈ω:: ([al p,al g,wT (cV o)]++(wl (av rs) (bO ((p:Int),(g:Int),o))).map al):=d
    rcases ύ.mp d with rfl|d
    ·decide
    rcases ϝ.mp d with d|d
    ·simp only[ύ,ϡ,or_false]at d
     rcases d with rfl|rfl|rfl
     ·exact num (by omega)
     ·exact num (by omega)
     ·cases o with
      |none=>decide
      | some x =>
       refine num ?_
       unfold bR at r
       rcases ύ.mp r with z|z
       ·cases z
       ·obtain⟨y,c,e⟩:=ϟ.mp z
        cases e
        exact Ϗ (gj c) h.F3
    ·obtain⟨l,D,rfl⟩:=ϟ.mp d
     exact num (A l D)
 ·unfold bj
  rw[Ξ,Ξ,Μ,Μ]
  have B:(bc n ps (av rs)).length<=128:=by
   unfold bc
   rw[Μ]
   exact ώ (É _ _) (zR s q)
  show 1+_+_<=140
  omega
theorem nI{z w:List Str}(a:z≠[])(h:ir z=Ε)(b:(z++w).length<=20)(c:∀u∈z++w,Wc u 20):Iz (z++w):=by
 refine⟨λe=>a (List.append_eq_nil_iff.mp e).1,b,c,?_⟩
 cases z with
 |nil=>exact Κ Λ a
 |cons x z=>exact h
theorem sH{z w:List Str}(a:z≠[]):ir (z++w)=ir z:=by
 cases z with
 |nil=>exact Κ Λ a
 |cons x z=>rfl
theorem Iz.sum(h:Iz y):(y.map (·.length)).sum+y.length* blank.length<=16777216:=by
 obtain⟨c,d,a,_⟩:=h
 have e:=Ð _ λu b=>(a u b).1
 have f:y.length* blank.length=y.length:=Ţ _
 omega
theorem zP{a:Type}{s:List a}(h:2<=s.length):∃b x y,s=b++[x,y]:=by
 refine⟨s.take (s.length - 2),s[s.length - 2],s[s.length - 1],?_⟩
 refine(c5 (s.length - 2) s).symm.trans ?_
 congr 1
 rw[Ć (by omega),Ć (by omega),ĉ (by omega)]
 congr 2
 congr 1
 omega
theorem Ci{a:Type}{l:List a}{x y:a}(h:l[k]?=Α x)(b:l[k+1]?=Α y):∃A C,l=A++x:: y:: C/\A.length=k:=by
 have e:=(gQ0 b)
 refine⟨l.take k,l.drop (k+2),?_,by rw[Ñ];omega⟩
 refine(c5 k l).symm.trans ?_
 congr 1
 rw[Ć (by omega),Ć (by omega)]
 obtain⟨_,c⟩:=ý.mp h
 obtain⟨_,d⟩:=ý.mp b
 rw[c,d]
theorem lN{a:Type}(A C:List a)(x y:a):Ċ [x,y] (A++x:: y:: C):=((((List.nil_sublist C).cons_cons y).cons_cons x)).trans (MJ A _)
theorem wq(A C:List (List Str))(u w:List Str):(((A++u:: w:: C).map bN).eraseIdx (A.length+1)).take A.length++bN w:: (((A++u:: w:: C).map bN).eraseIdx (A.length+1)).drop A.length=(A++w:: u:: C).map bN:=by
 have e:((A++u:: w:: C).map bN).eraseIdx (A.length+1)=A.map bN++bN u:: C.map bN:=by
  rw[ϗ,ϳ,ϳ]
  have:=sM (bN u) (bN w) (C.map bN) (A.map bN)
  rw[Μ]at this
  exact this
 rw[e,List.take_left' (Μ ..),List.drop_left' (Μ ..),ϗ]
 rfl
theorem xz(xs:List α)(u v:α):rq (xs++[u,v]) (-1)=Α v:=by
 have:=kC (xs++[u]) v
 rw[Ù]at this
 exact this
theorem qB{a:Type}{l:List a}{x:a}(h:k<l.length):x∈l.set k x:=Qd.mpr ⟨k,by rw[ń h]⟩
noncomputable def bU(TW:List (List Str)):Str:=Txt.join newline (TW.map (Txt.join blank))
inductive xW(K:Ϣ)(vs:List V)(H:Hp)(Q:VK)(E:XK):Prop
 |mk (n:Nat) (ps:List (Int×Int)) (rs:List Rw) (d:Int) (_:vs=[.str (Txt.join newline (bD n ps (av rs))),.int d]) (_:Tb n ps rs) (_:1<=ps.length) (_:ps.length<=7) (_:n<=4) (_:∀(TW:List (List Str))(H':Hp),EU H H'->pj TW->x5 TW->Q (.str (bU TW)) H')
abbrev NTs:List Str:=["_law_text","_law_draw_here","_law_rows_here","_law_ways","_law_kind","_law_at","_law_words"]
theorem JL:ap NTs ["_law_text","_law_draw_here"] (ag jL):=L2.F4
theorem bkTs:FQ NTs (ag jL) (rj ((aJ jL).getD 1 (.Pass ⟨0,0,0,0⟩))) ["_law_rows_here"] [2]:=L2.GR
theorem ndTs:(["_law_k","_law_rows_here"]:List Str).Nodup:=by decide +kernel
theorem wL(F:F0 K "_law_table_spoiled" "_law_table_spoiled" jL f fd)(T:Txt mg):EW P w K mg μ aL 1 f fd ["_law_text","_law_draw_here"] (xW K):=by
 refine F.ok JL λcdv A outer s0 H vs Q E hr h=>?_
 obtain⟨n,ps,rs,d,rfl,S,h1,h7,h4,q⟩:=h
 have t:=hr.units
 refine⟨_,Iw.h (dc (aA (i:=2) JL.nd Λ (Ř Λ) (aZ plainAttrs_str Ju type_str_split gH (pv 0) (aa aD ac)))
  (dc (dM (i:=3) (own:=["_law_k"]) (capN:=["_law_rows_here"]) (cap:=[2]) bkTs Λ JL.nd Λ Λ (b6 Λ T.range (aa (aF aC Λ T.len PySem.boot_len (aa (pv 2) ac)) ac))
    (λC s' D fp=>⟨aE (i:=0) ndTs Λ (ό Λ),cU (b9 (show PE _ _ (tBM K "str" vw (AG (nN K) (jh 1) (jh 0)) (vg (tC (.str (υ "way "))) xP)) from aZ plainAttrs_str PySem.F.slot_str_startswith PySem.F.type_str_startswith pI (ay (show oS _ (nN K) from aB) (pv 1) (pv 0) (λ_ _=>rfl)) (aa aD ac))),pv 0⟩))
  (dc (aA (i:=4) JL.nd Λ (ό Λ) (ax aY (pv 1) ae))
  (u7 (gc (PW.pt (dQ (ak (DU t) (pv 3) (aP ac) (aq _)) (dL (ak aQ (pv 4) ae (aq _))))))
   (dc (aA (i:=5) JL.nd Λ (ό Λ) (ax aY (ax bK (pv 1) ae) (aF aC Λ T.len PySem.boot_len (aa (pv 2) ac))))
  (dc (aA (i:=6) JL.nd Λ (ό Λ) (aZ plainAttrs_str Ju type_str_split gH (ay aB (pv 2) (pv 5) (λ_ _=>rfl)) (aa aD ac)))
  (dc (iC (aZ plainAttrs_str slot_str_join type_str_join eV aD (aa (ax bP (aX bJ (pv 6) bC (bz (io fD ae))) (aP (aa (ax fS aD (ay aB (pv 6) (io fD ae) (λ_ _=>rfl))) ac))) ac)) (kT (pv 2) (pv 5) gy))
  (l9 (az (aZ plainAttrs_str slot_str_join type_str_join eV aD (aa (pv 2) ac)))))))
   nP
  (dc (aA (i:=5) JL.nd Λ (ό Λ) (ay aB (pv 3) (ax aY (ax bK (pv 1) ae) (aF aC Λ T.len PySem.boot_len (aa (pv 3) ac))) (λ_ _=>rfl)))
  (dc (aA (i:=6) JL.nd Λ (ό Λ) (aZ plainAttrs_str Ju type_str_split gH (ay aB (pv 2) (pv 5) (λ_ _=>rfl)) (aa aD ac)))
  (U1 (ak aQ (pv 4) ae (aq _))
   (l9 (aU (aZ plainAttrs_list slot_list_insert type_list_insert lc (pv 2) (aa (pv 5) (aa (ay aB (pv 2) (pv 5) (λ_ _=>rfl)) ac)))))
   (yM (ak aQ (pv 4) ae (aq _))
   (l9 (iC (ax fS (ax fS (ay aB (pv 2) (pv 5) (λ_ _=>rfl)) aD) (ay aB (pv 6) (io fD ae) (λ_ _=>rfl))) (kT (pv 2) (pv 5) gy)))
   (yM (gc (PW.pt (fR (ak aQ (pv 4) ae (aq _)) (dR (ak jW (aF aC Λ T.len PySem.boot_len (aa (pv 6) ac)) ae (aq _))))))
   (l9 (iC (aZ plainAttrs_str slot_str_join type_str_join eV aD (aa (ax bP (aX bJ (pv 6) bC (bz (io fD ae))) (aP (aa (ay aB (pv 6) (io fD ae) (λ_ _=>rfl)) (aa (ay aB (pv 6) (io fD ae) (λ_ _=>rfl)) ac)))) ac)) (kT (pv 2) (pv 5) gy)))
   (yM (gc (PW.pt (fR (ak aQ (pv 4) ae (aq _)) (dR (ak lC (ax bL (pv 5) ae) (aF aC Λ T.len PySem.boot_len (aa (pv 2) ac)) (aq _))))))
   (l9 (aU (aZ plainAttrs_list slot_list_insert type_list_insert lc (pv 2) (aa (pv 5) (aa (aZ plainAttrs_list slot_list_pop type_list_pop om (pv 2) (aa (ax bL (pv 5) ae) ac)) ac)))))
   (l9 (aU (aZ plainAttrs_list slot_list_insert type_list_insert lc (pv 2) (aa (ax fF (ay aB (pv 3) ae (λ_ _=>rfl)) ae) (aa (aZ plainAttrs_list slot_list_pop type_list_pop om (pv 2) (aa (ay aB (pv 3) ae (λ_ _=>rfl)) ac)) ac))))))))
  (l9 (az (aZ plainAttrs_str slot_str_join type_str_join eV aD (aa (pv 2) ac))))))))))),?_⟩
 have hF:=bT S.fit
 obtain⟨c1,c2⟩:=xN hF λpr FZ=>cf S.G0.2 (S.HZ pr FZ)
 have eT:=iW hF
 have hxl:=xM S.G0.2 S.F3 (λpr FZ=>cf S.G0.2 (S.HZ pr FZ)) (mI hF S.F3)
 have R:=C3 S h4 h7
 have hnum:=sC S
 have U8:∀y∈bj n ps (av rs),Txt.split (Txt.join blank y) blank=y/\(Txt.join blank y).length<=2000:=λy hy=>by
  obtain⟨a1,a2,a3,_⟩:=R.rows y hy
  refine⟨cC (by decide) a1 λu t=>(a3 u t).no.1.2,?_⟩
  have b2:(y.map (·.length)).sum<=y.length* 10:=Ð _ λu t=>(a3 u t).1
  have b1:=ñ blank y
  have b3:y.length* blank.length=y.length:=Ţ _
  rw[show Txt.join blank y=ĭ blank y from à _ _]
  omega
 rw[eT]at c1 hxl
 rw[eT]
 obtain⟨I,hQ1⟩:∃I,I=(bc n ps (av rs)).map c8:=⟨_,Λ⟩
 obtain⟨P1,Wz⟩:∃P1,P1=c7 n:: ps.map fu:=⟨_,Λ⟩
 have eR:bj n ps (av rs)=P1++I:=by rw[Wz,hQ1];rfl
 have hPl:P1.length=1+ps.length:=by rw[Wz,Ϛ,Μ];omega
 have wP:∀y∈P1,tM y=Ε:=λy hy=>by
  rw[Wz]at hy
  rcases ύ.mp hy with rfl|hy
  ·exact ve (u:=υ "places") (by decide) (by decide)
  ·obtain⟨pr,_,rfl⟩:=ϟ.mp hy
   exact ve (u:=Fu) (by decide) (by decide)
 have wQ:∀y∈I,tM y=Δ/\y.headD blank=ω:=λy hy=>by
  rw[hQ1]at hy
  obtain⟨r,_,rfl⟩:=ϟ.mp hy
  exact⟨xD r,Λ⟩
 have hP0:∃U l,P1=U++[l]/\l.headD blank=Fu/\U≠[]:=by
  obtain⟨qs,pr,e⟩:∃qs pr,ps=qs++[pr]:=⟨_,_,(Ň (l:=ps) (λz=>by rw[z]at h1;cases h1)).symm⟩
  exact⟨c7 n:: qs.map fu,fu pr,by rw[Wz,e,ϗ];rfl,Λ,by simp⟩
 have W0:∀{y},y∈I->y∈(bc n ps (av rs)).map c8:=λh=>by rw[←hQ1];exact h
 generalize hT0:bj n ps (av rs)=g at*
 have hN:=R.F3
 have hNl:g.length=P1.length+I.length:=by rw[eR,Ξ]
 refine⟨Λ,_,_,Λ,Λ,Λ,hxl,?_,λp hDr=>?_⟩
 ·show(Txt.split _ newline).length<=_
  rw[c1,Μ];omega
 have s1:=(EU.refl H).new (o:=.π (g.map bN)) hDr
 have g1:(ο H p (.π (g.map bN))) p=Α (.π (g.map bN)):=ET
 show ci 2 (V.ref p) _ (ο H p (.π ((Txt.split (Txt.join newline (g.map (Txt.join blank))) newline).map V.str))) _
 rw[c1,Á,show g.map (V.str ∘ Txt.join blank)=g.map bN from Λ]
 have off:∀{D:Hp}{o:HO},EU H D->EU H (ο D p o):=λs b u e=>by rw[af (ai e hDr)];exact s b u e
 generalize ο H p (.π (g.map bN))=H1 at s1 g1⊢
 have Nm:∀{k:Nat}{y:List Str},g[k]?=Α y->rq (g.map bN) (k:Int)=Α (bN y):=λh=>aj (by rw[Ç,h];rfl)
 refine⟨p,_,Λ,.inl (EX.of g1),((g.map bN).length:Int),Λ,by omega,by rw[Μ];omega,?_⟩
 rw[Ϙ,Μ]
 refine oO (λk=>decide (P1.length<=k)) (λk=>V.int (k:Int)) (by rw[Χ];omega) (λi acc N hi h=>?_) λB hB=>?_
 ·rw[ł]
  obtain⟨y,hyi⟩:∃y,g[i]?=Α y:=⟨_,Ψ hi⟩
  refine⟨p,_,_,_,Λ,Λ,EX.of g1,Nm hyi,Λ,_,_,Λ,Λ,_,Λ,?_⟩
  have e:Txt.startswith (Txt.join blank y) (υ "way ")=decide (P1.length<=i):=by
   show tM _=_
   by_cases z:P1.length<=i
   ·rw[Ζ z]
    refine(wQ _ ?_).1
    have:=hyi
    rw[eR,â z]at this
    exact Ϫ this
   ·rw[Η z]
    refine wP _ ?_
    have:=hyi
    rw[eR,Õ (by omega)]at this
    exact Ϫ this
  rw[e]
  cases hd:decide (P1.length<=i) with
  |true=>rw[hd]at h;exact aI h
  |false=>rw[hd]at h;exact aH h
 rw[hNl,u5]
 have s2:=s1.new (o:=.π (((Ϝ I.length).map (P1.length+ ·)).map λk:Nat=>V.int (k:Int))) hB
 have gB:(ο H1 B (.π (((Ϝ I.length).map (P1.length+ ·)).map λk:Nat=>V.int (k:Int)))) B=Α (.π (((Ϝ I.length).map (P1.length+ ·)).map λk:Nat=>V.int (k:Int))):=ET
 have g2:=((EU.refl H1).new (o:=.π (((Ϝ I.length).map (P1.length+ ·)).map λk:Nat=>V.int (k:Int))) hB) _ _ g1
 generalize ο H1 B (.π (((Ϝ I.length).map (P1.length+ ·)).map λk:Nat=>V.int (k:Int)))=H2 at s2 gB g2⊢
 obtain⟨ns,Jg⟩:∃ns:List Int,ns=(Ϝ I.length).map λj=>((P1.length+j:Nat):Int):=⟨_,Λ⟩
 have gB:H2 B=Α (.π (ns.map V.int)):=by rw[gB,Jg,Á,Á];rfl
 have Q4:ns.length=I.length:=by rw[Jg,Μ,ĝ]
 have U9:∀{j:Nat},j<I.length->rq (ns.map V.int) (j:Int)=Α (.int ((P1.length+j:Nat):Int)):=λhj=>aj (by rw[Jg,Ç,Ç,List.getElem?_range hj];rfl)
 refine⟨_,_,Λ,Λ,(by show (0:Int)<6;decide),?_⟩
 show ci 4 (V.int (d% 6)) _ _ _
 generalize d% 6=kd
 refine⟨λb D=>EU H2 D/\(b=Ε->ns≠[]),?_,?_⟩
 ·refine⟨Ä _,λl hl=>⟨B,l,ns,[],Λ,Λ,EX.of (((EU.refl H2).new (o:=.π []) hl) _ _ gB),EX.of ET,_,Λ,iq (λ_=>⟨(EU.refl H2).new hl,λz=>by cases z⟩) λhz=>?_⟩⟩
  exact⟨Λ,_,Λ,(EU.refl H2).new hl,λ_ z=>hz (by rw[z];rfl)⟩
 rintro b H3 ⟨s3,hb⟩
 have g3:=s3 _ _ g2
 have Ng:=s2.trans s3
 have done:∀(J:List (List Str))(D:Hp),EU H D->D p=Α (.π (J.map bN))->pj J->x5 J->yL K (.str newline) [.ref p] D Q:=λJ D s' g' ok no=>by
  refine⟨newline,p,J.map (Txt.join blank),Λ,Λ,EX.of (by rw[g',Á];rfl),?_,q J D s' ok no⟩
  have b4:=ok.F3
  have b5:((J.map (Txt.join blank)).map (·.length)).sum<=(J.map (Txt.join blank)).length* 2000:=Ð _ λu t=>by
   obtain⟨y,hy,rfl⟩:=ϟ.mp t
   obtain⟨a1,a2,a3,_⟩:=ok.rows y hy
   have b2:(y.map (·.length)).sum<=y.length* 20:=Ð _ λu t=>(a3 u t).1
   have b1:=ñ blank y
   have b3:y.length* blank.length=y.length:=Ţ _
   rw[show Txt.join blank y=ĭ blank y from à _ _]
   omega
  rw[Μ]at b5⊢
  have:J.length* newline.length=J.length:=Ţ _
  omega
 have row:∀{k:Nat}{y:List Str},g[k]?=Α y->y∈g/\Txt.split (Txt.join blank y) blank=y/\(Txt.join blank y).length<=2000/\y.length<=11:=λh=>let m:=Ϫ h;⟨m,(U8 _ m).1,(U8 _ m).2,(R.rows _ m).2.1⟩
 cases b with
 | true =>
  refine aI ⟨_,_,Λ,Λ,⟨by decide,by decide⟩,p,_,Λ,.inl (EX.of g3),_,_,Λ,Λ,(by show (0:Int)<((g.map bN).length:Int);rw[Μ,hNl];omega),?_⟩
  rw[Μ]
  obtain⟨k,hk⟩:∃k:Nat,d / 6% (g.length:Int)=(k:Int):=oi (û _ (by omega))
  have X:k<g.length:=by have:=ì (d / 6) (show (0:Int)<(g.length:Int) by omega);omega
  show ci 5 (V.int (d / 6% (g.length:Int))) _ _ _
  rw[hk]
  obtain⟨y,LR⟩:∃y,g[k]?=Α y:=⟨_,Ψ X⟩
  obtain⟨JS,r1,r2,r3⟩:=row LR
  obtain⟨z,m,rfl,hz,hm⟩:=hnum _ JS
  refine⟨p,_,_,_,Λ,Λ,EX.of g3,Nm LR,Λ,_,_,Λ,Λ,Λ,ώ r2 (by decide),?_,λL hDw=>?_⟩
  ·show(Txt.split _ blank).length<=_
   rw[r1];omega
  show ci 6 (V.ref L) _ (ο H3 L (.π ((Txt.split (Txt.join blank (z++[al m])) blank).map V.str))) _
  rw[r1,ϗ,show [al m].map V.str=[V.str (al m)] from Λ]
  have Iq:=(EU.refl H3).new (o:=.π (z.map V.str++[V.str (al m)])) hDw
  have g4:(ο H3 L (.π (z.map V.str++[V.str (al m)]))) L=Α (.π (z.map V.str++[V.str (al m)])):=ET
  generalize ο H3 L (.π (z.map V.str++[V.str (al m)]))=H4 at Iq g4⊢
  have Kh:Iz (z++[υ "0"++al m]):=by
   obtain⟨a1,a2,a3,a4⟩:=R.rows _ JS
   rw[sH hz]at a4
   refine nI hz a4 (by rw[Ξ]at a2⊢;have:z.length+1<=11:=a2;show z.length+1<=20;omega) λu t=>?_
   rcases ϝ.mp t with t|t
   ·exact(a3 u (Ê _ t)).le (by decide)
   ·rw[ϋ.mp t]
    exact((show Wc (υ "0") 1 by decide).app (a3 (al m) (by simp))).le (by decide)
  have LD:(al m).length<=10:=((R.rows _ JS).2.2.1 (al m) (by simp)).1
  have hz20:z.length<=20:=by have:=Kh.2.1;rw[Ξ]at this;omega
  refine⟨Λ,_,Λ,_,Λ,L,_,Λ,EX.of g4,λp1 F7=>?_⟩
  rw[show dH (z.map V.str++[V.str (al m)]) Β (Α (-1))=z.map V.str from oK _ _]
  have II:=(EU.refl H4).new (o:=.π (z.map V.str)) F7
  have g5:(ο H4 p1 (.π (z.map V.str))) p1=Α (.π (z.map V.str)):=ET
  generalize ο H4 p1 (.π (z.map V.str))=H5 at II g5⊢
  refine⟨_,Λ,L,_,_,_,Λ,Λ,EX.of (II _ _ g4),kC _ _,_,_,Λ,Λ,by rw[Χ];show 1+_<=_;omega,by show 1<=Τ;decide,λp2 HW=>?_⟩
  have Jj:=(EU.refl H5).new (o:=.π [V.str (υ "0"++al m)]) HW
  have g6:(ο H5 p2 (.π [V.str (υ "0"++al m)])) p2=Α (.π [V.str (υ "0"++al m)]):=ET
  generalize ο H5 p2 (.π [V.str (υ "0"++al m)])=H6 at Jj g6⊢
  refine⟨p1,p2,_,_,Λ,Λ,Jj _ _ g5,g6,by rw[Μ,Χ];show _+1<=_;omega,λp3 ID=>?_⟩
  have LN:=(EU.refl H6).new (o:=.π (z.map V.str++[V.str (υ "0"++al m)])) ID
  have g7:(ο H6 p3 (.π (z.map V.str++[V.str (υ "0"++al m)]))) p3=Α (.π (z.map V.str++[V.str (υ "0"++al m)])):=ET
  generalize ο H6 p3 (.π (z.map V.str++[V.str (υ "0"++al m)]))=H7 at LN g7⊢
  have s37:=Iq.trans (II.trans (Jj.trans LN))
  refine⟨blank,p3,z++[υ "0"++al m],Λ,Λ,EX.of (by rw[g7,ϗ];rfl),Kh.sum,?_⟩
  refine⟨p,_,_,k,Λ,Λ,s37 _ _ g3,ig (by rw[Μ];exact X),?_⟩
  exact⟨Λ,done (g.set k (z++[υ "0"++al m])) _ (off (Ng.trans s37)) (ET.trans (by rw[map_set];rfl)) (R.set Kh X) (BQ hm (qB X))⟩
 |false =>
 have hq0:0<I.length:=by
  rw[←Q4]
  exact Ħ.mpr (hb Λ)
 have gB3:=s3 _ _ gB
 refine aH ⟨_,_,Λ,Λ,⟨by decide,by decide⟩,B,_,Λ,.inl (EX.of gB3),_,_,Λ,Λ,(by show (0:Int)<((ns.map V.int).length:Int);rw[Μ];omega),?_⟩
 obtain⟨j,hj⟩:∃j:Nat,d / 6% ((ns.map V.int).length:Int)=(j:Int):=oi (û _ (by rw[Μ];omega))
 have hjl:j<I.length:=by have:=ì (d / 6) (show (0:Int)<((ns.map V.int).length:Int) by rw[Μ];omega);rw[hj,Μ,Q4]at this;omega
 refine⟨B,_,_,_,Λ,Λ,EX.of gB3,(by rw[hj];exact U9 hjl),?_⟩
 obtain⟨y,hyj⟩:∃y,I[j]?=Α y:=⟨_,Ψ hjl⟩
 have LR:g[P1.length+j]?=Α y:=by rw[eR,â (by omega),Nat.add_sub_cancel_left];exact hyj
 have W2:=Ϫ hyj
 have X:=(gQ0 LR)
 obtain⟨k,hk⟩:∃k,P1.length+j=k:=⟨_,Λ⟩
 rw[hk]at LR X⊢
 obtain⟨JS,r1,r2,r3⟩:=row LR
 refine⟨p,_,_,_,Λ,Λ,EX.of g3,Nm LR,Λ,_,_,Λ,Λ,Λ,ώ r2 (by decide),?_,λL hDw=>?_⟩
 ·show(Txt.split _ blank).length<=_
  rw[r1];omega
 show ci 6 (V.ref L) _ (ο H3 L (.π ((Txt.split (Txt.join blank y) blank).map V.str))) _
 rw[r1]
 have Iq:=(EU.refl H3).new (o:=.π (y.map V.str)) hDw
 have g4:(ο H3 L (.π (y.map V.str))) L=Α (.π (y.map V.str)):=ET
 generalize ο H3 L (.π (y.map V.str))=H4 at Iq g4⊢
 have Y:=Iq _ _ g3
 have g4B:=Iq _ _ gB3
 have IH:=Ng.trans Iq
 obtain⟨G,QU,Lj,FG,F9⟩:=r8 S (W0 W2)
 refine⟨λσ' D=>σ'[2]?=Α (Α (.ref p))/\∃J,EU H D/\D p=Α (.π (J.map bN))/\pj J/\x5 J,?_,?_⟩
 rotate_left
 ·rintro σ' D ⟨e2,J,s',g',ok,no⟩
  exact⟨Λ,tvm e2 (done J D s' g' ok no)⟩
 refine⟨Λ,_,Λ,iq (λ_=>?_) λ_=>?_⟩
 ·
  refine⟨.inl ⟨Λ,_,EX.of Y⟩,p,_,_,_,Λ,Λ,EX.of Y,Nm LR,p,_,_,_,Λ,Λ,Y,by omega,by rw[Μ];omega,by rw[Μ,Χ];omega,?_⟩
  have hd:g.drop k=y:: g.drop (k+1):=by
   obtain⟨_,e⟩:=ý.mp LR
   rw[Ć X,e]
  refine⟨Λ,g.take k++y:: g.drop k,off IH,by rw[ET,Ϙ,ϗ,ϳ,ej,map_drop],R.ρ JS (by rw[c5];exact Ž _),zB S (W0 W2) (by rw[hd];exact lN _ _ _ _)⟩
 obtain⟨s0,l,es⟩:∃s0 l,wl (av rs) (bO G)=s0++[l]:=⟨_,_,(Ň FG).symm⟩
 have Ji:=lL (av rs) (bO G)
 have Lj:y=ω:: ([al G.1.toNat,al G.2.1.toNat,wT (cV G.2.2)]++(wl (av rs) (bO G)).map al):=Lj
 generalize al G.1.toNat=wa at Lj
 generalize al G.2.1.toNat=wb at Lj
 generalize wT (cV G.2.2)=wc at Lj
 refine⟨Λ,_,Λ,iq (λ_=>?_) λ_=>?_⟩
 ·
  obtain⟨z,ez⟩:∃z,z=ω:: ([wa,wb,wc]++s0.map al):=⟨_,Λ⟩
  have ey:y=z++[al l]:=by rw[Lj,es,ez,ϗ];rfl
  have Pc:=F9 l (by rw[es];simp)
  have er:bN (y++[al l])=.str (Txt.join blank y++υ " "++al l):=congrArg V.str (xb (R.rows _ JS).1 _)
  have Q4:Wc (al l) 2:=mJ (by decide) (by omega)
  have h1l:=Q4.1
  refine⟨p,_,_,_,Λ,Λ,EX.of Y,Nm LR,_,_,Λ,Λ,by rw[Χ];show _+1<=_;omega,_,Λ,L,_,_,_,Λ,Λ,EX.of g4,(by rw[ey,ϗ];exact kC _ _),_,_,Λ,Λ,by rw[fA,Χ];show _+1+_<=_;omega,?_⟩
  refine⟨p,_,_,k,Λ,Λ,Y,ig (by rw[Μ];exact X),?_⟩
  refine⟨Λ,g.set k (y++[al l]),off IH,ET.trans (by rw[map_set,er]),R.set (nI (R.rows _ JS).1 (R.rows _ JS).2.2.2 (by rw[Ξ];show _+1<=_;omega) λu t=>?_) X,v8 (a:=wa) (b:=wb) (c:=wc) (s:=s0++[l]++[l]) (λx Z=>?_) (λz=>?_) (?_:_∈g.set k (y++[al l]))⟩
  ·rcases ϝ.mp t with t|t
   ·exact((R.rows _ JS).2.2.1 u t).le (by decide)
   ·rw[ϋ.mp t];exact Q4.le (by decide)
  ·refine F9 x ?_
   rw[es]
   rcases ϝ.mp Z with Z|Z
   ·exact Z
   ·rw[ϋ.mp Z];simp
  ·have:=(Ou.mp z).2.2 l (by simp) l (by simp)
   omega
  ·have e:ω:: ([wa,wb,wc]++(s0++[l]++[l]).map al)=y++[al l]:=by rw[Lj,es,ϗ];rfl
   rw[e];exact qB X
 refine⟨λb D=>H4=D/\(b=Δ->5<y.length),?_,?_⟩
 ·refine⟨Λ,_,Λ,iq (λ_=>?_) λ_=>?_⟩
  ·exact⟨L,_,Λ,.inl (EX.of g4),_,_,Λ,Λ,_,Λ,Λ,λz=>by have:=of_decide_eq_true z;rw[Μ]at this;omega⟩
  ·exact⟨Λ,λz=>by cases z⟩
 rintro b _ ⟨rfl,hb3⟩
 cases b with
 | true =>
  have hy5:=hb3 Λ
  have KZ:2<=(wl (av rs) (bO G)).length:=by rw[Lj,Ϛ,Ξ,Μ]at hy5;have:5<3+(wl (av rs) (bO G)).length+1:=hy5;omega
  obtain⟨Qs,M,O,es2⟩:=zP KZ
  obtain⟨z,ez⟩:∃z,z=ω:: ([wa,wb,wc]++Qs.map al):=⟨_,Λ⟩
  have ey:y=z++[al M,al O]:=by rw[Lj,es2,ez,ϗ];rfl
  have hzn:z≠[]:=by rw[ez];simp
  have ey2:y.map V.str=z.map V.str++[V.str (al M),V.str (al O)]:=by rw[ey,ϗ];rfl
  rw[ey2]at g4
  have Kh:Iz (z++[al O,al M]):=by
   obtain⟨a1,a2,a3,a4⟩:=R.rows _ JS
   rw[ey]at a2 a3 a4
   rw[sH hzn]at a4
   refine nI hzn a4 (by rw[Ξ]at a2⊢;have:z.length+2<=11:=a2;show z.length+2<=20;omega) λu t=>?_
   refine(a3 u ?_).le (by decide)
   rcases ϝ.mp t with t|t
   ·exact Ê _ t
   ·refine Å _ ?_
    simp only[ύ,ϡ,or_false]at t⊢
    exact t.symm
  refine aI ⟨Λ,_,Λ,_,Λ,L,_,Λ,EX.of g4,λp1 F7=>?_⟩
  rw[show dH (z.map V.str++[V.str (al M),V.str (al O)]) Β (Α (-2))=z.map V.str from Ar _ _ _]
  have II:=(EU.refl H4).new (o:=.π (z.map V.str)) F7
  have g5:(ο H4 p1 (.π (z.map V.str))) p1=Α (.π (z.map V.str)):=ET
  generalize ο H4 p1 (.π (z.map V.str))=H5 at II g5⊢
  refine⟨_,Λ,L,_,_,_,Λ,Λ,EX.of (II _ _ g4),xz _ _ _,_,Λ,L,_,_,_,Λ,Λ,EX.of (II _ _ g4),xy _ _ _,by show 2<=Τ;decide,λp2 HW=>?_⟩
  have Jj:=(EU.refl H5).new (o:=.π [V.str (al O),V.str (al M)]) HW
  have g6:(ο H5 p2 (.π [V.str (al O),V.str (al M)])) p2=Α (.π [V.str (al O),V.str (al M)]):=ET
  generalize ο H5 p2 (.π [V.str (al O),V.str (al M)])=H6 at Jj g6⊢
  have hz20:z.length<=20:=by have:=Kh.2.1;rw[Ξ]at this;omega
  refine⟨p1,p2,_,_,Λ,Λ,Jj _ _ g5,g6,by rw[Μ,Χ];show _+2<=_;omega,λp3 ID=>?_⟩
  have LN:=(EU.refl H6).new (o:=.π (z.map V.str++[V.str (al O),V.str (al M)])) ID
  have g7:(ο H6 p3 (.π (z.map V.str++[V.str (al O),V.str (al M)]))) p3=Α (.π (z.map V.str++[V.str (al O),V.str (al M)])):=ET
  generalize ο H6 p3 (.π (z.map V.str++[V.str (al O),V.str (al M)]))=H7 at LN g7⊢
  have s47:=II.trans (Jj.trans LN)
  refine⟨blank,p3,z++[al O,al M],Λ,Λ,EX.of (by rw[g7,ϗ];rfl),Kh.sum,?_⟩
  refine⟨p,_,_,k,Λ,Λ,s47 _ _ Y,ig (by rw[Μ];exact X),?_⟩
  refine⟨Λ,g.set k (z++[al O,al M]),off (IH.trans s47),ET.trans (by rw[map_set];rfl),R.set Kh X,v8 (a:=wa) (b:=wb) (c:=wc) (s:=Qs++[O,M]) (λx Z=>F9 x ?_) (λzz=>?_) (?_:_∈g.set k (z++[al O,al M]))⟩
  ·rw[es2]
   rcases ϝ.mp Z with Z|Z
   ·exact Ê _ Z
   ·refine Å _ ?_
    simp only[ύ,ϡ,or_false]at Z⊢
    exact Z.symm
  ·rw[es2]at Ji
   have q1:=(Ou.mp Ji).2.1
   have q2:=(Ou.mp zz).2.1
   simp only[Rt,ύ,ϡ,or_false,forall_eq]at q1 q2
   omega
  ·have e:ω:: ([wa,wb,wc]++(Qs++[O,M]).map al)=z++[al O,al M]:=by rw[ez,ϗ];rfl
   rw[e];exact qB X
 |false =>
 have swap:∀{A C:List (List Str)}{u w:List Str}{D:Hp},g=A++u:: w:: C->D=ο (ο H4 p (.π ((g.map bN).eraseIdx (A.length+1)))) p (.π (((g.map bN).eraseIdx (A.length+1)).take A.length++bN w:: ((g.map bN).eraseIdx (A.length+1)).drop A.length))->x5 (A++w:: u:: C)->
   ∃J,EU H D/\D p=Α (.π (J.map bN))/\pj J/\x5 J:=λ{A C u w D} e eH no=>by
  refine⟨A++w:: u:: C,by rw[eH];exact off (off IH),?_,R.ρ (by rw[e];simp) (by rw[e];exact(Ž A).append (((Ž C).cons w).cons_cons u)),no⟩
  rw[eH,ET,e,wq]
 refine aH ?_
 refine⟨λb D=>H4=D/\(b=Δ->k+1<g.length),?_,?_⟩
 ·refine⟨Λ,_,Λ,iq (λ_=>?_) λ_=>?_⟩
  ·exact⟨_,_,Λ,Λ,p,_,Λ,.inl (EX.of Y),_,_,Λ,Λ,_,Λ,Λ,λz=>by have:=of_decide_eq_true z;rw[Μ]at this;omega⟩
  ·exact⟨Λ,λz=>by cases z⟩
 rintro b _ ⟨rfl,hb4⟩
 cases b with
 | true =>
  have Wx:=hb4 Λ
  obtain⟨y2,OO⟩:∃y2,g[k+1]?=Α y2:=⟨_,Ψ Wx⟩
  obtain⟨A,C,eA,hAl⟩:=Ci LR OO
  have UA:y2∈I:=by
   have:=OO
   rw[eR,â (by omega)]at this
   exact Ϫ this
  have Gu:x5 (A++y2:: y:: C):=by
   refine BR S (W0 W2) (W0 UA) (by rw[hT0,eA];exact lN _ _ _ _) (lN _ _ _ _) ?_ ?_
   ·rw[hT0,eA]
    cases A with
    |nil=>exfalso;rw[←hAl]at hk;have:P1.length+j=0:=hk;omega
    |cons x A=>rfl
   ·have nl:∀{v},v∈I->bW v=Ε:=λhv=>by
     unfold bW
     rw[(wQ _ hv).2,fE (x:=ω) (by decide),ö]
    rw[hT0,eA,Ú,Ú,ï,ï,ï,ï,nl W2,nl UA]
    rfl
  refine aI ⟨.inl ⟨Λ,_,EX.of Y⟩,.inl ⟨Λ,_,EX.of Y⟩,_,_,Λ,Λ,p,_,_,k+1,bN y2,Λ,Λ,Y,by omega,by omega,?_,?_,p,_,_,_,Λ,Λ,ET,by omega,?_,?_,?_⟩
  ·rw[show((k:Int)+1)=((k+1:Nat):Int) from Λ,oD (by omega) (by rw[Μ];omega),Ϙ]
  ·rw[Ç,OO];rfl
  ·rw[kb,Μ,Ι Wx];omega
  ·rw[kb,Μ,Ι Wx,Χ];omega
  ·refine⟨Λ,swap eA ?_ Gu⟩
   rw[hAl];rfl
 | false =>
  obtain⟨U,l0,eP,OP,hP0⟩:=hP0
  obtain⟨q0,C,eQ⟩:∃q0 C,I=q0:: C:=by
   cases hQ:I with
   |nil=>rw[hQ]at hq0;cases hq0
   |cons x C=>exact⟨x,C,Λ⟩
  have eA:g=U++l0:: q0:: C:=by rw[eR,eP,eQ,Ù];rfl
  have hPl0:P1.length=U.length+1:=by rw[eP,Ξ];rfl
  have Gu:x5 (U++q0:: l0:: C):=zC (wQ q0 (by rw[eQ];simp)).2 OP (lN _ _ _ _)
  have hq:g[U.length+1]?=Α q0:=by rw[eA,â (by omega),show U.length+1 - U.length=1 by omega];rfl
  have UB:U.length+1<g.length:=(gQ0 hq)
  have h0:=U9 (j:=0) hq0
  rw[Nat.add_zero,hPl0]at h0
  refine aH ⟨.inl ⟨Λ,_,EX.of Y⟩,B,_,_,_,Λ,Λ,EX.of g4B,h0,_,_,Λ,Λ,.inl ⟨Λ,_,EX.of Y⟩,B,_,_,_,Λ,Λ,EX.of g4B,h0,p,_,_,U.length+1,bN q0,Λ,Λ,Y,by omega,by omega,?_,?_,p,_,_,_,Λ,Λ,ET,by omega,?_,?_,?_⟩
  ·rw[oD (by omega) (by rw[Μ];omega),Ϙ]
  ·rw[Ç,hq];rfl
  ·rw[kb,Μ,Ι UB];omega
  ·rw[kb,Μ,Ι UB,Χ];omega
  ·refine⟨Λ,swap eA ?_ Gu⟩
   rw[show(((U.length+1:Nat):Int) - 1).toNat=U.length by omega]
structure RdX(K:Ϣ)(mg:Str->Option Ο)(xc:Xc):Prop where
 my:mg "YardError"=Α (.ref xc.yc)
 mt:mg "NoText"=Α (.ref xc.tx)
 m1:mg "NoMove"=Α (.ref xc.mv)
 m2:mg "NoPlace"=Α (.ref xc.pl)
 m3:mg "NoRooms"=Α (.ref xc.rm)
 m4:mg "NoWay"=Α (.ref xc.wy)
 ct:iu K xc.tx
 is_:Co K xc.tx
 k1:ü K (.ref xc.tx) (.ref xc.tx)=Α Δ
 k2:PySem.W.kitAny K (.ref xc.tx) [.ref xc.mv,.ref xc.pl,.ref xc.rm,.ref xc.wy]=Α Ε
 ex:PySem.W.exmOne K (.ref xc.tx) (.ref xc.yc)=Α Δ
abbrev iX:V:=.str (υ "refused")
inductive qv(P:Program)(w:À)(K:Ϣ)(c:Cs)(ts:Ts)(ys:Ys)(vs:List V)(H:Hp)(Q:VK)(E:XK):Prop
 | mk (x:Str) (ex:List Ν) (_:vs=[.str x]) (_:x.length<=4000000) (_:(Txt.split x newline).length<=1000000) (_:∀r∈Txt.split x newline,r.length<=1000000/\(Txt.split r blank).length<=1000000) (_:GY (dA x)) (_:∀i,At (dA x) i->(dA x).length<=i+50) (_:(∀b∈ex,∃xs,H b=Α (.π xs)))
  (_:(∀i n ps rs Fl ds s,JR (dA x) i n ps rs Fl ds s->yT n ps (av rs) s≠x)->∀p H',EU H H'->H' p=Α (.tup [iX,.Fp])->Q (.ref p) H')
  (_:∀i n ps rs Fl ds s,JR (dA x) i n ps rs Fl ds s->yT n ps (av rs) s=x->∀(a:YA)(p:Ν)(H':Hp),a.ps=ps->a.wy=oZ rs->a.n=n->EU H H'->HP K c ts.told (Ff P w ts) (yx ys ex) H' a s->G5 a s->H' p=Α (.tup [.str (υ "yard"),.ref a.y])->Q (.ref p) H')
 |no (v:V) (t:Ο) (_:vs=[v]) (_:jl K H v t) (_:ü K t (.type "str")=Α Ε) (_:∀p H',EU H H'->H' p=Α (.tup [iX,.Fp])->Q (.ref p) H')
abbrev NLr:List Str:=["_law_thing","_law_yard","e"]
theorem Nn:ap NLr ["_law_thing"] (ag uw):=L2.F4
theorem zo(F:F0 K "_law_read" "_law_read" uw f fd)(T:Txt mg)(W:Wy K ts.told fw dw (Ff P w ts))(X:RdX K mg xc)(mr:mg "read_yard"=Α (.ref fr))(kr:Ϩ K (.ref fr)=Δ)(br:Binds K dr ["text"] [])(Gr:EW P w K mg μ (Yg P w) 11 fr dr ["text"] (jx P w K c ts xc ys)):
  EW P w K mg μ aL 12 f fd ["_law_thing"] (qv P w K c ts ys):=by
 refine F.ok Nn (len:=λvs H Q E h=>?_) (λcdv A outer s0 H vs Q E hr h=>?_)
 rotate_left
 ·rcases h with ⟨x,ex,rfl,_⟩|⟨v,t,rfl,_⟩<;>rfl
 ·refine⟨_,ad (aA (i:=1) Nn.nd Λ (ό Λ) bA)
   (ad (yP (i:=2) Λ Λ Nn.nd Λ Λ Λ X.my (Az (i:=1) Nn.nd Λ (ό Λ) (se Gr hr Λ mr kr br .nil Λ (aa (pv 0) ac)))
    (λea oe=>ad (aN (PW.pt (fR (b9 (aF Ax Λ T.O8 ä (aa (pv 2) (aa (dj (v:=.ref xc.tx) Λ X.mt Λ) ac))))
      (dR (bV (b9 (aF xw Λ T.O8 ä (aa (pv 2) (aa (bF (aa (dj (v:=.ref xc.mv) Λ X.m1 Λ) (aa (dj (v:=.ref xc.pl) Λ X.m2 Λ) (aa (dj (v:=.ref xc.rm) Λ X.m3 Λ) (aa (dj (v:=.ref xc.wy) Λ X.m4 Λ) ac))))) ac))))))))
      (ah (az (bF (aa aD (aa bA ac))))) aG)
     (ah (az (bF (aa aD (aa bA ac)))))))
   (ah (az (bF (aa aD (aa (pv 1) ac)))))),?_⟩
  rcases h with ⟨x,ex,rfl,l0,l1,l2,hR,h50,hex,hE,q⟩|⟨v,ty,rfl,Mz,Gu,hE⟩
  ·refine(.mk x ex Λ l0 l1 l2 hR h50 hex (λGu H' s'=>?_) λi n ps rs Fl ds s hM he a H' e1 e2 e3 s' Ig JH hJ=>?_)
   ·refine⟨X.ex,λea oe vs hc hd hf hea=>?_⟩
    have O5:j8 H' oe.dict:=by rw[hd];exact trivial
    refine⟨ea,oe,_,.ref xc.tx,xc.tx,vs,Δ,Λ,Λ,.head _,hc,hf,O5,X.ct,X.is_,X.k1,_,Λ,aI ?_⟩
    refine⟨by show 4<=Τ;decide,λt ht=>?_⟩
    have s2:=(EU.refl H').new (o:=.tup [.ref xc.mv,.ref xc.pl,.ref xc.rm,.ref xc.wy]) ht
    have Pz:j8 (ο H' t (.tup [.ref xc.mv,.ref xc.pl,.ref xc.rm,.ref xc.wy])) oe.dict:=by rw[hd];exact trivial
    refine⟨ea,oe,t,_,[.ref xc.mv,.ref xc.pl,.ref xc.rm,.ref xc.wy],xc.tx,vs,Ε,Λ,ET,.cons Λ (.cons Λ (.cons Λ (.cons Λ .nil))),.head _,hc,hf,Pz,X.ct,X.is_,X.k2,_,Λ,aI ?_⟩
    refine⟨by show 2<=Τ;decide,λp hp=>?_⟩
    exact hE Gu p _ ((s'.trans s2).new hp) ET
   ·exact⟨by show 2<=Τ;decide,λp hp=>q i n ps rs Fl ds s hM he a p _ e1 e2 e3 (s'.new hp) (JH.same W ((EU.refl H').new hp)) hJ ET⟩
  ·refine(.no v ty Λ Mz Gu λH' s'=>?_)
   refine⟨X.ex,λea oe vs hc hd hf hea=>?_⟩
   have O5:j8 H' oe.dict:=by rw[hd];exact trivial
   refine⟨ea,oe,_,.ref xc.tx,xc.tx,vs,Δ,Λ,Λ,.head _,hc,hf,O5,X.ct,X.is_,X.k1,_,Λ,aI ?_⟩
   refine⟨by show 4<=Τ;decide,λt ht=>?_⟩
   have s2:=(EU.refl H').new (o:=.tup [.ref xc.mv,.ref xc.pl,.ref xc.rm,.ref xc.wy]) ht
   have Pz:j8 (ο H' t (.tup [.ref xc.mv,.ref xc.pl,.ref xc.rm,.ref xc.wy])) oe.dict:=by rw[hd];exact trivial
   refine⟨ea,oe,t,_,[.ref xc.mv,.ref xc.pl,.ref xc.rm,.ref xc.wy],xc.tx,vs,Ε,Λ,ET,.cons Λ (.cons Λ (.cons Λ (.cons Λ .nil))),.head _,hc,hf,Pz,X.ct,X.is_,X.k2,_,Λ,aI ?_⟩
   refine⟨by show 2<=Τ;decide,λp hp=>?_⟩
   exact hE p _ ((s'.trans s2).new hp) ET
inductive kJ(c:Cs)(C:Ν)(J:TJ)(vs:List V)(H:Hp)(Q:VK)(E:XK):Prop
 |mk (x lx F1 lt:Ν) (n:Nat) (Fo:List V) (ps:List (Int×Int)) (wf:Wf) (wy:cx->Nat) (_:vs=[.ref x]) (_:Hh c C J H x lx F1 lt n Fo ps wf) (_:Ag n ps wf wy) (_:(∀pr∈ps,∃a b:Nat,pr=((a:Int),(b:Int))/\a<12/\b<12)) (_:CN wy) (_:∀(H':Hp),EU H H'->Q (.str (Txt.join newline (bD n ps wy))) H')
theorem scTt:ap ["table"] ["table"] (ag n9):=L2.F4
theorem uF(F:F0 K "table_text" "table_text" n9 f fd)(i:mg "table_rows"=Α (.ref fr))(j:Ϩ K (.ref fr)=Δ)(l:Binds K dr ["table"] [])(m:EW P w K mg μ aL 5 fr dr ["table"] (iS c C J)):EW P w K mg μ aL 6 f fd ["table"] (kJ c C J):=by
 refine F.ok scTt λ_ _ _ s H _ Q E o h=>?_
 obtain⟨x,p,r,lt,n,t,a,u,b,rfl,d,v,e,g,q⟩:=h
 refine⟨_,ah (az (aZ plainAttrs_str slot_str_join type_str_join eV aD (aa (au m o Λ i j l .nil aw (aa (pv 0) ac)) ac))),?_⟩
 obtain⟨G,y⟩:=nH d.G0 d.F3 e g
 refine⟨Λ,x,p,r,lt,n,t,a,u,b,Λ,d,v,e,g,λD z A I B=>⟨newline,D,bD n a b,Λ,Λ,EX.of B,?_,q z A⟩⟩
 have L:=Ð _ y
 show _+(bD n a b).length* 1<=_
 omega
theorem qf(h:AJ d):tG (rp d)=dC d:=by
 unfold rp
 rw[fJ]
 show dV (xp d) (((ly d).map V.int).map wT)=_
 unfold dV tO
 congr 1
 rw[Á,Á,Á]
 refine Æ λi a=>?_
 show iV (im (wT (.int i)))=V.int i
 rw[Bg ((uX h).1 i a)]
 rfl
theorem sD{n f:Nat}(g:n<=12)(h:f<=12):∀{l d:List (Int×Int)},(∀q∈l,gQ n q=Δ)->(∀q∈d,gQ f q=Δ)->l.map fu=d.map fu->l=d
 |[],[],_,_,_=>rfl
 |[],_:: _,_,_,z=>by cases z
 |_:: _,[],_,_,z=>by cases z
 | q:: l,q':: d,a,b,z=>by
  obtain⟨i,j,rfl,m,o⟩:=cf g (a q ϙ)
  obtain⟨p,r,rfl,_,_⟩:=cf h (b q' ϙ)
  have c:=(Φ z).1
  injection c with _ c
  injection c with s c
  injection c with t _
  rw[fG (ø m (by decide)) s,fG (ø o (by decide)) t,sD g h (λq e=>a q (ϊ _ e)) (λq e=>b q (ϊ _ e)) (Φ z).2]
theorem rW(h:Tb n ps rs)(g:Tb n' HE FP)(e:bj n ps (av rs)=bj n' HE (av FP)):n=n'/\ps=HE/\oZ rs=oZ FP:=by
 have p:=fG (ß h.G0.2 (by decide)) (by
  have r:=congrArg List.head? e
  exact(Φ (Φ (ϥ r)).2).1)
 subst p
 have i:=congrArg (D0 bW) e
 rw[gJ,gJ]at i
 have s:=sD h.G0.2 h.G0.2 h.HZ g.HZ i
 subst s
 refine⟨Λ,Λ,?_⟩
 have j:=congrArg (D0 fz) e
 rw[jC,jC]at j
 have t:bc n ps (av rs)=bc n ps (av FP):=by
  have u:∀{l c:List Key},(∀k∈l,k∈b7 ps n n)->(∀k∈c,k∈b7 ps n n)->(l.map (c6 (av rs))).map c8=(c.map (c6 (av FP))).map c8->l.map (c6 (av rs))=c.map (c6 (av FP)):=by
   intro l
   induction l with
   | nil=>intro c _ _ z;cases c with
    |nil=>rfl
    |cons=>cases z
   | cons k l v =>
    intro c a b z
    cases c with
    |nil=>cases z
    | cons m c =>
     have o:=(Φ z).1
     have x:=kj h.G0.2 h.F3 (a k ϙ) (b m ϙ) o
     subst x
     have y:(wl (av rs) (bO k)).map al=(wl (av FP) (bO k)).map al:=(List.append_inj (Φ o).2 Λ).2
     have A:=nX (λl B=>Ϗ ((bT h.fit).lt _ l B) h.F3) y
     rw[ϳ,ϳ,v (λq d=>a q (ϊ _ d)) (λq d=>b q (ϊ _ d)) (Φ z).2]
     congr 1
     show(⟨k.1,k.2.1,k.2.2,wl (av rs) (bO k)⟩:Rw)=⟨k.1,k.2.1,k.2.2,wl (av FP) (bO k)⟩
     rw[A]
  exact u (λk f=>(Ì.mp f).1) (λk f=>(Ì.mp f).1) j
 rw[←lK h.fit,←lK g.fit,t]
theorem rG:∀{A A' B c:List (List Str)}{r a:List Str},A++r:: B=A'++a:: c->(∀y∈A,ir y=Ε)->ir r=Δ->(∀y∈A',ir y=Ε)->ir a=Δ->A=A'/\r=a/\B=c
 |[],[],_,_,_,_,e,_,_,_,_=>⟨Λ,(Φ e).1,(Φ e).2⟩
 | [],x:: _,_,_,r,_,e,_,hr,h',_=>by
  have:=h' x ϙ
  rw[←(Φ e).1,hr]at this
  cases this
 | x:: _,[],_,_,_,a,e,h,_,_,LX=>by
  have:=h x ϙ
  rw[(Φ e).1,LX]at this
  cases this
 | x:: A,x':: A',_,_,_,_,e,h,hr,h',LX=>by
  obtain⟨d,f,g⟩:=rG (A:=A) (A':=A') (Φ e).2 (λy b=>h y (ϊ _ b)) hr (λy b=>h' y (ϊ _ b)) LX
  exact⟨by rw[(Φ e).1,d],f,g⟩
theorem jb(l:List Str):ir (υ "rooms":: l)=Δ:=Ζ Λ
theorem GO.tb(h:GO n ps rs rm ds s):Tb n ps rs:=⟨h.G0,h.F3,h.HZ,h.fit⟩
theorem CH(h:GO n ps rs rm ds s):JR (yW n ps (av rs) rm ds) (bj n ps (av rs)).length n ps (bc n ps (av rs)) (nV rm) ds s:=by
 have E:yW n ps (av rs) rm ds=bj n ps (av rs)++nJ rm:: ds.map rp:=by unfold yW;rw[Ù];rfl
 have F:=Ab (n:=n) (ps:=ps) (wy:=av rs)
 have G:0<(bj n ps (av rs)).length:=Nat.zero_lt_succ _
 have A:(bj n ps (av rs)++nJ rm:: ds.map rp)[(bj n ps (av rs)).length]?=Α (nJ rm):=by rw[â (ϛ _),Yf];rfl
 have f:∀{m:Nat},m<100->eU (al m)=Α m:=λH=>lV (ø H (by decide))
 rw[E]
 refine⟨⟨G,⟨_,A,jb _⟩,λj y _ I e=>?_⟩,?_,?_,?_,?_,?_⟩
 ·rw[Õ I]at e
  exact F y (Ϫ e)
 ·rw[TR]
  refine⟨?_,h.G0,?_,h.HZ,?_,?_,sJ (qI (bT h.fit))⟩
  ·show eU (al n)=Α n
   exact f (by have:=h.G0.2;omega)
  ·rw[gJ,Á]
   refine Æ λJ L=>?_
   obtain⟨a,b,rfl,X,Y⟩:=h.pairs J L
   show(eU (al a),eU (al b))=_
   rw[f (by omega),f (by omega)]
   rfl
  ·rw[jC,Á]
   refine Æ λr i=>?_
   obtain⟨k,o,rfl⟩:=ϟ.mp i
   obtain⟨p,g,Z,h2,_,B,C,D⟩:=fj (Ì.mp o).1
   obtain⟨k1,k2,c⟩:=k
   subst B C
   have M:=(bT h.fit).lt (bO ((p:Int),(g:Int),c))
   show Wa (al p) (al g) (wT (cV c)) ((wl (av rs) (bO ((p:Int),(g:Int),c))).map al)=oX (c6 (av rs) ((p:Int),(g:Int),c))
   unfold Wa oX c6
   have hn:=h.G0.2
   have hf:=h.F3
   rw[f (by omega),f (by omega),Á]
   have q:(wl (av rs) (bO ((p:Int),(g:Int),c))).map (eU ∘ al)=(wl (av rs) (bO ((p:Int),(g:Int),c))).map Α:=Æ λl N=>f (by have:=M l N;omega)
   have u:cO (wT (cV c))=c:=by
    unfold cO
    cases c with
    |none=>exact Ι Λ
    | some x =>
     have O:x<100:=by
      unfold bR at D
      rcases ύ.mp D with z|z
      ·cases z
      ·obtain⟨y,Q,e⟩:=ϟ.mp z
       cases e
       have:=gj Q
       omega
     show(if V.str (al x)=V.str (υ "-") then Β else eU (al x))=Α x
     rw[Θ (of_decide_eq_false (nY x)),f O]
   rw[q,u]
   rfl
  ·intro r i
   obtain⟨k,o,rfl⟩:=ϟ.mp i
   obtain⟨p,g,_,_,_,B,C,_⟩:=fj (Ì.mp o).1
   show 0<=k.1/\0<=k.2.1
   omega
 ·rw[Ò,A]
  show nV rm=((rm.map al).map eU).map oV
  rw[Á,Á]
  unfold nV
  refine Æ λr i=>?_
  show _=oV (eU (al r))
  rw[f (by have:=h.Wm r i;omega)]
  rfl
 ·unfold pf
  rw[ϫ,decide_eq_true_eq,Ā]
  refine⟨by rw[eC,h.Uh],λv R=>?_⟩
  obtain⟨r,i,rfl⟩:=iF R
  have:=h.Wm r i
  exact Ζ (show (1:Int)<=(r:Int)/\(r:Int)<=60 by omega)
 ·rw[←List.drop_drop,List.drop_left]
  show(ds.map rp).map tG=_
  rw[Á]
  exact Æ λd S=>qf (h.Nc d S)
 ·obtain⟨T,q,u,U,t⟩:=h.LL
  exact⟨T,q,by rw[u,lK h.fit],U,t⟩
def il(L:Nat)(told:List Str):Prop:=∀rm:List Nat,rm.length=L->(∀r∈rm,1<=r/\r<=60)->told≠rm.map al
inductive Cv(a:YA)(rs:List Rw)(rm:List Nat)(TW:List (List Str))(told:List Str)(DW:List (List Str)):Prop
 |tab (_:x5 TW)
 |room (_:TW=bj a.n a.ps (av rs)) (_:il a.ps.length told)
 |row (_:TW=bj a.n a.ps (av rs)) (_:told=rm.map al) (_:Q5 a (nV rm) DW)
theorem pE:∀{s t:List Nat},(∀l∈s,1<=l/\l<=60)->s.map al=t.map al->s=t
 |[],[],_,_=>rfl
 |[],_:: _,_,h=>by cases h
 |_:: _,[],_,h=>by cases h
 | a:: s,b:: t,hs,h=>by
  rw[fG (ß (hs a ϙ).2 (by decide)) (Φ h).1,pE (λl c=>hs l (ϊ _ c)) (Φ h).2]
theorem DF(j:Tb a.n a.ps rs)(p:a.wy=oZ rs)(G:G5 a (Y0 (nV rm) a.n))(N:∀y∈TW,ir y=Ε)(O:∀r∈rm,1<=r/\r<=60)
  (Q:dA x=TW++(υ "rooms":: told):: DW) (R:GY (dA x)) (q:∀i,At (dA x) i->(dA x).length<=i+50) (S:Cv a rs rm TW told DW):
  ∀i n f g H b s,JR (dA x) i n f g H b s->yT n f (av g) s≠x:=by
 intro i n f g H b s I T
 obtain⟨l,Wr,e⟩:=I.pre R (q i I.at_)
 obtain⟨U,X⟩:=Ui e
 have Y:dA x=bj n f (av g)++(υ "rooms":: l.map al):: b.map rp:=by
  rw[←T]
  show(Txt.split (yT n f (av g) s) newline).map _=_
  rw[U,X]
  unfold yW
  rw[Ù]
  rfl
 obtain⟨t,m,Z⟩:=rG (Q.symm.trans Y) N (jb _) Ab (jb _)
 have m:=(Φ m).2
 cases S with
 |tab u=>exact u n f g e.tb t
 | room v u =>
  obtain⟨_,C,_⟩:=rW j e.tb (v.symm.trans t)
  exact u l (by rw[e.Uh,C]) e.Wm m
 | row v er hB =>
  obtain⟨en,C,ew⟩:=rW j e.tb (v.symm.trans t)
  have D:=pE O (er.symm.trans m)
  obtain⟨a0,f1,f2,f3,h⟩:=e.LL
  have h:=h.to (a':=a) (by rw[f1,C]) (by rw[f2,p,ew]) (by rw[f3,en])
  rw[←D]at h
  obtain⟨A,B,y,c,s0,eD,J,eA,Gu⟩:=hB
  have dk:=h.Nc G j.G0.2
  have E:=J.Nc G j.G0.2
  have ed:b.map dC=(c.map dC)++tG y:: B.map tG:=by
   have o:(b.map rp).map tG=b.map dC:=by rw[Á];exact Æ λd F=>qf (dk d F)
   have h2:(c.map rp).map tG=c.map dC:=by rw[Á];exact Æ λd F=>qf (E d F)
   rw[←o,←h2,←Z,eD,eA,ϗ]
   rfl
  have hl:c.length<b.length:=by have:=congrArg ê ed;rw[Ξ,Μ,Μ,Ϛ]at this;omega
  have L:=Ψ hl
  obtain⟨t',o,hL⟩:=h.at L
  have PZ:b.take c.length=c:=by
   have:(b.take c.length).map dC=c.map dC:=by rw[ej,ed,List.take_left' (Μ ..)]
   exact ŝ (λ_ _ z=>rb z)|>.mp this
  rw[PZ]at o
  have:=o.det J
  subst this
  refine Gu _ hL ?_
  have M:(b.map dC)[c.length]?=Α (dC b[c.length]):=by rw[Ç,L];rfl
  rw[ed,â (by rw[Μ];exact ϛ _),Μ,Yf]at M
  exact(ϥ M).symm
structure FL(WS:List (List Str)):Prop where
 ne:WS≠[]
 rows:∀y∈WS,y≠[]/\y.length<=60/\∀u∈y,Wc u 90
 F3:WS.length<=300
 γ:(WS.filter bW).length<=40
theorem FL.row(h:FL WS)(c:y∈WS):Txt.split (Txt.join blank y) blank=y/\(Txt.join blank y).length<=5500:=by
 obtain⟨d,e,b⟩:=h.rows y c
 refine⟨cC (by decide) d λu a=>(b u a).no.1.2,?_⟩
 have f:=Ð _ λu a=>(b u a).1
 have g:=ñ blank y
 have i:y.length* blank.length=y.length:=Ţ _
 rw[show Txt.join blank y=ĭ blank y from à _ _]
 omega
theorem FL.sum(h:FL WS):((WS.map (Txt.join blank)).map (·.length)).sum+(WS.map (Txt.join blank)).length* newline.length<=4000000:=by
 have a:=Ð _ λu b=>by
  obtain⟨y,c,rfl⟩:=ϟ.mp b
  exact(h.row c).2
 have d:=h.F3
 rw[Μ]at a⊢
 have:WS.length* newline.length=WS.length:=Ţ _
 omega
theorem FL.text(h:FL WS):(bU WS).length<=4000000/\(Txt.split (bU WS) newline).length<=1000000/\(∀r∈Txt.split (bU WS) newline,r.length<=1000000/\(Txt.split r blank).length<=1000000)/\dA (bU WS)=WS/\GY WS:=by
 have cut:Txt.split (bU WS) newline=WS.map (Txt.join blank):=by
  refine cC (by decide) (λz=>h.ne (ĥ.mp z)) λr b=>?_
  obtain⟨y,a,rfl⟩:=ϟ.mp b
  show 10∉tl (Txt.join ⟨#[32]⟩ y)
  rw[eN]
  refine mz (by decide) λp d=>?_
  obtain⟨u,c,rfl⟩:=ϟ.mp d
  exact((h.rows y a).2.2 u c).no.1.1
 have f:=h.F3
 refine⟨?_,by rw[cut,Μ];omega,λr b=>?_,?_,λy a=>(h.rows y a).1,λy a=>by have:=(h.rows y a).2.1;omega,λy a u c=>?_,by omega,h.γ⟩
 ·have g:=ñ newline (WS.map (Txt.join blank))
  have:=h.sum
  unfold bU
  rw[show Txt.join newline (WS.map (Txt.join blank))=ĭ newline (WS.map (Txt.join blank)) from à _ _]
  omega
 ·rw[cut]at b
  obtain⟨y,a,rfl⟩:=ϟ.mp b
  obtain⟨e,i⟩:=h.row a
  rw[e]
  have:=(h.rows y a).2.1
  omega
 ·unfold dA
  rw[cut,Á]
  exact(Æ λy a=>(h.row a).1).trans (ŋ _)
 ·have:=(h.rows y a).2.2 u c
  exact⟨ώ this.1 (by decide),this.no.2⟩
theorem AB(h:pj TW)(f:∀u∈told,Wc u 20)(q:told.length<=20)(g:∀y∈DW,JK y)(r:DW.length<=20):FL (TW++(υ "rooms":: told):: DW)/\∀i,At (TW++(υ "rooms":: told):: DW) i->(TW++(υ "rooms":: told):: DW).length<=i+50:=by
 have s:=h.F3
 have t:=h.γ
 have l:=Ħ.mpr h.ne
 refine⟨⟨by simp,λy a=>?_,by rw[Ξ,Ϛ];omega,?_⟩,λi m=>?_⟩
 ·rcases ϝ.mp a with a|a
  ·obtain⟨c,n,d,_⟩:=h.rows y a
   exact⟨c,by omega,λu b=>(d u b).le (by decide)⟩
  ·rcases ύ.mp a with rfl|a
   ·refine⟨by simp,by rw[Ϛ];omega,λu b=>?_⟩
    rcases ύ.mp b with rfl|b
    ·decide
    ·exact(f u b).le (by decide)
   ·obtain⟨c,n,d⟩:=g y a
    exact⟨c,by omega,d⟩
 ·have v:=É bW DW
  rw[Ú,Ξ,ï]
  split<;>(try simp only[Ϛ])<;>omega
 ·have o:At (TW++(υ "rooms":: told):: DW) TW.length:=by
   refine⟨l,⟨_,by rw[â (ϛ _),Yf];rfl,jb told⟩,λj y _ p e=>?_⟩
   rw[Õ p]at e
   exact(h.rows y (Ϫ e)).2.2.2
  rw[m.uniq o,Ξ,Ϛ]
  omega
theorem CF(h:∀y∈WS,ir y=Ε)(i:Nat):¬At WS i:=λa=>by
 obtain⟨y,e,r⟩:=a.is
 rw[h y (Ϫ e)]at r
 cases r
theorem qZ:∀{a:List V}{b:List Dd},Paired (Hl H) a (b.map dC)->oW K H a (b.map λd=>tD (xp d) ((ly d).map Α))
 |_,[],.nil =>.nil
 | _,d:: _,.cons ⟨p,e,g⟩ r=>by
  subst e
  refine .cons (vQ ?_) (qZ r)
  rw[g,fJ]
  unfold tO
  rw[lR]
theorem Dp(a:List Dd):Ih (.list (a.map λd=>tD (xp d) ((ly d).map Α))) 64:=(jJ (m:=1) λz b=>by
 obtain⟨d,_,rfl⟩:=ϟ.mp b
 refine yl _ ?_
 cases d with
 |post p g l u=>exact (by decide:Wc (υ "post") 90).no.2
 | mv m=>cases m with
  |Gq k l=>exact (by decide:Wc (υ "in") 90).no.2
  |on k l=>exact (by decide:Wc (υ "on") 90).no.2
  |Hm k=>exact (by decide:Wc (υ "lie") 90).no.2
  |back k=>exact (by decide:Wc (υ "back") 90).no.2).le (by decide)
theorem wV(b:a'.ps=a.ps)(c:a'.wy=a.wy)(s:YS):bQ a' s=bQ a s:=by
 obtain⟨y,p,tb,q,r,le,t,u,v,x,lt,n,z,A,B⟩:=a
 obtain⟨C,e,f,g,h,i,j,l,m,d,o,D,E,F,G⟩:=a'
 simp only at b c
 subst b c
 rfl
theorem pS(c:Nat):∀{A:List (List Nat)}(B:List (List Nat)),A≠[]->dB c (dB c A:: B)=dB c (A++B)
 |[],_,h=>Κ Λ h
 |[p],[],_=>rfl
 |[p],b:: B,_=>rfl
 | p:: q:: r,B,_=>by
  have a:=pS c (A:=q:: r) B (by simp)
  cases B with
  |nil=>simp[dB]
  | cons b B =>
   show(p++c:: dB c (q:: r))++c:: dB c (b:: B)=p++c:: dB c ((q:: r)++b:: B)
   rw[←a]
   rw[Ù]
   rfl
theorem wo(h:A≠[]):Txt.join newline (bU A:: B.map (Txt.join blank))=bU (A++B):=by
 apply jv
 show tl (Txt.join ⟨#[10]⟩ _)=tl (Txt.join ⟨#[10]⟩ _)
 rw[eN,eN,ϳ,ϗ,ϗ]
 show dB 10 (tl (Txt.join ⟨#[10]⟩ _):: _)=_
 rw[eN]
 exact pS 10 _ λz=>h (ĥ.mp (ĥ.mp z))
theorem AM(h:GO n ps rs rm ds s):yT n ps (av rs) s=bU (yW n ps (av rs) rm ds):=by unfold yT bU;rw[lJ h]
theorem AN(h:xB n ps rs)(s:YS):yT n ps (av (bc n ps (av rs))) s=yT n ps (av rs) s:=by unfold yT mG;rw[u4 (bT h)]
theorem tq{a:List Nat}(f:k=0∨(60<k/\k<100)):il L (a.map al++[al k]):=λb _ c e=>by
 rcases Qn b with rfl|⟨g,r,rfl⟩
 ·have:=congrArg ê e
  rw[Ξ]at this
  cases this
 ·rw[Qr,ϗ]at e
  have d:=(Φ (YO e Λ).2).1
  have h:=c r (by simp)
  have:=fG (by omega) d.symm
  omega
theorem vX(h:told.length≠L):il L told:=λb a _ e=>h (by rw[e,Μ];exact a)
theorem FL.left(h:FL (A++B))(a:A≠[]):FL A:=
 ⟨a,λy b=>h.rows y (Ê _ b),by have:=h.F3;rw[Ξ]at this;omega,ώ ((List.sublist_append_left A B).filter _).length_le h.γ⟩
theorem FL.right(h:FL (A++B))(a:B≠[]):FL B:=
 ⟨a,λy b=>h.rows y (Å _ b),by have:=h.F3;rw[Ξ]at this;omega,ώ ((MJ A B).filter _).length_le h.γ⟩
theorem Ki:FL [[(⟨#[]⟩:Str)]]:=⟨by simp,λy a=>by
 rw[ϋ.mp a]
 exact⟨by simp,by decide,λu b=>by rw[ϋ.mp b];decide⟩,by decide,ώ (É _ _) (by decide)⟩
inductive vo(K:Ϣ)(vs:List V)(H:Hp)(Q:VK)(E:XK):Prop
 |mk (a:Ν) (ns:List Int) (_:vs=[.ref a]) (_:EX K H a (ns.map V.int)) (_:ns.length<=63) (_:∀H',Q (.bl Δ) H')
abbrev NLw:List Str:=["_law_script","_law_table_here","_law_rooms","_law_yard","_law_rows_here","_law_good_here","_law_told","_law_way","_law_shown","_law_text","_law_word","_law_found"]
structure Fns(P:Program)(w:À)(K:Ϣ)(mg:Str->Option Ο)(μ:ò)(c:Cs)(ts:Ts)(xc:Xc)(ys:Ys)(fd ft fy fr fx fs fl fh fv fe fw:Ν)(dd dt dy dr dx ds dl dh dv de dw:ë):Prop where
 W:Wy K ts.told fw dw (Ff P w ts)
 md:mg "_law_draw"=Α (.ref fd)
 kd:Ϩ K (.ref fd)=Δ
 bd:Binds K dd ["_law_script","_law_k"] []
 Gd:EW P w K mg μ aL 1 fd dd ["_law_script","_law_k"] (jI K)
 mt:mg "_law_table"=Α (.ref ft)
 kt:Ϩ K (.ref ft)=Δ
 bt:Binds K dt ["_law_script"] []
 Gt:EW P w K mg μ aL 7 ft dt ["_law_script"] (uf P w K c ts)
 my:mg "Yard"=Α (.ref ys.Fb)
 My:Mk K ys.Fb fy
 W4:Binds K dy ["self","table","rooms"] []
 Gy:EW P w K mg μ (ix P w) 4 fy dy ["self","table","rooms"] (mU K c xc ts.told (Ff P w ts) (yx ys []))
 mr:mg "_law_rows"=Α (.ref fr)
 kr:Ϩ K (.ref fr)=Δ
 br:Binds K dr ["_law_script","_law_table_here","_law_yard"] []
 Gr:EW P w K mg μ aL 10 fr dr ["_law_script","_law_table_here","_law_yard"] (tY P w K c ts ys)
 mx:mg "table_text"=Α (.ref fx)
 kx:Ϩ K (.ref fx)=Δ
 bx:Binds K dx ["table"] []
 Gx:EW P w K mg μ aL 6 fx dx ["table"] (kJ c ts.told (Ff P w ts))
 ms:mg "_law_table_spoiled"=Α (.ref fs)
 ks:Ϩ K (.ref fs)=Δ
 bs:Binds K ds ["_law_text","_law_draw_here"] []
 Gs:EW P w K mg μ aL 1 fs ds ["_law_text","_law_draw_here"] (xW K)
 ml:mg "_law_read"=Α (.ref fl)
 kl:Ϩ K (.ref fl)=Δ
 bl:Binds K dl ["_law_thing"] []
 Gl:EW P w K mg μ aL 12 fl dl ["_law_thing"] (qv P w K c ts ys)
 mh:ck K ys.Fb "history" fh
 bh:Binds K dh ["self"] []
 Gh:EW P w K mg μ aL 1 fh dh ["self"] (qw K (yx ys []))
 mv:ck K ys.Fb "moves" fv
 bv:Binds K dv ["self"] []
 Gv:EW P w K mg μ aL 7 fv dv ["self"] (lP K c ts.told (Ff P w ts) (yx ys []))
 me:mg "yard_text"=Α (.ref fe)
 ke:Ϩ K (.ref fe)=Δ
 be:Binds K de ["yard"] []
 Ge:EW P w K mg μ aL 6 fe de ["yard"] (lO K c ts.told (Ff P w ts) (yx ys []))
 kN:ü K (.type "NoneType") (.type "str")=Α Ε
 kI:ü K (.type "int") (.type "str")=Α Ε
 kL:ü K (.type "list") (.type "str")=Α Ε
structure LY(P:Program)(w:À)(K:Ϣ)(c:Cs)(ts:Ts)(ys:Ys)(sc Ro:Ν)(ns:List Int)(a:YA)(rs:List Rw)(rm:List Nat)(Hx:Hp):Prop where
 gs:Hx sc=Α (.π (ns.map V.int))
 sf:sc∉a.four
 tb:Tb a.n a.ps rs
 p1:1<=a.ps.length
 p7:a.ps.length<=7
 n4:a.n<=4
 wy:a.wy=oZ rs
 rl:rm.length=a.ps.length
 rr:∀r∈rm,1<=r/\r<=3
 J0:G5 a (Y0 (nV rm) a.n)
inductive P1(P:Program)(w:À)(K:Ϣ)(c:Cs)(ts:Ts)(ys:Ys)(σ:St)(Hx:Hp):Prop
 |mk (sc Ro:Ν) (ns:List Int) (a:YA) (rs:List Rw) (rm:List Nat) (_:LY P w K c ts ys sc Ro ns a rs rm Hx) (_:HP K c ts.told (Ff P w ts) (yx ys []) Hx a (Y0 (nV rm) a.n)) (_:Hx Ro=Α (.π (nV rm))) (_:Ro∉a.four) (_:σ=[Α (.ref sc),Α (.ref a.tb),Α (.ref Ro),Α (.ref a.y),Β,Β,Β,Β,Β,Β,Β,Β])
inductive P2(P:Program)(w:À)(K:Ϣ)(c:Cs)(ts:Ts)(ys:Ys)(σ:St)(Hx:Hp):Prop
 |mk (sc Ro D To:Ν) (ns:List Int) (a:YA) (rs:List Rw) (rm:List Nat) (good:Bool) (DW:List (List Str)) (s:YS) (_:LY P w K c ts ys sc Ro ns a rs rm Hx) (_:HP K c ts.told (Ff P w ts) (yx ys []) Hx a s) (_:Hx D=Α (.π (DW.map bN))) (_:Hx To=Α (.π ((rm.map al).map V.str))) (_:DW.length<=20) (_:rn a (nV rm) good DW s) (_:σ=[Α (.ref sc),Α (.ref a.tb),Α (.ref Ro),Α (.ref a.y),Α (.ref D),Α (.bl good),Α (.ref To),Β,Β,Β,Β,Β])
inductive P3(P:Program)(w:À)(K:Ϣ)(c:Cs)(ts:Ts)(ys:Ys)(σ:St)(Hx:Hp):Prop
 | mk (sc Ro D To:Ν) (ns:List Int) (a:YA) (rs:List Rw) (rm:List Nat) (good good2:Bool) (DW:List (List Str)) (s:YS) (told:List Str) (wd:Int) (_:LY P w K c ts ys sc Ro ns a rs rm Hx) (_:HP K c ts.told (Ff P w ts) (yx ys []) Hx a s) (_:Hx D=Α (.π (DW.map bN))) (_:Hx To=Α (.π (told.map V.str))) (_:DW.length<=20) (_:rn a (nV rm) good DW s) (_:0<=wd/\wd<12) (_:(told=rm.map al/\good2=good/\4<=wd)∨(il a.ps.length told/\good2=Ε/\wd<4)) (_:∀u∈told,Wc u 20) (_:told.length<=20)
  (_:σ=[Α (.ref sc),Α (.ref a.tb),Α (.ref Ro),Α (.ref a.y),Α (.ref D),Α (.bl good2),Α (.ref To),Α (.int wd),Β,Β,Β,Β])
inductive P4(P:Program)(w:À)(K:Ϣ)(c:Cs)(ts:Ts)(ys:Ys)(σ:St)(Hx:Hp):Prop
 | mk (sc Ro D To:Ν) (ns:List Int) (a:YA) (rs:List Rw) (rm:List Nat) (good:Bool) (DW:List (List Str)) (s:YS) (told:List Str) (wd:Int) (TW:List (List Str)) (_:LY P w K c ts ys sc Ro ns a rs rm Hx) (_:HP K c ts.told (Ff P w ts) (yx ys []) Hx a s) (_:Hx D=Α (.π (DW.map bN))) (_:Hx To=Α (.π (told.map V.str))) (_:DW.length<=20) (_:∀y∈DW,JK y) (_:0<=wd/\wd<12) (_:∀u∈told,Wc u 20) (_:told.length<=20) (_:pj TW)
  (_:good=Δ->TW=bj a.n a.ps (av rs)/\told=rm.map al/\∃ds,Hn a (nV rm) ds s/\ds.length<=20/\DW=ds.map rp) (_:good=Ε->Cv a rs rm TW told DW)
  (_:σ=[Α (.ref sc),Α (.ref a.tb),Α (.ref Ro),Α (.ref a.y),Α (.ref D),Α (.bl good),Α (.ref To),Α (.int wd),Α (.str (bU TW)),Β,Β,Β])
theorem GP:ap NLw ["_law_script"] (ag kQ):=L2.F4
theorem bkLw:FQ NLw (ag kQ) (rj ((aJ kQ).getD 2 (.Pass ⟨0,0,0,0⟩))) ["_law_script"] [0]:=L2.GR
theorem ndLw:(["_law_k","_law_script"]:List Str).Nodup:=by decide +kernel
theorem UC:FQ NLw (ag kQ) (rj ((aJ kQ).getD 5 (.Pass ⟨0,0,0,0⟩))) [] []:=L2.GR
theorem UD:(["_law_room"]:List Str).Nodup:=by decide +kernel
theorem Ei(F:F0 K "law" "law" kQ f df)(T:Txt mg)(L:tI K c)(Y:mB K (yx ys []))(D:Fns P w K mg μ c ts xc ys fd ft fy fr fx fs fl fh fv fe fw dd dt dy dr dx ds dl dh dv de dw):
  EW P w K mg μ aL 13 f df ["_law_script"] (vo K):=by
 refine F.ok GP λcdv A0 outer s0 H vs Q E Z h=>?_
 obtain⟨sa,Od,rfl,hS,hlen,q⟩:=h
 have hu:=Z.units
 have FI:Fj 1 _:=Z.mono (by decide)
 have MT:Fj 5 _:=Z.mono (by decide)
 have OX:Fj 6 _:=Z.mono (by decide)
 have Mn:Fj 7 _:=Z.mono (by decide)
 have hr10:Fj 10 _:=Z.mono (by decide)
 have W:=D.W
 have kN:=D.kN
 have kI:=D.kI
 have kL:=D.kL
 refine⟨_,jR 4 (ad (aA (i:=0) GP.nd Λ (Ř Λ) (aX bJ (pv 0) bC (bz ae)))
  (ad (aA (i:=1) GP.nd Λ (ό Λ) (au D.Gt Mn Λ D.mt D.kt D.bt .nil aw (aa (pv 0) ac)))
  (ad (dM (i:=2) (own:=["_law_k"]) (capN:=["_law_script"]) (cap:=[0]) bkLw Λ GP.nd Λ Λ (b6 Λ T.range (aa (aF aC Λ T.len PySem.boot_len (aa (ao (ao (pv 1) Λ) Λ) ac)) ac))
    (λC s' U fp=>⟨aE (i:=0) ndLw Λ (ό Λ),bB,ax bL ae (ax aY (au D.Gd FI Λ D.md D.kd D.bd .nil aw (aa (pv 1) (aa (ax bL ae (pv 0)) ac))) ae)⟩))
  (ah (aA (i:=3) GP.nd Λ (ό Λ) (iY (eO D.My D.Gy MT Λ D.my D.W4 .nil uA (aa (pv 1) (aa (aS dX Λ T.list PySem.Pv.boot_list (aa (pv 2) ac)) ac)))))))))
  (jR 2 (ad (iC (au D.Gr hr10 Λ D.mr D.kr D.br .nil aw (aa (pv 0) (aa (pv 1) (aa (pv 3) ac)))) (jz Λ (bX (aE (i:=4) GP.nd Λ (ό Λ)) (bX (aE (i:=5) GP.nd Λ (ό Λ)) gZ))))
  (ah (dM (i:=6) (own:=["_law_room"]) (capN:=[]) (cap:=[]) UC Λ GP.nd Λ Λ (bu (pv 2))
    (λC s' U fp=>⟨aE (i:=0) UD Λ (ό Λ),bB,aS Fz Λ T.str PySem.Pv.boot_str (aa (pv 0) ac)⟩))))
  (jR 2 (ad (aA (i:=7) GP.nd Λ (ό Λ) (ax aY (au D.Gd FI Λ D.md D.kd D.bd .nil aw (aa (pv 0) (aa ae ac))) ae))
  (ah (gX (aN (ak lC (pv 7) ae (aq _))
   (Iw.h (dc (aA (i:=6) GP.nd Λ (ό Λ) (ay aB (aP (aa (ax bP (aX bJ (pv 6) bC (bz (io fD ae))) (aP (aa aD ac))) (aa (ax bP (aX bJ (pv 6) bC (bz (io fD ae))) (aP (aa aD ac))) (aa (ax bP (pv 6) (aP (aa aD ac))) (aa (aX bJ (pv 6) bC (bz (io fD ae))) ac))))) (pv 7) (λ_ _=>rfl))) (l9 (aA (i:=5) GP.nd Λ (ό Λ) iD))))
   aG))))
  (jR 2 (ad (aA (i:=8) GP.nd Λ (ό Λ) (au D.Gx OX Λ D.mx D.kx D.bx .nil aw (aa (pv 1) ac)))
  (ah (gX (aN (yN lC lC ae (pv 7) ae)
   (ad (aA (i:=8) GP.nd Λ (ό Λ) (au D.Gs FI Λ D.ms D.ks D.bs .nil aw (aa (pv 8) (aa (au D.Gd FI Λ D.md D.kd D.bd .nil aw (aa (pv 0) (aa ae ac))) ac)))) (ah (aA (i:=5) GP.nd Λ (ό Λ) iD)))
   aG))))
  (ad (aA (i:=9) GP.nd Λ (ό Λ) (aZ plainAttrs_str slot_str_join type_str_join eV aD (aa (ax bP (aP (aa (pv 8) (aa (aZ plainAttrs_str slot_str_join type_str_join eV aD (aa (ax bP (aP (aa aD ac)) (pv 6)) ac)) ac))) (pv 4)) ac)))
  (ad (iC (au D.Gl Z Λ D.ml D.kl D.bl .nil aw (aa (pv 9) ac)) (jz Λ (bX (aE (i:=10) GP.nd Λ (ό Λ)) (bX (aE (i:=11) GP.nd Λ (ό Λ)) gZ))))
  (ad (aN (bV (b9 (pv 5)))
   (ah (az (gi (dq aQ (pv 10) aD (aq _)) (gh (dq (qN hu) (au D.Gl Z Λ D.ml D.kl D.bl .nil aw (aa (ay aB (aP (aa bA (aa ae (aa (aP (aa (pv 9) ac)) (aa aD ac))))) (ax aY (pv 7) ae) (λ_ _=>rfl)) ac)) (bF (aa aD (aa bA ac))) (aq _))))))
   aG)
  (ad (aN (PW.pt (dQ (ak lB (pv 10) aD (aq _)) (dQ (ak (qM hu) (bY (pv 11) Y.cl D.mh D.Gh FI D.bh .nil aw) (bY (pv 3) Y.cl D.mh D.Gh FI D.bh .nil aw) (aq _)) (dL (ak (qM hu) (bY (pv 11) Y.cl D.mv D.Gv Mn D.bv .nil aw) (bY (pv 3) Y.cl D.mv D.Gv Mn D.bv .nil aw) (aq _))))))
   (ah (az iD))
   aG)
  (ah (az (gi (dq aQ (au D.Ge OX Λ D.me D.ke D.be .nil aw (aa (pv 11) ac)) (pv 9) (aq _)) (gh (dq (qN hu) (au D.Gl Z Λ D.ml D.kl D.bl .nil aw (aa (au D.Gx OX Λ D.mx D.kx D.bx .nil aw (aa (pv 1) ac)) ac)) (bF (aa aD (aa bA ac))) (aq _))))))))))))),?_⟩
 refine⟨P1 P w K c ts ys,?_,?_⟩
 ·refine⟨63,Λ,sa,_,Λ,hS,λsc MH=>?_⟩
  rw[show dH (Od.map V.int) Β (Α 63)=(Od.take 63).map V.int by rw[ej];exact m8 _ 63]
  have s1:=(EU.refl H).new (o:=.π ((Od.take 63).map V.int)) MH
  have g1:(ο H sc (.π ((Od.take 63).map V.int))) sc=Α (.π ((Od.take 63).map V.int)):=ET
  generalize ο H sc (.π ((Od.take 63).map V.int))=H1 at s1 g1⊢
  generalize Od.take 63=ns at g1
  refine⟨sc,ns,Λ,EX.of g1,λx lx F1 lt n Fo ps O H2 s2 S K4 hp7 Fi KP=>?_⟩
  have g2:=s2 _ _ g1
  obtain⟨JO,fst,JA,FK,_⟩:=S.i
  have Pr:Fo.length=ps.length:=Paired.length S.l.2.2
  refine⟨x,ts.told,JO,fst,_,Λ,JA,W.cl,W.nl,FK,lx,c.land,F1,_,_,Λ,S.l.1,L.cl,L.nl,Λ,lt,_,Λ,.inr (Fn.of S.l.2.1),(Fo.length:Int),Λ,by omega,by omega,?_⟩
  rw[Ϙ,Pr]
  refine b8 ps.length (by rw[Χ];omega) (λi acc U=>EU H2 U/\∃G:List Nat,acc=nV G/\G.length=i/\∀r∈G,1<=r/\r<=3) ⟨EU.refl _,[],Λ,Λ,λr Z=>by cases Z⟩ (λi acc U h=>by obtain⟨_,G,rfl,e,_⟩:=h;rw[eC];omega) (λi acc U hi h=>?_) (λacc U h=>?_)
  ·obtain⟨s3,G,rfl,e,Z⟩:=h
   refine⟨hi,λv H3 y=>?_⟩
   obtain⟨rfl,rfl⟩:=y
   rw[ł]
   refine⟨_,_,Λ,Λ,sc,ns,_,Λ,EX.of (s3 _ _ g2),by omega,by omega,λd H4 s4 hd=>⟨_,_,Λ,Λ,(by show (0:Int)<3;decide),_,_,Λ,Λ,s3.trans s4,G++[(1+d% 3).toNat],?_,by rw[Ξ,e];rfl,λr h=>?_⟩⟩
   ·unfold nV
    rw[ϗ]
    show _++[V.int (1+d% 3)]=_++[V.int (((1+d% 3).toNat:Nat):Int)]
    rw[å (by omega)]
   ·rcases ϝ.mp h with h|h
    ·exact Z r h
    ·rw[ϋ.mp h];omega
  obtain⟨s3,G,rfl,KG,hrr⟩:=h
  refine⟨ϛ _,λRo hRo=>?_⟩
  have Mo:=s3.new (o:=.π (nV G)) hRo
  have Q8:(ο U Ro (.π (nV G))) Ro=Α (.π (nV G)):=ET
  show ci 2 (V.ref Ro) _ (ο U Ro (.π (nV G))) _
  generalize ο U Ro (.π (nV G))=H4 at Mo Q8⊢
  have Sh:=S.keep W (EU.Fw Mo)
  have HX:pf ps.length (nV G)=Δ:=by
   unfold pf
   rw[ϫ,decide_eq_true_eq,Ā]
   refine⟨by rw[eC,KG],λv hv=>?_⟩
   obtain⟨r,Z,rfl⟩:=iF hv
   have:=hrr r Z
   exact Ζ (show (1:Int)<=(r:Int)/\(r:Int)<=60 by omega)
  refine⟨λv U=>∃a:YA,v=.ref a.y/\a.tb=x/\a.ps=ps/\a.n=n/\a.wy=oZ O/\EU H4 U/\(∀z∈a.four,H4 z=Β)/\HP K c ts.told (Ff P w ts) (yx ys []) U a (Y0 (nV G) n)/\G5 a (Y0 (nV G) n),?_,?_⟩
  ·refine⟨Ro,_,Λ,.inl (EX.of Q8),λl hl=>?_⟩
   have II:=(EU.refl H4).new (o:=.π (nV G)) hl
   have g5:(ο H4 l (.π (nV G))) l=Α (.π (nV G)):=ET
   generalize ο H4 l (.π (nV G))=H5 at II g5⊢
   intro y dy ny MV MW
   refine r6 (vd (P:=P) (w:=w) (x:=xc) (E:=E0) W (Sh.keep W (EU.Fw II)) (λp g k=>ώ (qe (λr Z k hk=>Ϗ (gj (KP.γ r Z k hk)) (show ps.length<=40 by omega)) p g k).2 (by decide)) Fi (EX.of g5) (λv hv=>by obtain⟨r,_,rfl⟩:=iF hv;exact .int _) (by rw[eC];omega) (λhb=>by rw[HX]at hb;cases hb) (by omega) (λb hb=>by cases hb) y dy ny MV MW) ?_
   rintro v H7 ⟨rfl,_,a,e1,e2,e3,e4,e5,s7,Ig,JH,hJ⟩
   exact⟨Λ,a,e1,e2,e3,e4,e5,II.trans s7,λz hz=>II.free (Ig z hz),JH,hJ⟩
  rintro _ H5 ⟨a,rfl,rfl,rfl,rfl,Pm,s5,Ig,JH,hJ⟩
  have nf:∀{z u},H4 z=Α u->z∉a.four:=λe z=>by rw[Ig _ z]at e;cases e
  exact⟨sc,Ro,ns,a,O,G,⟨s5 _ _ (Mo _ _ g2),nf (Mo _ _ g2),⟨⟨by omega,by omega⟩,by omega,Fi,KP⟩,hp7.1,hp7.2,K4.2,Pm,KG,hrr,hJ⟩,JH,s5 _ _ Q8,nf Q8,Λ⟩
 rintro σ Hx ⟨sc,Ro,ns,a,O,G,I,hY,Q8,nRo,rfl⟩
 clear hS hlen
 refine⟨P2 P w K c ts ys,?_,?_⟩
 ·refine⟨sc,ns,a,nV G,Λ,I.gs,I.sf,hY,I.J0,I.tb.G0,λp D M DW s H2 o2 gp gD IQ MU hO=>?_⟩
  have UE:=o2 _ _ nRo Q8
  refine⟨p,_,Λ,Fn.of gp,Λ,_,_,Λ,_,_,Λ,Λ,?_⟩
  refine⟨Ro,Λ,⟨_,EX.of UE⟩,rh (λv =>.str (wT v)) (by rw[eC,I.rl,Χ];have:=I.p7;omega) (EX.of UE) (λv N hv h=>?_) λTo hTo=>?_⟩
  ·obtain⟨r,Z,rfl⟩:=iF hv
   have:=I.rr r Z
   exact⟨_,Λ,iJ (show((r:Int)).natAbs<10^61 from ß (show((r:Int)).natAbs<=3 by omega) (by decide)),h⟩
  have s3:=(EU.refl H2).new (o:=.π ((nV G).map λv =>.str (wT v))) hTo
  have eTo:(nV G).map (λv=>V.str (wT v))=(G.map al).map V.str:=by unfold nV;rw[Á,Á];rfl
  have Oe:(ο H2 To (.π ((nV G).map λv =>.str (wT v)))) To=Α (.π ((G.map al).map V.str)):=by rw[ET,eTo]
  generalize ο H2 To (.π ((nV G).map λv =>.str (wT v)))=H3 at s3 Oe⊢
  exact⟨sc,Ro,D,To,ns,a,O,G,M,DW,s,{I with gs:=s3 _ _ (o2 _ _ I.sf I.gs)},IQ.same W s3,s3 _ _ gD,Oe,MU,hO,Λ⟩
 rintro σ Hx ⟨sc,Ro,D,To,ns,a,O,G,M,DW,s,I,hY,gD,Oe,MU,hO,rfl⟩
 refine⟨P3 P w K c ts ys,?_,?_⟩
 ·refine⟨sc,ns,_,Λ,EX.of I.gs,by decide,by decide,λd H2 s2 hd=>⟨_,_,Λ,Λ,(by show (0:Int)<12;decide),?_⟩⟩
  have w0:=û d (show (12:Int)≠0 by decide)
  have w1:=ì d (show (0:Int)<12 by decide)
  show ci 7 (V.int (d% 12)) _ _ _
  generalize d% 12=wd at w0 w1
  have IQ:=hY.same W s2
  have Kj:=s2 _ _ Oe
  have fin:∀(W5:Ν)(m:List Str)(J:Bool)(U:Hp),EU H2 U->U W5=Α (.π (m.map V.str))->((m=G.map al/\J=M/\4<=wd)∨(il a.ps.length m/\J=Ε/\wd<4))->(∀u∈m,Wc u 20)->m.length<=20->
    P3 P w K c ts ys [Α (.ref sc),Α (.ref a.tb),Α (.ref Ro),Α (.ref a.y),Α (.ref D),Α (.bl J),Α (.ref W5),Α (.int wd),Β,Β,Β,Β] U:=λW5 m J U s' g h1 h2 h3 =>
   ⟨sc,Ro,D,W5,ns,a,O,G,M,J,DW,s,m,wd,{I with gs:=s' _ _ (s2 _ _ I.gs)},IQ.same W s',s' _ _ (s2 _ _ gD),g,MU,hO,⟨w0,w1⟩,h1,h2,h3,Λ⟩
  have NW:∀u∈G.map al,Wc u 20:=λu hu=>by
   obtain⟨r,Z,rfl⟩:=ϟ.mp hu
   have:=I.rr r Z
   exact(mJ (n:=1) (by decide) (by omega)).le (by decide)
  have hl7:=I.p7
  refine⟨λσ' U=>P3 P w K c ts ys σ' U,?_,λσ' U h=>h⟩
  refine⟨_,_,Λ,Λ,_,Λ,iq (λF9=>?_) λF9=>?_⟩
  rotate_left
  ·exact fin To _ M H2 (EU.refl _) Kj (.inl ⟨Λ,Λ,by have:¬wd<4:=λz=>F9 (Ζ z);omega⟩) NW (by rw[Μ,I.rl];omega)
  have W6:wd<4:=of_decide_eq_true F9
  obtain⟨JT,r0,er⟩:∃JT r0,G=JT++[r0]:=by
   rcases Qn G with rfl|⟨r0,r,rfl⟩
   ·have:=I.rl;have:=I.p1;exfalso;have:(0:Nat)=a.ps.length:=I.rl;omega
   ·exact⟨r0,r,Qr⟩
  have el:(G.map al).map V.str=(JT.map al).map V.str++[V.str (al r0)]:=by rw[er,ϗ,ϗ];rfl
  have OP:JT.length+1=a.ps.length:=by rw[←I.rl,er,Ξ];rfl
  have hw0:∀u∈JT.map al,Wc u 20:=λu hu=>NW u (by rw[er,ϗ];exact Ê _ hu)
  have first:∀{Hq:Hp}{R:V->Hp->Prop}(z:Str),Hq To=Α (.π ((G.map al).map V.str))->(∀p Hr,EU Hq Hr->Hr p=Α (.π ((JT.map al++[z]).map V.str))->R (.ref p) Hr)->
    (∀p,Hq p=Β->(1<=Τ/\∀p2,ο Hq p (.π (dH ((G.map al).map V.str) Β (Α (-1)))) p2=Β->Bp (.ref p) (.ref p2) (ο (ο Hq p (.π (dH ((G.map al).map V.str) Β (Α (-1))))) p2 (.π [V.str z])) R)):=λ{Hq R} z g h p hp=>by
   rw[el,oK]
   refine⟨by show 1<=Τ;decide,λp2 HW=>?_⟩
   have z1:=(EU.refl Hq).new (o:=.π ((JT.map al).map V.str)) hp
   have z2:=z1.new (o:=.π [V.str z]) HW
   refine⟨p,p2,_,_,Λ,Λ,((EU.refl _).new HW) _ _ ET,ET,by rw[Μ,Μ,Χ];show _+1<=_;omega,λp3 ID=>h p3 _ (z2.new ID) (by rw[ET,ϗ];rfl)⟩
  refine⟨_,Λ,_,Λ,To,_,Λ,EX.of Kj,first (υ "0") Kj λp1 Ha sa ga=>?_⟩
  refine⟨_,Λ,_,Λ,To,_,Λ,EX.of (sa _ _ Kj),first (υ "61") (sa _ _ Kj) λp2 Hb sb gb=>?_⟩
  have Pu:=sa.trans sb
  refine⟨by show 1<=Τ;decide,λq1 Vy=>?_⟩
  have UG:=(EU.refl Hb).new (o:=.π [V.str (υ "1")]) Vy
  have gc1:(ο Hb q1 (.π [V.str (υ "1")])) q1=Α (.π [V.str (υ "1")]):=ET
  generalize ο Hb q1 (.π [V.str (υ "1")])=Hc at UG gc1⊢
  refine⟨To,q1,_,_,Λ,Λ,UG _ _ (Pu _ _ Kj),gc1,by rw[Μ,Μ,I.rl,Χ];show _+1<=_;omega,λp3 ID=>?_⟩
  have W7:=(EU.refl Hc).new (o:=.π ((G.map al).map V.str++[V.str (υ "1")])) ID
  have gd1:(ο Hc p3 (.π ((G.map al).map V.str++[V.str (υ "1")]))) p3=Α (.π ((G.map al++[υ "1"]).map V.str)):=by rw[ET,ϗ];rfl
  generalize ο Hc p3 (.π ((G.map al).map V.str++[V.str (υ "1")]))=He at W7 gd1⊢
  have sae:=Pu.trans (UG.trans W7)
  refine⟨_,Λ,_,Λ,To,_,Λ,EX.of (sae _ _ Kj),λp4 LZ=>?_⟩
  rw[show dH ((G.map al).map V.str) Β (Α (-1))=(JT.map al).map V.str by rw[el,oK]]
  have se1:=(EU.refl He).new (o:=.π ((JT.map al).map V.str)) LZ
  have ge1:(ο He p4 (.π ((JT.map al).map V.str))) p4=Α (.π ((JT.map al).map V.str)):=ET
  generalize ο He p4 (.π ((JT.map al).map V.str))=Hf at se1 ge1⊢
  refine⟨by show 4<=Τ;decide,λpl FJ=>?_⟩
  have sf1:=(EU.refl Hf).new (o:=.π [V.ref p1,V.ref p2,V.ref p3,V.ref p4]) FJ
  have UH:(ο Hf pl (.π [V.ref p1,V.ref p2,V.ref p3,V.ref p4])) pl=Α (.π [V.ref p1,V.ref p2,V.ref p3,V.ref p4]):=ET
  generalize ο Hf pl (.π [V.ref p1,V.ref p2,V.ref p3,V.ref p4])=Hg at sf1 UH⊢
  have W8:=se1.trans sf1
  have W9:=sae.trans W8
  have one:Wc (υ "1") 20:=by decide
  have zero:Wc (υ "0") 20:=by decide
  have UI:Wc (υ "61") 20:=by decide
  have P5:∀{l:List Str}{u:Str},(∀x∈l,Wc x 20)->Wc u 20->∀x∈l++[u],Wc x 20:=λh1 h2 x hx=>by
   rcases ϝ.mp hx with z|z
   ·exact h1 x z
   ·rw[ϋ.mp z];exact h2
  have b0:il a.ps.length (JT.map al++[υ "0"]):=tq (k:=0) (.inl Λ)
  have b61:il a.ps.length (JT.map al++[υ "61"]):=tq (k:=61) (.inr (by decide))
  have Lq:wd=0∨wd=1∨wd=2∨wd=3:=by omega
  rcases Lq with rfl|rfl|rfl|rfl
  ·exact⟨pl,_,_,_,Λ,Λ,EX.of UH,aj (j:=0) Λ,fin p1 _ Ε Hg W9 ((sb.trans (UG.trans (W7.trans W8))) _ _ ga) (.inr ⟨b0,Λ,W6⟩) (P5 hw0 zero) (by rw[Ξ,Μ];show _+1<=20;omega)⟩
  ·exact⟨pl,_,_,_,Λ,Λ,EX.of UH,aj (j:=1) Λ,fin p2 _ Ε Hg W9 ((UG.trans (W7.trans W8)) _ _ gb) (.inr ⟨b61,Λ,W6⟩) (P5 hw0 UI) (by rw[Ξ,Μ];show _+1<=20;omega)⟩
  ·exact⟨pl,_,_,_,Λ,Λ,EX.of UH,aj (j:=2) Λ,fin p3 _ Ε Hg W9 (W8 _ _ gd1) (.inr ⟨vX (by rw[Ξ,Μ,I.rl];show _+1≠_;omega),Λ,W6⟩) (P5 NW one) (by rw[Ξ,Μ,I.rl];show _+1<=20;omega)⟩
  ·exact⟨pl,_,_,_,Λ,Λ,EX.of UH,aj (j:=3) Λ,fin p4 _ Ε Hg W9 (sf1 _ _ ge1) (.inr ⟨vX (by rw[Μ];omega),Λ,W6⟩) hw0 (by rw[Μ];omega)⟩
 rintro σ Hx ⟨sc,Ro,D,To,ns,a,O,G,M,J,DW,s,m,wd,I,hY,gD,Oe,MU,hO,Iv,Of,hwc,Pr,rfl⟩
 have S:=I.tb
 have Hz:∀pr∈a.ps,∃x y:Nat,pr=((x:Int),(y:Int))/\x<12/\y<12:=λpr FZ=>cf S.G0.2 (S.HZ pr FZ)
 have OZ:Ag a.n a.ps a.wy (av O):=by rw[I.wy];exact m9 O
 have P6:=mI (bT S.fit) S.F3
 have LS:=iW (bT S.fit)
 have t0:=C3 S I.n4 I.p7
 have t0ok:pj (bj a.n a.ps (av O)):=by
  refine⟨by show _::_≠[];simp,λy hy=>t0.row hy,by have:=t0.F3;omega,by have:=t0.γ;omega⟩
 refine⟨P4 P w K c ts ys,?_,?_⟩
 ·refine⟨a.tb,a.lx,a.F1,a.lt,a.n,a.Fo,a.ps,a.wy,av O,Λ,hY.T,OZ,Hz,P6,λH2 s2=>?_⟩
  have IQ:=hY.same W s2
  have V3:J=Ε->Cv a O G (bj a.n a.ps (av O)) m DW:=λz=>by
   rcases Of with ⟨e1,e2,_⟩|⟨e1,_,_⟩
   ·exact .row Λ e1 (hO.bad (e2▸z))
   ·exact .room Λ e1
  have hg2:J=Δ->m=G.map al/\∃ds,Hn a (nV G) ds s/\ds.length<=20/\DW=ds.map rp:=λz=>by
   rcases Of with ⟨e1,e2,_⟩|⟨_,e2,_⟩
   ·obtain⟨ds,t,hl,he⟩:=hO.LL
    exact⟨e1,ds,t,by omega,he (e2▸z)⟩
   ·rw[z]at e2;cases e2
  have fin:∀(X:List (List Str))(good3:Bool)(U:Hp),EU H2 U->pj X->(good3=Δ->X=bj a.n a.ps (av O)/\J=Δ)->(good3=Ε->Cv a O G X m DW)->
    P4 P w K c ts ys [Α (.ref sc),Α (.ref a.tb),Α (.ref Ro),Α (.ref a.y),Α (.ref D),Α (.bl good3),Α (.ref To),Α (.int wd),Α (.str (bU X)),Β,Β,Β] U:=λX good3 U s' ok h1 h2 =>
   ⟨sc,Ro,D,To,ns,a,O,G,good3,DW,s,m,wd,X,{I with gs:=s' _ _ (s2 _ _ I.gs)},IQ.same W s',s' _ _ (s2 _ _ gD),s' _ _ (s2 _ _ Oe),MU,hO.ws,Iv,hwc,Pr,ok,λz=>let ⟨e1,e2⟩:=h1 z;⟨e1,hg2 e2⟩,h2,Λ⟩
  refine⟨λσ' U=>P4 P w K c ts ys σ' U,?_,λσ' U h=>h⟩
  have same:=fin (bj a.n a.ps (av O)) J H2 (EU.refl _) t0ok (λz=>⟨Λ,z⟩) V3
  have eT:bU (bj a.n a.ps (av O))=Txt.join newline (bD a.n a.ps (av O)):=by unfold bU;rw[LS]
  rw[eT]at same
  refine⟨_,_,Λ,Λ,_,Λ,iq (λ_=>⟨_,_,Λ,Λ,_,Λ,iq (λ_=>?_) λ_=>same⟩) λ_=>⟨_,Λ,aH same⟩⟩
  exact⟨sc,ns,_,Λ,EX.of (s2 _ _ I.gs),by decide,by decide,λd H3 s3 _=>⟨a.n,a.ps,O,d,Λ,S,I.p1,I.p7,I.n4,λX H4 s4 ok no=>fin X Ε H4 (s3.trans s4) ok (λz=>by cases z) (λ_ =>.tab no)⟩⟩
 rintro σ Hx ⟨sc,Ro,D,To,ns,a,O,G,M,DW,s,m,wd,X,I,hY,gD,Oe,MU,JF,Iv,hwc,Pr,Q7,hg,hb,rfl⟩
 obtain⟨hRB,h50⟩:=AB Q7 hwc Pr JF MU
 obtain⟨l0,l1,l2,eW,hR⟩:=hRB.text
 have hRT:=hRB.left Q7.ne
 have hRr:=hRB.right (by simp)
 refine⟨Λ,Λ,by show 1<=Τ;decide,λp1 F7=>?_⟩
 have s1:=(EU.refl Hx).new (o:=.π [V.str (υ "rooms")]) F7
 have g1:(ο Hx p1 (.π [V.str (υ "rooms")])) p1=Α (.π [V.str (υ "rooms")]):=ET
 generalize ο Hx p1 (.π [V.str (υ "rooms")])=H1 at s1 g1⊢
 refine⟨p1,To,_,_,Λ,Λ,g1,s1 _ _ Oe,by rw[Μ,Χ];show 1+_<=_;omega,λp2 HW=>?_⟩
 have Ip:=(EU.refl H1).new (o:=.π ([V.str (υ "rooms")]++m.map V.str)) HW
 have g2:(ο H1 p2 (.π ([V.str (υ "rooms")]++m.map V.str))) p2=Α (.π ((υ "rooms":: m).map V.str)):=ET
 generalize ο H1 p2 (.π ([V.str (υ "rooms")]++m.map V.str))=H2 at Ip g2⊢
 have rsum:∀{y:List Str},FL [y]->(y.map (·.length)).sum+y.length* blank.length<=16777216:=λ{y} h=>by
  obtain⟨_,a2,a3⟩:=h.rows y (by simp)
  have b2:(y.map (·.length)).sum<=y.length* 90:=Ð _ λu hu=>(a3 u hu).1
  have b3:y.length* blank.length=y.length:=Ţ _
  omega
 refine⟨blank,p2,υ "rooms":: m,Λ,Λ,EX.of g2,rsum (FL.left (B:=DW) (A:=[υ "rooms":: m]) hRr (by simp)),by show 2<=Τ;decide,λp3 ID=>?_⟩
 have JQ:=(EU.refl H2).new (o:=.π [V.str (bU X),V.str (Txt.join blank (υ "rooms":: m))]) ID
 have g3:(ο H2 p3 (.π [V.str (bU X),V.str (Txt.join blank (υ "rooms":: m))])) p3=Α (.π [V.str (bU X),V.str (Txt.join blank (υ "rooms":: m))]):=ET
 generalize ο H2 p3 (.π [V.str (bU X),V.str (Txt.join blank (υ "rooms":: m))])=H3 at JQ g3⊢
 have TZ:=s1.trans (Ip.trans JQ)
 refine⟨p3,D,_,_,Λ,Λ,g3,TZ _ _ gD,by rw[Μ,Χ];show 2+_<=_;omega,λp4 LZ=>?_⟩
 have Iq:=(EU.refl H3).new (o:=.π ([V.str (bU X),V.str (Txt.join blank (υ "rooms":: m))]++DW.map bN)) LZ
 have g4:(ο H3 p4 (.π ([V.str (bU X),V.str (Txt.join blank (υ "rooms":: m))]++DW.map bN))) p4=Α (.π ((bU X:: ((υ "rooms":: m):: DW).map (Txt.join blank)).map V.str)):=by
  rw[ET,ϳ,ϳ,ϳ,Á];rfl
 generalize ο H3 p4 (.π ([V.str (bU X),V.str (Txt.join blank (υ "rooms":: m))]++DW.map bN))=H4 at Iq g4⊢
 have IH:=TZ.trans Iq
 refine⟨newline,p4,bU X:: ((υ "rooms":: m):: DW).map (Txt.join blank),Λ,Λ,EX.of g4,?_,?_⟩
 ·have z1:=hRT.text.1
  have z2:=hRr.sum
  have z3:newline.length=1:=rfl
  rw[ϳ,Ł,Ϛ]
  rw[z3]at z2⊢
  omega
 rw[wo Q7.ne]
 have YW:=hY.same W IH
 have S:=I.tb
 have Hz:∀pr∈a.ps,∃x y:Nat,pr=((x:Int),(y:Int))/\x<12/\y<12:=λpr FZ=>cf S.G0.2 (S.HZ pr FZ)
 have OZ:Ag a.n a.ps a.wy (av O):=by rw[I.wy];exact m9 O
 have P6:=mI (bT S.fit) S.F3
 have LS:=iW (bT S.fit)
 have Um:∀r∈G,1<=r/\r<=60:=λr Z=>by have:=I.rr r Z;omega
 have hRm:∀y∈X,ir y=Ε:=λy hy=>(Q7.rows y hy).2.2.2
 have LQ:M=Ε->∀i n ps FP Fl ds s,JR (dA (bU (X++(υ "rooms":: m):: DW))) i n ps FP Fl ds s->yT n ps (av FP) s≠bU (X++(υ "rooms":: m):: DW):=λz=>DF S I.wy I.J0 hRm Um eW (by rw[eW];exact hR) (by rw[eW];exact h50) (hb z)
 have HB:M=Δ->∃ds,GO a.n a.ps O G ds s/\X++(υ "rooms":: m):: DW=yW a.n a.ps (av O) G ds:=λz=>by
  obtain⟨e1,e2,ds,t,Mb,e3⟩:=hg z
  refine⟨ds,⟨S.G0,S.F3,S.HZ,S.fit,I.rl,Um,⟨a,Λ,I.wy,Λ,t⟩,by omega⟩,?_⟩
  rw[e1,e2,e3]
  unfold yW nJ
  rw[Ù]
  rfl
 generalize hx:bU (X++(υ "rooms":: m):: DW)=x at*
 have LU:∀{p5:Ν}{H5:Hp}{R:VK},H5 p5=Α (.tup [iX,.Fp])->(∀H6,R (.bl Δ) H6)->(2<=Τ/\∀p6,H5 p6=Β->Bo K (.ref p5) (.ref p6) (ο H5 p6 (.tup [iX,.Fp])) R):=λ{p5 H5 R} g5 h=>by
  refine⟨by show 2<=Τ;decide,λp6 hp6=>?_⟩
  have s6:=(EU.refl H5).new (o:=.tup [iX,.Fp]) hp6
  exact eqS (d:=tD (υ "refused") [Β]) (vQ (s6 _ _ g5)) (vQ ET) ((yl _ (by decide:Wc (υ "refused") 90).no.2).le (by decide)) (h _)
 refine(.mk x [] Λ l0 l1 l2 (by rw[eW];exact hR) (by rw[eW];exact h50) (λb hb=>by cases hb) (λGu p H5 s5 gp=>?_) λi n ps FP Fl JJ s' hM he a' p H5 e1 e2 e3 s5 JP hJ' gp=>?_)
 ·cases M with
  | true =>
   obtain⟨ds,hP,eY⟩:=HB Λ
   exact Κ (by rw[AN S.fit,AM hP,←eY];exact hx) (Gu _ _ _ _ _ _ _ (by rw[eW,eY];exact CH hP))
  | false =>
   refine⟨p,_,Λ,Fn.of gp,Λ,_,_,Λ,_,_,Λ,Λ,?_⟩
   refine⟨_,Λ,aI ?_⟩
   refine⟨Λ,_,Λ,?_⟩
   rw[Ζ (show iX=V.str (υ "refused") from Λ)]
   refine aI ⟨by show 1<=Τ;decide,λq1 Vy=>?_⟩
   have g6:(ο H5 q1 (.π [V.str x])) q1=Α (.π [V.str x]):=ET
   generalize ο H5 q1 (.π [V.str x])=H6 at g6⊢
   refine⟨by show 4<=Τ;decide,λq2 V2=>?_⟩
   have LN:=(EU.refl H6).new (o:=.π [V.Fp,V.int 5,V.ref q1,V.str (υ "")]) V2
   have g7:(ο H6 q2 (.π [V.Fp,V.int 5,V.ref q1,V.str (υ "")])) q2=Α (.π [V.Fp,V.int 5,V.ref q1,V.str (υ "")]):=ET
   generalize ο H6 q2 (.π [V.Fp,V.int 5,V.ref q1,V.str (υ "")])=H7 at LN g7⊢
   have h4:wd% 4=0∨wd% 4=1∨wd% 4=2∨wd% 4=3:=by omega
   rcases h4 with e|e|e|e
   ·exact⟨_,_,Λ,Λ,(by show (0:Int)<4;decide),q2,_,_,.Fp,Λ,Λ,EX.of g7,(by rw[e];exact aj (j:=0) Λ),.no _ _ Λ .Fp kN λp5 H8 s8 g8=>LU g8 λ_=>q _⟩
   ·exact⟨_,_,Λ,Λ,(by show (0:Int)<4;decide),q2,_,_,.int 5,Λ,Λ,EX.of g7,(by rw[e];exact aj (j:=1) Λ),.no _ _ Λ (.int 5) kI λp5 H8 s8 g8=>LU g8 λ_=>q _⟩
   ·exact⟨_,_,Λ,Λ,(by show (0:Int)<4;decide),q2,_,_,.ref q1,Λ,Λ,EX.of g7,(by rw[e];exact aj (j:=2) Λ),.no _ _ Λ (.π (LN _ _ g6)) kL λp5 H8 s8 g8=>LU g8 λ_=>q _⟩
   ·have e0:bU [[(⟨#[]⟩:Str)]]=υ "":=by decide
    obtain⟨m0,m1,m2,mW,mR⟩:=Ki.text
    rw[e0]at m0 m1 m2 mW
    have UJ:∀i,¬At (dA (υ "")) i:=by rw[mW];exact CF (by decide)
    exact⟨_,_,Λ,Λ,(by show (0:Int)<4;decide),q2,_,_,.str (υ ""),Λ,Λ,EX.of g7,(by rw[e];exact aj (j:=3) Λ),.mk (υ "") [] Λ m0 m1 m2 (by rw[mW];exact mR) (λi hi=>Κ hi (UJ i)) (λb hb=>by cases hb) (λ_ p5 H8 s8 g8=>LU g8 λ_=>q _) λi n ps O Fl ds s hM=>Κ hM.at_ (UJ i)⟩
 ·cases M with
  |false=>exact Κ he (LQ Λ i n ps FP Fl JJ s' hM)
  | true =>
   refine⟨p,_,Λ,Fn.of gp,Λ,_,_,Λ,_,_,Λ,Λ,?_⟩
   obtain⟨ds,hP,eY⟩:=HB Λ
   have hM0:=CH hP
   rw[←eY,←eW]at hM0
   obtain⟨f1,f2,f3,f4⟩:=hM.det hM0
   have Pm:a'.wy=a.wy:=by rw[e2,f3,lK S.fit,I.wy]
   have Q3:a'.ps=a.ps:=by rw[e1,f2]
   have en:a'.n=a.n:=by rw[e3,f1]
   have emv:bQ a' s=bQ a s:=wV Q3 Pm s
   have Wk:yT a'.n a'.ps (av FP) s=x:=by rw[e3,e1,←f4];exact he
   have UK:xB a.n a.ps FP:=by rw[f3];exact qI (bT S.fit)
   rw[f4]at JP
   have Mg:=YW.same W s5
   refine⟨_,Λ,aH ?_⟩
   refine⟨Λ,_,Λ,?_⟩
   rw[Ζ (show V.str (υ "yard")=V.str (υ "yard") from Λ)]
   refine aH ⟨a'.y,a'.dy,_,Λ,JP.Y.ρ,Λ,a'.y,a'.dy,a'.tb,a'.ro,a'.la,a'.le,a'.li,a'.dn,s,Λ,JP.Y,λt1 vs1 H6 s6 Qi gt1 pt1=>?_⟩
   refine⟨a.y,a.dy,_,Λ,(Mg.same W s6).Y.ρ,Λ,a.y,a.dy,a.tb,a.ro,a.la,a.le,a.li,a.dn,s,Λ,(Mg.same W s6).Y,λt2 L4 H7 s7 Kv gt2 pt2=>?_⟩
   rw[hP.done.1]at pt1 pt2
   refine neS (.π (EX.of (s7 _ _ gt1)) (qZ (Paired.mono (λ_ _ z=>Hl.keep (EU.Fw s7) z) pt1))) (.π (EX.of gt2) (qZ pt2)) (Dp ds) ⟨_,Λ,aH ?_⟩
   have Oa:=s6.trans s7
   refine⟨a'.y,a'.dy,_,Λ,(JP.same W Oa).Y.ρ,Λ,a',s,Λ,JP.same W Oa,λM1 mvs1 H8 s8 hM1 gM1 pM1=>?_⟩
   have s58:=Oa.trans s8
   refine⟨a.y,a.dy,_,Λ,(Mg.same W s58).Y.ρ,Λ,a,s,Λ,Mg.same W s58,λM2 mvs2 H9 s9 hM2 gM2 pM2=>?_⟩
   rw[emv]at pM1
   refine neS (.π (EX.of (s9 _ _ gM1)) (k7 (Paired.mono (λ_ _ z=>Hl.keep (EU.Fw s9) z) pM1))) (.π (EX.of gM2) (k7 pM2)) (vq _) ⟨_,Λ,aH ?_⟩
   have s59:=s58.trans s9
   have hY'9:=JP.same W s59
   have Q6:=Mg.same W s59
   refine⟨a',s,av FP,Λ,hY'9,(by rw[e2];exact m9 FP),mI (bT UK) S.F3,(by rw[Q3,en];exact S.HZ),hP.rds,λKo Kn=>⟨Λ,_,Λ,?_⟩⟩
   rw[Ζ (congrArg V.str Wk)]
   refine aI ⟨a.tb,a.lx,a.F1,a.lt,a.n,a.Fo,a.ps,a.wy,av O,Λ,(Q6.same W Kn).T,OZ,Hz,P6,λUL s11=>?_⟩
   obtain⟨m0,m1,m2,mW,mR⟩:=hRT.text
   have eT:bU X=Txt.join newline (bD a.n a.ps (av O)):=by rw[(hg Λ).1];unfold bU;rw[LS]
   rw[eT]at m0 m1 m2 mW
   have UJ:∀i,¬At (dA (Txt.join newline (bD a.n a.ps (av O)))) i:=by rw[mW];exact CF hRm
   exact .mk (Txt.join newline (bD a.n a.ps (av O))) [] Λ m0 m1 m2 (by rw[mW];exact mR) (λi hi=>Κ hi (UJ i)) (λb hb=>by cases hb) (λ_ p5 H8 s8 g8=>LU g8 λ_=>q _) λi n ps O Fl ds s hM=>Κ hM.at_ (UJ i)
theorem vc{kV doc pm cdv ct:Ο}(e:K.lookup T=Α o)(f:o.data=.seq #[Û] n):
  Binds K (xi "__init__" "Yard.__init__" (cp kO) (aJ kO) (ag kO) (.ref T) kV doc pm an cdv ct) ["self","table","rooms"] []:=λs us g d=>by
 have d:us.length=3:=by rw[ķ]at d;exact d
 obtain⟨a,h,rfl,i⟩:=L2.Np d
 obtain⟨b,m,rfl,j⟩:=L2.Np i
 obtain⟨c,p,rfl,l⟩:=L2.Np j
 obtain rfl:=E1 l
 exact OK Λ (g _ _ e) f Λ Λ
theorem tj{kV doc pm cdv ct:Ο}(g:K.lookup T=Α o)(h:o.data=.seq #[Ŭ 0 tk] n):
  Binds K (xi "post" "Yard.post" (cp jN) (aJ jN) (ag jN) (.ref T) kV doc pm an cdv ct) EN []:=λs us i f=>by
 have f:us.length=5:=by rw[ķ]at f;exact f
 obtain⟨a,j,rfl,l⟩:=L2.Np f
 obtain⟨b,v,rfl,m⟩:=L2.Np l
 obtain⟨c,x,rfl,p⟩:=L2.Np m
 obtain⟨d,q,rfl,r⟩:=L2.Np p
 obtain⟨e,t,rfl,u⟩:=L2.Np r
 obtain rfl:=E1 u
 exact OK Λ (i _ _ g) h Λ Λ
theorem len_of1{b:Type}{P:List b->Prop}(h:∀a,P [a]):∀us:List b,us.length=1->P us
 |[a],_=>h a
theorem len_of2{c:Type}{P:List c->Prop}(h:∀a b,P [a,b]):∀us:List c,us.length=2->P us
 |[a,b],_=>h a b
theorem len_of3{d:Type}{P:List d->Prop}(h:∀a b c,P [a,b,c]):∀us:List d,us.length=3->P us
 |[a,b,c],_=>h a b c
theorem len_of4{e:Type}{P:List e->Prop}(h:∀a b c d,P [a,b,c,d]):∀us:List e,us.length=4->P us
 |[a,b,c,d],_=>h a b c d
theorem len_of5{f:Type}{P:List f->Prop}(h:∀a b c d e,P [a,b,c,d,e]):∀us:List f,us.length=5->P us
 |[a,b,c,d,e],_=>h a b c d e
structure FT(K:Ϣ)(mg:Str->Option Ο)(n:Str)(st:Ã)(ps:List Str)(f:Ν)(fd:ë):Prop where
 F:F0 K n n st f fd
 m:mg n=Α (.ref f)
 k:Ϩ K (.ref f)=Δ
 b:Binds K fd ps []
structure FM(K:Ϣ)(C:Ν)(n q:Str)(st:Ã)(ps:List Str)(f:Ν)(fd:ë):Prop where
 F:F0 K n q st f fd
 m:ck K C n f
 b:Binds K fd ps []
section
variable {K:Ϣ}{mg:Str->Option Ο}{C f:Ν}{n q:Str}{st:Ã}{ps:List Str}{h:ò}{oc:Ο}{od an:Option Ν}{JM:Array (Option Ο)}{kV doc pm cdv ct:Ο}
theorem mkT(X:K.In h)(G:h.Ns Ϡ mg)(b:∀(kV doc pm:Ο) (an:Option Ν) (cdv ct:Ο) (us:List Ο),us.length=ps.length->XF (xi n n (cp st) (aJ st) (ag st) .none kV doc pm an cdv ct) ⟨us,[]⟩=pure (ps.zip us))
  (a:Ĩ K Ϡ n=Α (Α (.ref f))) (l:K.lookup f=Α ⟨oc,od,.func (xi n n (cp st) (aJ st) (ag st) .none kV doc pm an cdv ct),JM⟩) (c:x4 K cdv n=Δ) (k:Ϩ K (.ref f)=Δ):∃d,FT K mg n st ps f d:=
 ⟨_,oC l c k,Ĉ X G a,k,(oC l c k).binds b⟩
theorem mkM(b:∀(kV doc pm:Ο) (an:Option Ν) (cdv ct:Ο) (us:List Ο),us.length=ps.length->XF (xi n q (cp st) (aJ st) (ag st) .none kV doc pm an cdv ct) ⟨us,[]⟩=pure (ps.zip us))
  (a:ϯ K (.ref C) n=Α (Α (.ref f))) (l:K.lookup f=Α ⟨oc,od,.func (xi n q (cp st) (aJ st) (ag st) .none kV doc pm an cdv ct),JM⟩) (c:x4 K cdv q=Δ) (k:Ϩ K (.ref f)=Δ) (i:isFn K (.ref f)=Δ):∃d,FM K C n q st ps f d:=
 ⟨_,oC l c k,⟨a,i,k⟩,(oC l c k).binds b⟩
end
section
variable {l:PySem.W.OpenLaw}{w:À}{K:Ϣ}{h:ò}{mg:Str->Option Ο}{fa cL cB cD cA cH cJ cY cP cR cE cM cQ cG cW cZ cV cX f1 f2 f3 f4 f5 f6 f7 f8 f9 f10 Vx f12 f13 f14 f15 f16 f17 f18 f19 f20 f21 f22 f23 f24 f25 f26 f27 f28 f29 f30 f31 f32 f33 f34 f35 f36 f37 f38 WA f40 f41 f42 f43 f44 f45 WB WC f48 f49 f50 f51 f52 f53 f54 f55 f56 f57 P7 Q9 f60 f61 f62 f63 f64 f65 f66 f67 f68 f69 f70 f71 f72 f73:Ν}{t1 t2 t3 t4 t5 t6 t7:Tok}
theorem all_mk(X:K.In h)(G:h.Ns Ϡ mg)(hfa:mg "law"=Α (.ref fa))
  
   
  (gcL:Ĩ K Ϡ "Land"=Α (Α (.ref cL)))
  (gcB:Ĩ K Ϡ "Table"=Α (Α (.ref cB)))
  (gcD:Ĩ K Ϡ "Told"=Α (Α (.ref cD)))
  (gcA:Ĩ K Ϡ "Lane"=Α (Α (.ref cA)))
  (gcH:Ĩ K Ϡ "Letter"=Α (Α (.ref cH)))
  (gcJ:Ĩ K Ϡ "Yard"=Α (Α (.ref cJ)))
  (gcY:Ĩ K Ϡ "YardError"=Α (Α (.ref cY)))
  (gcP:Ĩ K Ϡ "NoPlaces"=Α (Α (.ref cP)))
  (gcR:Ĩ K Ϡ "NoRoad"=Α (Α (.ref cR)))
  (gcE:Ĩ K Ϡ "NoEntry"=Α (Α (.ref cE)))
  (gcM:Ĩ K Ϡ "NoRooms"=Α (Α (.ref cM)))
  (gcQ:Ĩ K Ϡ "NoPlace"=Α (Α (.ref cQ)))
  (gcG:Ĩ K Ϡ "NoLength"=Α (Α (.ref cG)))
  (gcW:Ĩ K Ϡ "NoWord"=Α (Α (.ref cW)))
  (gcZ:Ĩ K Ϡ "NoWay"=Α (Α (.ref cZ)))
  (gcV:Ĩ K Ϡ "NoMove"=Α (Α (.ref cV)))
  (gcX:Ĩ K Ϡ "NoText"=Α (Α (.ref cX)))
  (h1:∃d,FT K mg "has" Bh ["some","number"] f1 d)
  (h2:∃d,FT K mg "members" y9 ["some"] f2 d)
  (h3:∃d,FT K mg "set_of" D4 ["numbers"] f3 d)
  (h4:∃d,FT K mg "is_whole" n0 ["value"] f4 d)
  (h5:∃d,FT K mg "is_within" qC ["value","least","most"] f5 d)
  (h6:∃d,FT K mg "is_one_of" D6 ["value","numbers"] f6 d)
  (h7:∃d,FT K mg "are_two_places" Dz ["places","one","other"] f7 d)
  (h8:∃d,FT K mg "row_fits" rS ["land","row"] f8 d)
  (h9:∃d,FT K mg "onward" Y4 ["table","lane","goal"] f9 d)
  (h10:∃d,FT K mg "rooms_of" jy ["land","rooms"] f10 d)
  (h11:∃d,FT K mg "is_word" yq ["word"] Vx d)
  (h12:∃d,FT K mg "is_move" rP ["move"] f12 d)
  (h13:∃d,FT K mg "words_of" uq ["row"] f13 d)
  (h14:∃d,FT K mg "number_of" jO ["word"] f14 d)
  (h15:∃d,FT K mg "signed_of" qD ["word"] f15 d)
  (h16:∃d,FT K mg "written" nv ["thing"] f16 d)
  (h17:∃d,FT K mg "row_of" nA ["things"] f17 d)
  (h18:∃d,FT K mg "way_rows" n8 ["table","place","goal"] f18 d)
  (h19:∃d,FT K mg "table_rows" i5 ["table"] f19 d)
  (h20:∃d,FT K mg "table_text" n9 ["table"] f20 d)
  (h21:∃d,FT K mg "yard_text" nu ["yard"] f21 d)
  (h22:∃d,FT K mg "rows_of" jM ["text"] f22 d)
  (h23:∃d,FT K mg "read_way" i6 ["words"] f23 d)
  (h24:∃d,FT K mg "make_table" i7 ["rows"] f24 d)
  (h25:∃d,FT K mg "do_deed" rV ["yard","words"] f25 d)
  (h26:∃d,FT K mg "rooms_at" nD ["rows"] f26 d)
  (h27:∃d,FT K mg "make_yard" jP ["rows"] f27 d)
  (h28:∃d,FT K mg "read_yard" kP ["text"] f28 d)
  (h29:∃d,FT K mg "_law_draw" yG ["_law_script","_law_k"] f29 d)
  (h30:∃d,FT K mg "_law_table" nG ["_law_script"] f30 d)
  (h31:∃d,FT K mg "_law_good" yE ["_law_yard","_law_table_here","_law_draw_here"] f31 d)
  (h32:∃d,FT K mg "_law_spoiled" ut ["_law_deed","_law_draw_here"] f32 d)
  (h33:∃d,FT K mg "_law_number" rO ["_law_word"] f33 d)
  (h34:∃d,FT K mg "_law_done" rT ["_law_yard","_law_row"] f34 d)
  (h35:∃d,FT K mg "_law_rows" rL ["_law_script","_law_table_here","_law_yard"] f35 d)
  (h36:∃d,FT K mg "_law_table_spoiled" jL ["_law_text","_law_draw_here"] f36 d)
  (h37:∃d,FT K mg "_law_read" uw ["_law_thing"] f37 d)
  (a38:Ĩ K Ϡ "law"=Α (Α (.ref f38)))
  (l38:K.lookup f38=Α ⟨oc38,od38,.func (xi "law" "law" (cp kQ) (aJ kQ) (ag kQ) .none UP UQ UR UM P8 US),sl38⟩)
  (c38:x4 K P8 "law"=Δ)
  (k38:Ϩ K (.ref f38)=Δ)
  (h39:∃d,FM K cL "__init__" "Land.__init__" rR ["self","places","lanes"] WA d)
  (h40:∃d,FM K cL "end_of" "Land.end_of" DD ["self","lane"] f40 d)
  (h41:∃d,FM K cL "out_of" "Land.out_of" yz ["self","place"] f41 d)
  (h42:∃d,FM K cL "into" "Land.into" rQ ["self","place"] f42 d)
  (h43:∃d,FM K cR "__init__" "NoRoad.__init__" RI ["self","lane"] f43 d)
  (h44:∃d,FM K cE "__init__" "NoEntry.__init__" RJ ["self","row"] f44 d)
  (h45:∃d,FM K cZ "__init__" "NoWay.__init__" V9 ["self","start","goal"] f45 d)
  (h46:∃d,FM K cB "__init__" "Table.__init__" D3 ["self","land"] WB d)
  (h47:∃d,FM K cD "__init__" "Told.__init__" yr ["self","land","rows"] WC d)
  (h48:∃d,FM K cD "ways" "Told.ways" ur ["self","place","goal","came"] f48 d)
  (h49:∃d,FM K cA "__init__" "Lane.__init__" D8 ["self","room"] f49 d)
  (h50:∃d,FM K cA "open_to" "Lane.open_to" y4 ["self","letter","count"] f50 d)
  (h51:∃d,FM K cA "put" "Lane.put" D5 ["self","letter","count","last"] f51 d)
  (h52:∃d,FM K cA "front" "Lane.front" ux ["self"] f52 d)
  (h53:∃d,FM K cA "pull" "Lane.pull" yt ["self"] f53 d)
  (h54:∃d,FM K cA "bring" "Lane.bring" uz ["self"] f54 d)
  (h55:∃d,FM K cA "twin" "Lane.twin" D7 ["self"] f55 d)
  (h56:∃d,FM K cH "__init__" "Letter.__init__" yC ["self","start","goal","length","word"] f56 d)
  (h57:∃d,FM K cH "twin" "Letter.twin" yB ["self"] f57 d)
  (a58:ϯ K (.ref cJ) "__init__"=Α (Α (.ref P7)))
  (l58:K.lookup P7=Α ⟨oc58,od58,.func (xi "__init__" "Yard.__init__" (cp kO) (aJ kO) (ag kO) (.ref Vc) UT UU UW UN P9 UX),sl58⟩)
  (d58:K.lookup Vc=Α ⟨tO58,tD58,.seq #[Û] tN58,tS58⟩)
  (c58:x4 K P9 "Yard.__init__"=Δ)
  (k58:Ϩ K (.ref P7)=Δ)
  (i58:isFn K (.ref P7)=Δ)
  (a59:ϯ K (.ref cJ) "post"=Α (Α (.ref Q9)))
  (l59:K.lookup Q9=Α ⟨oc59,od59,.func (xi "post" "Yard.post" (cp jN) (aJ jN) (ag jN) (.ref Vd) UY UZ Va UO PB Vb),sl59⟩)
  (d59:K.lookup Vd=Α ⟨tO59,tD59,.seq #[Ŭ 0 tk59] tN59,tS59⟩)
  (c59:x4 K PB "Yard.post"=Δ)
  (k59:Ϩ K (.ref Q9)=Δ)
  (i59:isFn K (.ref Q9)=Δ)
  (h60:∃d,FM K cJ "moves" "Yard.moves" uv ["self"] f60 d)
  (h61:∃d,FM K cJ "moves_in" "Yard.moves_in" rN ["self","number"] f61 d)
  (h62:∃d,FM K cJ "moves_on" "Yard.moves_on" rM ["self","lane"] f62 d)
  (h63:∃d,FM K cJ "moves_lie" "Yard.moves_lie" uu ["self","lane"] f63 d)
  (h64:∃d,FM K cJ "moves_back" "Yard.moves_back" qF ["self","lane"] f64 d)
  (h65:∃d,FM K cJ "wanted" "Yard.wanted" jK ["self","lane"] f65 d)
  (h66:∃d,FM K cJ "moves_like" "Yard.moves_like" yA ["self","move"] f66 d)
  (h67:∃d,FM K cJ "do" "Yard.do" Y5 ["self","move"] f67 d)
  (h68:∃d,FM K cJ "go_in" "Yard.go_in" yF ["self","number","lane"] f68 d)
  (h69:∃d,FM K cJ "enter" "Yard.enter" uy ["self","piece","lane"] f69 d)
  (h70:∃d,FM K cJ "lay" "Yard.lay" DA ["self","piece","place"] f70 d)
  (h71:∃d,FM K cJ "own_lane" "Yard.own_lane" yw ["self","lane"] f71 d)
  (h72:∃d,FM K cJ "own_letter" "Yard.own_letter" yu ["self","number"] f72 d)
  (h73:∃d,FM K cJ "history" "Yard.history" yD ["self"] f73 d)
  (mp:Ĩ K Ϡ "MOST_PLACES"=Α (Α (.int 12 t1)))
  (ml:Ĩ K Ϡ "MOST_LANES"=Α (Α (.int 40 t2)))
  (mr:Ĩ K Ϡ "MOST_ROOM"=Α (Α (.int 60 t3)))
  (mh:Ĩ K Ϡ "MOST_LENGTH"=Α (Α (.int 60 t4)))
  (mk:Ĩ K Ϡ "MOST_LETTERS"=Α (Α (.int 60 t5)))
  (mq:Ĩ K Ϡ "MOST_FIGURES"=Α (Α (.int 60 t6)))
  (p1cL:ś K cL ű=Δ)
  (p2cL:ė K cL=Δ)
  (p3cL:ť K cL=Δ)
  (p4cL:ϯ K (.ref cL) "__setattr__"=Α (Α (.builtin "object.__setattr__")))
  (p5cL:rk K cL=Δ)
  (p6cL:Ϩ K (.ref cL)=Δ)
  (p:ϯ K (.ref cL) "places"=Α Β)
  (y:ϯ K (.ref cL) "lanes"=Α Β)
  (p1cB:ś K cB ű=Δ)
  (p2cB:ė K cB=Δ)
  (p3cB:ť K cB=Δ)
  (p4cB:ϯ K (.ref cB) "__setattr__"=Α (Α (.builtin "object.__setattr__")))
  (p5cB:rk K cB=Δ)
  (p6cB:Ϩ K (.ref cB)=Δ)
  (N:ϯ K (.ref cB) "land"=Α Β)
  (p1cD:ś K cD ű=Δ)
  (p2cD:ė K cD=Δ)
  (p3cD:ť K cD=Δ)
  (p4cD:ϯ K (.ref cD) "__setattr__"=Α (Α (.builtin "object.__setattr__")))
  (p5cD:rk K cD=Δ)
  (p6cD:Ϩ K (.ref cD)=Δ)
  (g:ϯ K (.ref cD) "land"=Α Β)
  (i:ϯ K (.ref cD) "entries"=Α Β)
  (p1cA:ś K cA ű=Δ)
  (p2cA:ė K cA=Δ)
  (p3cA:ť K cA=Δ)
  (p4cA:ϯ K (.ref cA) "__setattr__"=Α (Α (.builtin "object.__setattr__")))
  (p5cA:rk K cA=Δ)
  (p6cA:Ϩ K (.ref cA)=Δ)
  (q:ϯ K (.ref cA) "rights"=Α Β)
  (a:ϯ K (.ref cA) "returning"=Α Β)
  (r:ϯ K (.ref cA) "holder"=Α Β)
  (t:ϯ K (.ref cA) "pieces"=Α Β)
  (p1cH:ś K cH ű=Δ)
  (p2cH:ė K cH=Δ)
  (p3cH:ť K cH=Δ)
  (p4cH:ϯ K (.ref cH) "__setattr__"=Α (Α (.builtin "object.__setattr__")))
  (p5cH:rk K cH=Δ)
  (p6cH:Ϩ K (.ref cH)=Δ)
  (z:ϯ K (.ref cH) "start"=Α Β)
  (Q:ϯ K (.ref cH) "goal"=Α Β)
  (u:ϯ K (.ref cH) "length"=Α Β)
  (R:ϯ K (.ref cH) "word"=Α Β)
  (S:ϯ K (.ref cH) "gone"=Α Β)
  (ncHway:ϯ K (.ref cH) "way"=Α Β)
  (p1cJ:ś K cJ ű=Δ)
  (p2cJ:ė K cJ=Δ)
  (p3cJ:ť K cJ=Δ)
  (p4cJ:ϯ K (.ref cJ) "__setattr__"=Α (Α (.builtin "object.__setattr__")))
  (p5cJ:rk K cJ=Δ)
  (p6cJ:Ϩ K (.ref cJ)=Δ)
  (A:ϯ K (.ref cJ) "table"=Α Β)
  (C:ϯ K (.ref cJ) "rooms"=Α Β)
  (D:ϯ K (.ref cJ) "lanes"=Α Β)
  (j:ϯ K (.ref cJ) "letters"=Α Β)
  (U:ϯ K (.ref cJ) "lies"=Α Β)
  (ncJdone:ϯ K (.ref cJ) "done"=Α Β)
  (x1cP:cn K cP Β=Δ)
  (x2cP:Ϩ K (.ref cP)=Δ)
  (x1cR:cn K cR (Α (.ref f43))=Δ)
  (x2cR:Ϩ K (.ref cR)=Δ)
  (x3cR:lw K cR=Δ)
  (x4cR:ė K cR=Δ)
  (x5cR:ϯ K (.ref cR) "__setattr__"=Α (Α (.builtin "object.__setattr__")))
  (x6cR:ϯ K (.ref cR) "__getattribute__"=Α (Α (.builtin "BaseException.__getattribute__")))
  (x7cR:ϯ K (.ref cR) "__getattr__"=Α Β)
  (ncRlane:ϯ K (.ref cR) "lane"=Α Β)
  (x1cE:cn K cE (Α (.ref f44))=Δ)
  (x2cE:Ϩ K (.ref cE)=Δ)
  (x3cE:lw K cE=Δ)
  (x4cE:ė K cE=Δ)
  (x5cE:ϯ K (.ref cE) "__setattr__"=Α (Α (.builtin "object.__setattr__")))
  (x6cE:ϯ K (.ref cE) "__getattribute__"=Α (Α (.builtin "BaseException.__getattribute__")))
  (x7cE:ϯ K (.ref cE) "__getattr__"=Α Β)
  (ncErow:ϯ K (.ref cE) "row"=Α Β)
  (x1cM:cn K cM Β=Δ)
  (x2cM:Ϩ K (.ref cM)=Δ)
  (x1cQ:cn K cQ Β=Δ)
  (x2cQ:Ϩ K (.ref cQ)=Δ)
  (x1cG:cn K cG Β=Δ)
  (x2cG:Ϩ K (.ref cG)=Δ)
  (x1cW:cn K cW Β=Δ)
  (x2cW:Ϩ K (.ref cW)=Δ)
  (x1cZ:cn K cZ (Α (.ref f45))=Δ)
  (x2cZ:Ϩ K (.ref cZ)=Δ)
  (x3cZ:lw K cZ=Δ)
  (x4cZ:ė K cZ=Δ)
  (x5cZ:ϯ K (.ref cZ) "__setattr__"=Α (Α (.builtin "object.__setattr__")))
  (x6cZ:ϯ K (.ref cZ) "__getattribute__"=Α (Α (.builtin "BaseException.__getattribute__")))
  (x7cZ:ϯ K (.ref cZ) "__getattr__"=Α Β)
  (E:ϯ K (.ref cZ) "start"=Α Β)
  (ncZgoal:ϯ K (.ref cZ) "goal"=Α Β)
  (x1cV:cn K cV Β=Δ)
  (x2cV:Ϩ K (.ref cV)=Δ)
  (x1cX:cn K cX Β=Δ)
  (x2cX:Ϩ K (.ref cX)=Δ)
  (x3cX:lw K cX=Δ)
  (x4cX:ė K cX=Δ)
  (x5cX:ϯ K (.ref cX) "__setattr__"=Α (Α (.builtin "object.__setattr__")))
  (x6cX:ϯ K (.ref cX) "__getattribute__"=Α (Α (.builtin "BaseException.__getattribute__")))
  (x7cX:ϯ K (.ref cX) "__getattr__"=Α Β)
  (mf:Ĩ K Ϡ "FIGURES"=Α (Α (.str (υ "0123456789") t7)))
  (w1cB:PySem.W.readsIn K cB (.type "type")=Δ)
  (w2cB:PySem.W.findCls K (.ref cB) (.type "type") "__init__"=Α (.val (.ref WB)))
  (w3cB:PySem.W.specialIn K (.ref cB) "__getattribute__"=Α (Α (.builtin "type.__getattribute__")))
  (kk1:ü K (.type "int") (.type "int")=Α Δ)
  (kk2:ü K (.type "int") (.type "bool")=Α Ε)
  (kk3:ü K (.type "bool") (.type "int")=Α Δ)
  (kk4:ü K (.type "bool") (.type "bool")=Α Δ)
  (kk5:ü K (.type "NoneType") (.type "int")=Α Ε)
  (kk6:ü K (.type "str") (.type "str")=Α Δ)
  (kk7:ü K (.type "int") (.type "str")=Α Ε)
  (kk8:ü K (.type "NoneType") (.type "str")=Α Ε)
  (kk9:ü K (.type "tuple") (.type "tuple")=Α Δ)
  (kk10:ü K (.type "list") (.type "str")=Α Ε)
  (ecP:PySem.W.exmOne K (.ref cP) (.ref cY)=Α Δ)
  (ecR:PySem.W.exmOne K (.ref cR) (.ref cY)=Α Δ)
  (ecE:PySem.W.exmOne K (.ref cE) (.ref cY)=Α Δ)
  (ecM:PySem.W.exmOne K (.ref cM) (.ref cY)=Α Δ)
  (ecQ:PySem.W.exmOne K (.ref cQ) (.ref cY)=Α Δ)
  (ecG:PySem.W.exmOne K (.ref cG) (.ref cY)=Α Δ)
  (ecW:PySem.W.exmOne K (.ref cW) (.ref cY)=Α Δ)
  (ecZ:PySem.W.exmOne K (.ref cZ) (.ref cY)=Α Δ)
  (ecV:PySem.W.exmOne K (.ref cV) (.ref cY)=Α Δ)
  (ecX:PySem.W.exmOne K (.ref cX) (.ref cY)=Α Δ)
  (y1:ϯ K (.ref cX) "__class__"=Α (Α (.builtin "object.__class__")))
  (y2:PySem.W.specialIn K (.builtin "object.__class__") "__get__"=Α (Α (.builtin "getset_descriptor.__get__")))
  (y3:PySem.W.takesIn K (.builtin "object.__class__")=Α Δ)
  (y5:ü K (.ref cX) (.ref cX)=Α Δ)
  (y6:PySem.W.kitAny K (.ref cX) [.ref cV,.ref cQ,.ref cM,.ref cZ]=Α Ε)
  (z0:Ĩ K Ϡ "isinstance"=Α Β)
  (z1:Ĩ K Ϡ "int"=Α Β)
  (z2:Ĩ K Ϡ "bool"=Α Β)
  (z3:Ĩ K Ϡ "len"=Α Β)
  (z4:Ĩ K Ϡ "enumerate"=Α Β)
  (z5:Ĩ K Ϡ "tuple"=Α Β)
  (z6:Ĩ K Ϡ "range"=Α Β)
  (z7:Ĩ K Ϡ "list"=Α Β)
  (z8:Ĩ K Ϡ "all"=Α Β)
  (z9:Ĩ K Ϡ "abs"=Α Β)
  (z10:Ĩ K Ϡ "str"=Α Β)
  (z11:Ĩ K Ϡ "min"=Α Β)
  :∃fd:ë,(∀(s:Ω)(v:Ο),OL s fd ⟨[v],[]⟩ [("_law_script",v)])/\∀μ:ò,K.In μ->μ.Ns Ϡ mg->EW l.prog w K mg μ aL 13 fa fd ["_law_script"] (vo K):=by
 have e:=hfa.symm.trans (Ĉ X G a38)
 cases e
 have T:Txt mg:=⟨Ğ X G z0,Ğ X G z1,Ğ X G z2,Ğ X G z3,Ğ X G z4,Ğ X G z5,Ğ X G z6,Ğ X G z7,Ğ X G z8,Ğ X G z9,Ğ X G z10,Ğ X G z11⟩
 obtain⟨d1,H1⟩:=h1
 obtain⟨d2,H2⟩:=h2
 obtain⟨d3,H3⟩:=h3
 obtain⟨d4,I⟩:=h4
 obtain⟨d5,o⟩:=h5
 obtain⟨d6,H6⟩:=h6
 obtain⟨d7,H7⟩:=h7
 obtain⟨d8,H8⟩:=h8
 obtain⟨d9,H9⟩:=h9
 obtain⟨d10,Ko⟩:=h10
 obtain⟨d11,UL⟩:=h11
 obtain⟨d12,WD⟩:=h12
 obtain⟨d13,WE⟩:=h13
 obtain⟨d14,J⟩:=h14
 obtain⟨d15,WG⟩:=h15
 obtain⟨d16,WH⟩:=h16
 obtain⟨d17,Mq⟩:=h17
 obtain⟨d18,WI⟩:=h18
 obtain⟨d19,PD⟩:=h19
 obtain⟨d20,WJ⟩:=h20
 obtain⟨d21,PF⟩:=h21
 obtain⟨d22,WK⟩:=h22
 obtain⟨d23,WM⟩:=h23
 obtain⟨d24,WN⟩:=h24
 obtain⟨d25,WO⟩:=h25
 obtain⟨d26,WQ⟩:=h26
 obtain⟨d27,WR⟩:=h27
 obtain⟨d28,WT⟩:=h28
 obtain⟨d29,Mr⟩:=h29
 obtain⟨d30,WU⟩:=h30
 obtain⟨d31,WV⟩:=h31
 obtain⟨d32,WW⟩:=h32
 obtain⟨d33,WX⟩:=h33
 obtain⟨d34,WY⟩:=h34
 obtain⟨d35,WZ⟩:=h35
 obtain⟨d36,Xa⟩:=h36
 obtain⟨d37,Xb⟩:=h37
 obtain⟨d39,Xd⟩:=h39
 obtain⟨d40,H40⟩:=h40
 obtain⟨d41,H41⟩:=h41
 obtain⟨d42,Ve⟩:=h42
 obtain⟨d43,H43⟩:=h43
 obtain⟨d44,H44⟩:=h44
 obtain⟨d45,H45⟩:=h45
 obtain⟨d46,H46⟩:=h46
 obtain⟨d47,Xe⟩:=h47
 obtain⟨d48,H48⟩:=h48
 obtain⟨d49,Vf⟩:=h49
 obtain⟨d50,PH⟩:=h50
 obtain⟨d51,H51⟩:=h51
 obtain⟨d52,PJ⟩:=h52
 obtain⟨d53,H53⟩:=h53
 obtain⟨d54,H54⟩:=h54
 obtain⟨d55,H55⟩:=h55
 obtain⟨d56,Vg⟩:=h56
 obtain⟨d57,H57⟩:=h57
 obtain⟨d60,Vh⟩:=h60
 obtain⟨d61,H61⟩:=h61
 obtain⟨d62,H62⟩:=h62
 obtain⟨d63,H63⟩:=h63
 obtain⟨d64,H64⟩:=h64
 obtain⟨d65,H65⟩:=h65
 obtain⟨d66,H66⟩:=h66
 obtain⟨d67,Vi⟩:=h67
 obtain⟨d68,H68⟩:=h68
 obtain⟨d69,Vj⟩:=h69
 obtain⟨d70,H70⟩:=h70
 obtain⟨d71,H71⟩:=h71
 obtain⟨d72,H72⟩:=h72
 obtain⟨d73,Vk⟩:=h73
 have F38:=oC (st:=kQ) l38 c38 k38
 have F58:KI K "__init__" "Yard.__init__" kO P7 _:=⟨⟨_,_,_,_,_,_,_,_,_,_,Λ,l58,c58⟩,k58⟩
 have F59:KI K "post" "Yard.post" jN Q9 _:=⟨⟨_,_,_,_,_,_,_,_,_,_,Λ,l59,c59⟩,k59⟩
 have L:tI K ⟨cL⟩:=⟨⟨p1cL,p2cL,p3cL,p4cL⟩,p,y⟩
 have xR:iu K cR:=⟨x3cR,x4cR,x5cR,x6cR,x7cR⟩
 have xE:iu K cE:=⟨x3cE,x4cE,x5cE,x6cE,x7cE⟩
 have xZ:iu K cZ:=⟨x3cZ,x4cZ,x5cZ,x6cZ,x7cZ⟩
 have xX:iu K cX:=⟨x3cX,x4cX,x5cX,x6cX,x7cX⟩
 have XP:tJ K mg cY "NoPlaces" cP:=⟨(Ĉ X G gcP),x1cP,x2cP,ecP⟩
 have XM:tJ K mg cY "NoRooms" cM:=⟨(Ĉ X G gcM),x1cM,x2cM,ecM⟩
 have XQ:tJ K mg cY "NoPlace" cQ:=⟨(Ĉ X G gcQ),x1cQ,x2cQ,ecQ⟩
 have XG:tJ K mg cY "NoLength" cG:=⟨(Ĉ X G gcG),x1cG,x2cG,ecG⟩
 have XW:tJ K mg cY "NoWord" cW:=⟨(Ĉ X G gcW),x1cW,x2cW,ecW⟩
 have XV:tJ K mg cY "NoMove" cV:=⟨(Ĉ X G gcV),x1cV,x2cV,ecV⟩
 have XX:tJ K mg cY "NoText" cX:=⟨(Ĉ X G gcX),x1cX,x2cX,ecX⟩
 have XR:VA K mg cY "NoRoad" "NoRoad.__init__" "lane" RI cR f43 _:=⟨(Ĉ X G gcR),x1cR,x2cR,ecR,xR,ncRlane,H43.m.fn,H43.F,H43.b⟩
 have XE:VA K mg cY "NoEntry" "NoEntry.__init__" "row" RJ cE f44 _:=⟨(Ĉ X G gcE),x1cE,x2cE,ecE,xE,ncErow,H44.m.fn,H44.F,H44.b⟩
 have XZ:ExW K mg cY cZ f45 _:=⟨(Ĉ X G gcZ),x1cZ,x2cZ,ecZ,xZ,E,ncZgoal,H45.m.fn,H45.F,H45.b⟩
 have RX:RdX K mg ⟨cY,cP,cR,cE,cM,cQ,cG,cW,cZ,cV,cX⟩:=⟨(Ĉ X G gcY),(Ĉ X G gcX),(Ĉ X G gcV),(Ĉ X G gcQ),(Ĉ X G gcM),(Ĉ X G gcZ),xX,⟨y1,y2,y3⟩,y5,y6,ecX⟩
 have Z:wj K:=⟨kk1,kk2,kk3,kk4,kk5⟩
 have ZS:Tj K:=⟨kk6,kk7,kk8,kk9⟩
 have B:YB K mg ⟨cB,cD⟩ WB _:=⟨⟨p1cB,p2cB,p3cB,p4cB⟩,N,⟨p1cD,p2cD,p3cD,p4cD⟩,g,i,(Ĉ X G gcB),⟨w1cB,w2cB,w3cB,H46.m.kp⟩,H46.b⟩
 have M:Sa K ⟨cL⟩ f41 f42 _ _:=⟨H41.m,Ve.m,H41.b,Ve.b⟩
 have ME:Cu K ⟨cL⟩ f40 _:=⟨H40.m,H40.b⟩
 have Y:∀ex:List Ν,mB K ⟨cJ,cA,cH,ex⟩:=λ_=>⟨⟨p1cJ,p2cJ,p3cJ,p4cJ⟩,A,C,D,j,U,ncJdone,⟨p1cH,p2cH,p3cH,p4cH⟩,z,Q,u,R,S,ncHway,⟨⟨p1cA,p2cA,p3cA,p4cA⟩,q,a,r,t⟩⟩
 have W4:=vc (kV:=UT) (doc:=UU) (pm:=UW) (cdv:=P9) (ct:=UX) (an:=UN) d58 Λ
 have bp0:=tj (kV:=UY) (doc:=UZ) (pm:=Va) (cdv:=PB) (ct:=Vb) (an:=UO) d59 Λ
 have Mi:Mk K cL WA:=⟨p5cL,Xd.m.at_,Xd.m.fn,p6cL⟩
 have Mt:Mk K cD WC:=⟨p5cD,Xe.m.at_,Xe.m.fn,p6cD⟩
 have My:Mk K cJ P7:=⟨p5cJ,a58,i58,p6cJ⟩
 have Ma:Mk K cA f49:=⟨p5cA,Vf.m.at_,Vf.m.fn,p6cA⟩
 have Mh:Mk K cH f56:=⟨p5cH,Vg.m.at_,Vg.m.fn,p6cH⟩
 refine⟨xi "law" "law" (cp kQ) (aJ kQ) (ag kQ) .none UP UQ UR UM P8 US,λs v =>.of_eq Λ,λμ _ _=>?_⟩
 have Gm:EW l.prog w K mg μ aL 2 f2 _ _ yd:=Ec H2.F T H1.m H1.F H1.b
 have f:Wy K cD f48 _ (Ff l.prog w ⟨cB,cD⟩):=⟨⟨p1cD,p2cD,p3cD,p4cD⟩,g,H48.m,H48.b,λH H' x n wy h k=>Ff.keep (n:=n) (wy:=wy) h k⟩
 have Gb:EW l.prog w K mg μ aL 3 f48 _ _ (iR (Ff l.prog w ⟨cB,cD⟩)):=tT (zh (ts:=⟨cB,cD⟩) H48.F B H2.m H2.k H2.b Gm)
 have Gw:EW l.prog w K mg μ aL 2 f5 _ _ e9:=uD o.F T Z I.m I.F I.b
 have GW:EW l.prog w K mg μ aL 1 f4 _ _ gr:=kY I.F T Z
 have G2:EW l.prog w K mg μ aL 3 f7 _ _ ql:=B3 H7.F o.m o.k o.b Gw
 have Gi:EW l.prog w K mg μ (ix l.prog w) 4 WA _ _ (ui K ⟨cL⟩ ⟨cY,cP,cR,cE,cM,cQ,cG,cW,cZ,cV,cX⟩):=BJ (x:=⟨cY,cP,cR,cE,cM,cQ,cG,cW,cZ,cV,cX⟩) Xd.F T L XP XR o.m o.k o.b Gw H7.m H7.k H7.b G2 (Ĉ X G mp) (Ĉ X G ml)
 have Go:EW l.prog w K mg μ aL 2 f6 _ _ (ub K):=BB H6.F T Z I.m I.F I.b
 have Gin:EW l.prog w K mg μ aL 1 f42 _ _ (wx ⟨cL⟩ Í):=BI Ve.F T L
 have Gf:EW l.prog w K mg μ aL 4 f8 _ _ (qx ⟨cL⟩):=zq H8.F T L M H7.m H7.k H7.b G2 H6.m H6.k H6.b Go (Ea H41.F T L) Gin
 have G1:EW l.prog w K mg μ aL 1 WB _ _ (xV K):=DX H46.F
 have Gse:EW l.prog w K mg μ aL 1 f3 _ _ (xY K):=DY H3.F
 have Gt:EW l.prog w K mg μ (ix l.prog w) 5 WC _ _ (tX l.prog w K ⟨cL⟩ ⟨cB,cD⟩ ⟨cY,cP,cR,cE,cM,cQ,cG,cW,cZ,cV,cX⟩):=B4 (x:=⟨cY,cP,cR,cE,cM,cQ,cG,cW,cZ,cV,cX⟩) Xe.F T B XE G1 H8.m H8.k H8.b Gf H3.m H3.k H3.b Gse
 have Ge:EW l.prog w K mg μ aL 1 f40 _ _ (yi ⟨cL⟩ Í):=Ek H40.F L
 have Gro:EW l.prog w K mg μ (ix l.prog w) 3 f10 _ _ (qo K ⟨cL⟩ ⟨cY,cP,cR,cE,cM,cQ,cG,cW,cZ,cV,cX⟩):=zk (x:=⟨cY,cP,cR,cE,cM,cQ,cG,cW,cZ,cV,cX⟩) Ko.F T L o.m o.k o.b Gw (Ĉ X G mr) XM
 have YT:EW l.prog w K mg μ aL 2 Vx _ _ tW:=B1 UL.F T I.m I.k I.b GW
 have Gla:EW l.prog w K mg μ aL 1 f49 _ _ (vn cA):=Eg Vf.F (Y []).L
 have Gop:EW l.prog w K mg μ aL 1 f50 _ _ (nc cA):=BA PH.F (Y []).L
 have Gfr:EW l.prog w K mg μ aL 1 f52 _ _ (jH cA):=zp PJ.F (Y []).L
 have Gpu:EW l.prog w K mg μ aL 2 f51 _ _ (ya cA):=DZ H51.F (Y []).L PH.m PH.b Gop
 have Gpl:EW l.prog w K mg μ aL 1 f53 _ _ (qq cA):=B6 H53.F (Y []).L
 have Gbr:EW l.prog w K mg μ aL 1 f54 _ _ (qy cA):=zu H54.F (Y []).L
 have Gtw:EW l.prog w K mg μ aL 3 f55 _ _ (yf cA):=Ef H55.F T (Y []).L (Ĉ X G gcA) Ma Vf.b Gla
 have Gle:EW l.prog w K mg μ aL 1 f56 _ _ (vm cH):=Ee Vg.F (Y [])
 have Gtx:EW l.prog w K mg μ aL 3 f57 _ _ (ye cH):=Ed H57.F T (Y []) (Ĉ X G gcH) Mh Vg.b Gle
 have Gy:∀ex:List Ν,EW l.prog w K mg μ (ix l.prog w) 4 P7 _ _ (mU K ⟨cL⟩ ⟨cY,cP,cR,cE,cM,cQ,cG,cW,cZ,cV,cX⟩ cD (Ff l.prog w ⟨cB,cD⟩) ⟨cJ,cA,cH,ex⟩):=λex=>DV (x:=⟨cY,cP,cR,cE,cM,cQ,cG,cW,cZ,cV,cX⟩) F58 T L (Y ex) f Ko.m Ko.k Ko.b Gro (Ĉ X G gcA) Ma Vf.b Gla
 have Gp:∀ex:List Ν,EW l.prog w K mg μ (ix l.prog w) 4 Q9 _ _ (qr K ⟨cL⟩ ⟨cY,cP,cR,cE,cM,cQ,cG,cW,cZ,cV,cX⟩ cD (Ff l.prog w ⟨cB,cD⟩) ⟨cJ,cA,cH,ex⟩):=λex=>B7 (x:=⟨cY,cP,cR,cE,cM,cQ,cG,cW,cZ,cV,cX⟩) F59 T L (Y ex) f Gb o.m o.k o.b Gw UL.m UL.k UL.b YT (Ĉ X G gcH) Mh Vg.b Gle (Ĉ X G mh) (Ĉ X G mk) XQ XG XW XZ
 have Gol:∀ex:List Ν,EW l.prog w K mg μ aL 4 f71 _ _ (ua K ⟨cJ,cA,cH,ex⟩):=λex=>B9 H71.F (Y ex) H55.m H55.b Gtw
 have Got:∀ex:List Ν,EW l.prog w K mg μ aL 4 f72 _ _ (tZ K ⟨cJ,cA,cH,ex⟩):=λex=>B8 H72.F (Y ex) H57.m H57.b Gtx
 have O:∀ex:List Ν,Own l.prog w K mg μ ⟨cJ,cA,cH,ex⟩ f71 f72 f51 _ _ _:=λex=>⟨H71.m,H71.b,Gol ex,H72.m,H72.b,Got ex,H51.m,H51.b,Gpu⟩
 have Gly:∀ex:List Ν,EW l.prog w K mg μ aL 1 f70 _ _ (yg K ⟨cJ,cA,cH,ex⟩):=λex=>Eh H70.F (Y ex)
 have Gen:∀ex:List Ν,EW l.prog w K mg μ aL 5 f69 _ _ (lQ K ⟨cJ,cA,cH,ex⟩):=λex=>zr Vj.F (Y ex) (O ex)
 have Ggi:∀ex:List Ν,EW l.prog w K mg μ aL 6 f68 _ _ (uk K ⟨cJ,cA,cH,ex⟩):=λex=>BM H68.F (Y ex) (O ex) Vj.m Vj.b (Gen ex)
 have Gon:EW l.prog w K mg μ aL 4 f9 _ _ (yb ⟨cL⟩ cD (Ff l.prog w ⟨cB,cD⟩)):=Eb H9.F L f Gb ME Ge
 have Gmi:∀ex:List Ν,EW l.prog w K mg μ aL 4 f61 _ _ (ud K ⟨cL⟩ cD (Ff l.prog w ⟨cB,cD⟩) ⟨cJ,cA,cH,ex⟩):=λex=>BD H61.F (Y ex) f Gb PH.m PH.b Gop
 have Gwa:∀ex:List Ν,EW l.prog w K mg μ aL 5 f65 _ _ (mV K ⟨cL⟩ cD (Ff l.prog w ⟨cB,cD⟩) ⟨cJ,cA,cH,ex⟩):=λex=>wK H65.F (Y ex) f PJ.m PJ.b Gfr H9.m H9.k H9.b Gon
 have Gmo:∀ex:List Ν,EW l.prog w K mg μ aL 6 f62 _ _ (uc K ⟨cL⟩ cD (Ff l.prog w ⟨cB,cD⟩) ⟨cJ,cA,cH,ex⟩):=λex=>BC H62.F (Y ex) f PJ.m PJ.b Gfr H65.m H65.b (Gwa ex) PH.m PH.b Gop
 have Gml:∀ex:List Ν,EW l.prog w K mg μ aL 2 f63 _ _ (qt K ⟨cL⟩ cD (Ff l.prog w ⟨cB,cD⟩) ⟨cJ,cA,cH,ex⟩):=λex=>zl H63.F (Y ex) L f PJ.m PJ.b Gfr ME Ge
 have Gmb:∀ex:List Ν,EW l.prog w K mg μ aL 1 f64 _ _ (ng K ⟨cL⟩ cD (Ff l.prog w ⟨cB,cD⟩) ⟨cJ,cA,cH,ex⟩):=λex=>wR H64.F (Y ex)
 have MM:∀ex:List Ν,Zn l.prog w K mg μ ⟨cL⟩ cD (Ff l.prog w ⟨cB,cD⟩) ⟨cJ,cA,cH,ex⟩ f61 f62 f63 f64 _ _ _ _:=λex=>⟨H61.m,H61.b,Gmi ex,H62.m,H62.b,Gmo ex,H63.m,H63.b,Gml ex,H64.m,H64.b,Gmb ex⟩
 have Gms:∀ex:List Ν,EW l.prog w K mg μ aL 7 f60 _ _ (lP K ⟨cL⟩ cD (Ff l.prog w ⟨cB,cD⟩) ⟨cJ,cA,cH,ex⟩):=λex=>zm Vh.F T (Y ex) f (MM ex)
 have Gim:EW l.prog w K mg μ aL 2 f12 _ _ uh:=BH WD.F T ZS I.m I.k I.b GW
 have Glk:∀ex:List Ν,EW l.prog w K mg μ aL 7 f66 _ _ (ue K ⟨cL⟩ cD (Ff l.prog w ⟨cB,cD⟩) ⟨cJ,cA,cH,ex⟩):=λex=>BG H66.F T (Y ex) f (MM ex) WD.m WD.k WD.b Gim o.m o.k o.b Gw
 have DM:∀ex:List Ν,DoM l.prog w K mg μ ⟨cL⟩ cD (Ff l.prog w ⟨cB,cD⟩) ⟨cJ,cA,cH,ex⟩ f66 f68 f69 f53 f54 f70 _ _ _ _ _ _:=λex=>⟨H66.m,H66.b,Glk ex,H68.m,H68.b,Ggi ex,Vj.m,Vj.b,Gen ex,H53.m,H53.b,Gpl,H54.m,H54.b,Gbr,H70.m,H70.b,Gly ex⟩
 have Gdo:∀ex:List Ν,EW l.prog w K mg μ (ix l.prog w) 8 f67 _ _ (yh K ⟨cL⟩ ⟨cY,cP,cR,cE,cM,cQ,cG,cW,cZ,cV,cX⟩ cD (Ff l.prog w ⟨cB,cD⟩) ⟨cJ,cA,cH,ex⟩):=λex=>Tv (xc:=⟨cY,cP,cR,cE,cM,cQ,cG,cW,cZ,cV,cX⟩) Vi.F (Y ex) L f (O ex) (DM ex) ME Ge XV
 have Ghi:∀ex:List Ν,EW l.prog w K mg μ aL 1 f73 _ _ (qw K ⟨cJ,cA,cH,ex⟩):=λex=>BK Vk.F T (Y ex)
 have Gws:EW l.prog w K mg μ aL 1 f13 _ _ qk:=zg WE.F
 have Xf:EW l.prog w K mg μ aL 1 f14 _ _ gx:=wO J.F T (Ĉ X G mf) (Ĉ X G mq)
 have Gsg:EW l.prog w K mg μ aL 2 f15 _ _ mX:=wM WG.F J.m J.k J.b Xf
 have Gwr:EW l.prog w K mg μ aL 1 f16 _ _ kG:=uC WH.F T
 have Grn:EW l.prog w K mg μ aL 2 f17 _ _ (jG K):=zj Mq.F WH.m WH.k WH.b Gwr
 have Gy1:EW l.prog w K mg μ aL 4 f18 _ _ (kH ⟨cL⟩ cD (Ff l.prog w ⟨cB,cD⟩)):=uE WI.F T L f Gb Ve.m Ve.b Gin Mq.m Mq.k Mq.b Grn
 have Gr1:EW l.prog w K mg μ aL 5 f19 _ _ (iS ⟨cL⟩ cD (Ff l.prog w ⟨cB,cD⟩)):=uG PD.F T L f Mq.m Mq.k Mq.b Grn WI.m WI.k WI.b Gy1
 have Gtt:EW l.prog w K mg μ aL 6 f20 _ _ (kJ ⟨cL⟩ cD (Ff l.prog w ⟨cB,cD⟩)):=uF WJ.F PD.m PD.k PD.b Gr1
 have Gyt:∀ex:List Ν,EW l.prog w K mg μ aL 6 f21 _ _ (lO K ⟨cL⟩ cD (Ff l.prog w ⟨cB,cD⟩) ⟨cJ,cA,cH,ex⟩):=λex=>zf PF.F (Y ex) f Mq.m Mq.k Mq.b Grn PD.m PD.k PD.b Gr1 Vk.m Vk.b (Ghi ex)
 have Grf:EW l.prog w K mg μ (ix l.prog w) 2 f22 _ _ (mZ K ⟨cY,cP,cR,cE,cM,cQ,cG,cW,cZ,cV,cX⟩):=wN (x:=⟨cY,cP,cR,cE,cM,cQ,cG,cW,cZ,cV,cX⟩) XX WK.F T kk6 WE.m WE.k WE.b Gws
 have Grw:EW l.prog w K mg μ aL 2 f23 _ _ kM:=uI WM.F J.m J.k J.b Xf
 have MS:ZO l.prog w K mg μ ⟨cL⟩ ⟨cB,cD⟩ ⟨cY,cP,cR,cE,cM,cQ,cG,cW,cZ,cV,cX⟩ WA WC _ _:=⟨(Ĉ X G gcL),Mi,Xd.b,Gi,(Ĉ X G gcD),Mt,Xe.b,Gt⟩
 have Gmt:EW l.prog w K mg μ (ix l.prog w) 7 f24 _ _ (qu l.prog w K ⟨cL⟩ ⟨cB,cD⟩ ⟨cY,cP,cR,cE,cM,cQ,cG,cW,cZ,cV,cX⟩):=zn WN.F T MS J.m J.k J.b Xf WM.m WM.k WM.b Grw
 have Gde:∀ex:List Ν,EW l.prog w K mg μ (ix l.prog w) 9 f25 _ _ (um l.prog w K ⟨cL⟩ ⟨cB,cD⟩ ⟨cY,cP,cR,cE,cM,cQ,cG,cW,cZ,cV,cX⟩ ⟨cJ,cA,cH,ex⟩):=λex=>BO (xc:=⟨cY,cP,cR,cE,cM,cQ,cG,cW,cZ,cV,cX⟩) WO.F T (Y ex) f WG.m WG.k WG.b Gsg ⟨a59,i59,k59⟩ bp0 (Gp ex) Vi.m Vi.b (Gdo ex)
 have Gra:EW l.prog w K mg μ (ix l.prog w) 1 f26 _ _ (kK K ⟨cY,cP,cR,cE,cM,cQ,cG,cW,cZ,cV,cX⟩):=uH (xc:=⟨cY,cP,cR,cE,cM,cQ,cG,cW,cZ,cV,cX⟩) WQ.F T XX
 have Gmk:EW l.prog w K mg μ (ix l.prog w) 10 f27 _ _ (nh l.prog w K ⟨cL⟩ ⟨cB,cD⟩ ⟨cY,cP,cR,cE,cM,cQ,cG,cW,cZ,cV,cX⟩ ⟨cJ,cA,cH,[]⟩):=wS (ys:=⟨cJ,cA,cH,[]⟩) WR.F f WQ.m WQ.k WQ.b Gra WN.m WN.k WN.b Gmt J.m J.k J.b Xf (Ĉ X G gcJ) My W4 Gy WO.m WO.k WO.b Gde
 have Gry:EW l.prog w K mg μ (Yg l.prog w) 11 f28 _ _ (jx l.prog w K ⟨cL⟩ ⟨cB,cD⟩ ⟨cY,cP,cR,cE,cM,cQ,cG,cW,cZ,cV,cX⟩ ⟨cJ,cA,cH,[]⟩):=si (ys:=⟨cJ,cA,cH,[]⟩) WT.F f XX (Ĉ X G gcY) WK.m WK.k WK.b Grf WR.m WR.k WR.b Gmk PF.m PF.k PF.b Gyt
 have Gd:EW l.prog w K mg μ aL 1 f29 _ _ (jI K):=zt Mr.F T
 have Glt:EW l.prog w K mg μ aL 7 f30 _ _ (uf l.prog w K ⟨cL⟩ ⟨cB,cD⟩):=BE WU.F T MS Mr.m Mr.k Mr.b Gd
 have Ggd:∀ex:List Ν,EW l.prog w K mg μ aL 8 f31 _ _ (uj l.prog w K ⟨cL⟩ ⟨cB,cD⟩ ⟨cJ,cA,cH,ex⟩):=λex=>BL WV.F T (Y ex) L f Vh.m Vh.b (Gms ex)
 have Gsp:EW l.prog w K mg μ aL 1 f32 _ _ qm:=zi WW.F T
 have Gln:EW l.prog w K mg μ aL 1 f33 _ _ ug:=BF WX.F T
 have Gdn:∀ex:List Ν,EW l.prog w K mg μ aL 9 f34 _ _ (ul l.prog w K ⟨cL⟩ ⟨cB,cD⟩ ⟨cJ,cA,cH,ex⟩):=λex=>BN (xc:=⟨cY,cP,cR,cE,cM,cQ,cG,cW,cZ,cV,cX⟩) WY.F T (Y ex) f (Ĉ X G gcY) WX.m WX.k WX.b Gln ⟨a59,i59,k59⟩ bp0 (Gp ex) Vi.m Vi.b (Gdo ex)
 have RM:RwM l.prog w K mg μ ⟨cL⟩ ⟨cB,cD⟩ ⟨cJ,cA,cH,[]⟩ f29 f31 f32 f34 _ _ _ _:=⟨Mr.m,Mr.k,Mr.b,Gd,WV.m,WV.k,WV.b,Ggd,WW.m,WW.k,WW.b,Gsp,WY.m,WY.k,WY.b,Gdn⟩
 have Grs:EW l.prog w K mg μ aL 10 f35 _ _ (tY l.prog w K ⟨cL⟩ ⟨cB,cD⟩ ⟨cJ,cA,cH,[]⟩):=B5 WZ.F T f RM
 have Gts:EW l.prog w K mg μ aL 1 f36 _ _ (xW K):=wL Xa.F T
 have Glr:EW l.prog w K mg μ aL 12 f37 _ _ (qv l.prog w K ⟨cL⟩ ⟨cB,cD⟩ ⟨cJ,cA,cH,[]⟩):=zo (xc:=⟨cY,cP,cR,cE,cM,cQ,cG,cW,cZ,cV,cX⟩) Xb.F T f RX WT.m WT.k WT.b Gry
 exact Ei (c:=⟨cL⟩) (ts:=⟨cB,cD⟩) (xc:=⟨cY,cP,cR,cE,cM,cQ,cG,cW,cZ,cV,cX⟩) (ys:=⟨cJ,cA,cH,[]⟩) F38 T L (Y []) ⟨f,Mr.m,Mr.k,Mr.b,Gd,WU.m,WU.k,WU.b,Glt,(Ĉ X G gcJ),My,W4,Gy [],WZ.m,WZ.k,WZ.b,Grs,WJ.m,WJ.k,WJ.b,Gtt,Xa.m,Xa.k,Xa.b,Gts,Xb.m,Xb.k,Xb.b,Glr,Vk.m,Vk.b,Ghi [],Vh.m,Vh.b,Gms [],PF.m,PF.k,PF.b,Gyt [],kk8,kk7,kk10⟩
end
theorem walk{l:PySem.W.OpenLaw}{XP:(Str->Option Ο)->ò->Prop}{K:Params->Ϣ}(e:l.most=Α 63)(g:d.params.defaults=[])
  (i:∀(w:À)(h:ò),YP w h->(K w.params).In h)
  (F:∀(w:À)(mg:Str->Option Ο)(b:Ν)(h:ò),(K w.params).In h->h.Ns Ϡ mg->mg d.name=Α (.ref b)->
   ∃c:ë,(∀(s:Ω)(u:Ο),OL s c ⟨[u],[]⟩ [("_law_script",u)])/\∀μ:ò,(K w.params).In μ->μ.Ns Ϡ mg->EW l.prog w (K w.params) mg μ aL 13 b c ["_law_script"] (vo (K w.params))):
  PySem.W.WalkO q loose XP YP l.row.toRowW d [] (λf j=>PySem.call f j):=
 L2.M4 (n:=63) (k:=13) (x:="_law_script") (CX:=λ_=>aL) (sp:=λw=>vo (K w.params)) e (by decide) g ⟨Λ,by decide,by decide⟩ i F (λ_ _ a m o _ p=>⟨a,m,Λ,p,o,λ_=>rfl⟩) λ_ _ _ _ _ z=>z
end K83
structure PySem.W.Fast:Prop where
 (tw10347223601381282944 tw8420744915645991771 tw1532081505838629678 tw14819155554513974436 tw4411752700309225077 tw411751399852734171 tw7316886686672143349 tw12612090396145695026 tw8247661125834719369 tw1342140135775954599 tw5223483115027937107 tw11114734342233246394 tw11220164771096756530 tw2512363454097428946 tw4921249271699364041 tw1793334093265243949 tw6298438342157954478 tw9561519106505297221 tw12237175949625674157 tw6322968317800236749 tw15312288317392767138 tw13474103571013728187 tw8005147991290743252 tw4161625156003696398 tw9948880027477198213 tw15840376341774401388 tw6957833459177769497 tw4068909070178325339 tw15399152098825293893 tw6938811839425742916 tw5280041622476588150 tw2601572712237406869 tw682988839723148783 tw3690278015946021850 tw5238651564020414452 tw1054438016131310920 tw5883846159819406119 tw17950239421943192150 tw16090928506910415832 tw3355801905269450654 tw14023653349537762389 tw8219935010544542511 tw4142873695340359058 tw11140242675965161825 tw522616034398589611 tw3904253260901610304 tw15849525893858551543 tw3065990078119295588 tw1263344922716594358 tw12418511923207266066 tw14695739846246563681 tw10364174306946288663 tw14492445075423752923 tw9778843268542152704 tw3712195120228753283 tw4989594815808757696 tw7566798879021743500 tw13585480038010421448 tw12458978863871970832 tw12748236000598684094 tw3479548137200638018 tw1018720349921465233 tw901269462069511118 tw13722064293572187248 tw9643631803236841213 tw10987467397987926363 tw339325778390161690 tw6088992142013471942 tw9426736876367203177 tw10682612788253084706 tw3369945948817546108 tw13439892966908106240 tw5621466971391000786 tw1400232837808050965 tw12536439293321846711 tw4151341408805099581 tw18173131111783441497 tw8564995800938408330 tw14160813134453251070 tw14099898425229491901 tw17528088303768951998 tw1679579689352650817 tw5275782973693384507 tw11960253908772956699 tw245872015866917837 tw15237154324001159095 tw9975753452886537334 tw17643336323618178573 tw17064339660715075794 tw10990535656548282926 tw1394225398272934116 tw17639475811005340862 tw10483849558743564331 tw17189837992129994974 tw8202348048622418558 tw12562881083430016331 tw7912414244837145519 tw5306773684497052765 tw3797751270574457034 tw17239563079072700547 tw8204905473503201136 tw6018567609270292925 tw4202092903634849538 tw279357032044498106 tw11110379101624385061 tw3960592974358456569 tw6371755011786867455 tw13470341870883385789 tw10760580743515855587 tw17777675754119286922 tw4057391768991870371 tw9676869775160791109 tw7963175169175096700 tw5284874992758740330 tw14416583154095195187 tw13993831987076182459 tw2552480231491500015 tw10198239442120644431 tw16185093495255866982 tw3735243584784600478 tw14037253239077498347 tw5672251058840842018 tw18390045341167512345 tw7202949127037232153 tw11825268270267267207 tw2939698475030623818 tw3642486792041593044 tw1657137067643772062 tw12872780146299531114 tw3841847493692822007 tw13097753565686324565 tw6082927347454291819 tw6676301653117532246 tw10920717843038928249 tw9287814060189089980 tw8565563682585995736 tw16087754610222248357 tw12927753746129110035 tw6170308542411908846 tw14921612354112279305 tw669253786204134553 tw6585764699375865879 tw3438332296190217928 tw63629872199292779 tw13460023003668416372 tw8098026464665871705 tw6324259608057052142 tw17917298717608964554 tw10498100889916724004 tw9718804002868905151 tw12609389328831080679 tw11095314229601564599 tw6265170829364978704 tw11010807875068469659 tw6740625655208156112 tw3267425613406346844 tw10169229340319265062 tw12360587231006938991 tw17674166247427960044 tw15443029918322267854 tw6155536516179071375 tw13061237763761214383 tw11718189688545974797 tw5000563940734016569 tw6388818213123741917 tw2026788685264668187 tw5102866408173264185 tw5956882048062437360 tw10809247796258237404 tw17526814592339620771 tw673401261651178570 tw12115228210976890930 tw5421965497450188416 tw6370446135597938472 tw14465908018325355985 tw4696982312174967419 tw16970442813728512039 tw14624018254886612630 tw13957091815019512758 tw15232391932110066093 tw10556053444992492156 tw5595582743796586552 tw6633398869212274057 tw15867376332057281728 tw14364872663145230475 tw2487229696650264095 tw760859897974512669 tw5059041575345148780 tw4552952679168285616 tw928787723520210855 tw11843382046266668608 tw821370576826816143 tw9287375797627384166 tw16356261066137678232 tw16774917542220203842 tw2354686848621705286 tw349357841137019324 tw7555787151135442857 tw16439401250269249210 tw1884040340004929670 tw11870455496247238227 tw6538285261822417321 tw7448443642611609448 tw11900439950926761103 tw5743343825772195741 tw1679869060643197159 tw13407031521392605415 tw2795580064236307359 tw10931685491367905037 tw4553164049513212550 tw13127811042339029857 tw5686413295488415995 tw12631911057565861711 tw14641248124346184891 tw5825777027331223684 tw6608647358387036104 tw13534530805753753344 tw6456386276354392479 tw15565612744420631092 tw10854914118045531168 tw12597079356727735674 tw6487314219029739082 tw11138646698850653064 tw12928250126070686538 tw15203134101429927872 tw16316788374360314201 tw1335674807475171174 tw6586440825498259874 tw13509126745422461638 tw4519459126063874686 tw9684000491939722943 tw635787068910789789 tw1785695349372870868 tw10372823600936284689 tw13761943853088550237 tw8666538121523410052 tw10429567040584220778 tw8232286321875144684 tw16308071472354456209 tw13298142932191664152 tw15174379915912802701 tw13657983684254467926 tw18176166296114109624 tw11980713722253112400 tw7768574217288067316 tw8888559245772899163 tw8159793832188313293 tw5487090863058475447 tw106005458332651045 tw12654582492078212904 tw83255286141390727 tw18260557640418283398 tw17013663134473619459 tw10578996326196678649 tw13733600566135476491 tw10427219541804883992 tw6119228328604945655 tw15491162453039832805 tw17837387464866044453 tw10898437403127125225 tw3354961521763998031 tw18050652429372114505 tw5528298878287813736 tw14159652936291028460 tw9624386201284505716 tw8406861517647632070 tw3083589666129896191 tw15208961554442794901 tw16955761296658330914 tw17125531868558662341 tw15331918654044588968 tw10788119021479577669 tw11647899556637681549 tw1960856698544950028 tw11311161865375485304 tw4905877280317579139 tw1200239413028785689 tw14581645515160062560 tw16181734864503256417 tw12626498315698063076 tw6547094075394901719 tw11924896497318006960 tw4257450784268183138 tw4462830100252445384 tw18208526130971349882 tw15169040335672667785 tw16439283495857418479 tw12098895019416193580 tw6544708691997287525 tw15886455584812289339 tw5650948774293590710 tw9305444946300240263 tw8029021113091788567 tw765004769619286775 tw6213606996835822255 tw480629153778098362 tw2361593927773139944 tw1945059065519634200 tw10025577112716932330 tw7160401552704596052 tw7989247981974397280 tw12616831455499073288 tw11149035606528311272 tw7479901980247429002 tw2089570492594119748 tw12061419340752316537 tw7166111635132142268 tw13070707017485631877 tw14678042334531821211 tw9063089501708424005 tw5846682795605503158 tw5126128196020133183 tw17025453479439403761 tw16660100689027437803 tw4415430924989839949 tw4001565695634613081 tw1124820883852097920 tw12901137874575494064 tw9948363093690230561 tw17413577727351948378 tw10195053335449180631 tw4026863831892112472 tw15360148613321806601 tw234502415515120681 tw16505886930609925648 tw4815296438806060870 tw11656972844520152297 tw809629184126170257 tw1995271326051236177 tw928913850014157807 tw9061572403334455843 tw16403320803803145967 tw16963327195675612887 tw10895677606494167710 tw6881134122502759145 tw7631085918358140079 tw1976823779298711338 tw1062331028523339802 tw6556335282684161504 tw5852413199095314081 tw639599105256885266 tw1949325351642586639 tw4087772015921929332 tw1825022735677490159 tw17899245501947776354 tw6615302517132068493 tw16028918505621531128 tw15081410555835259332 tw13867167902830935155 tw6452055509527271856 tw3683669973956526243 tw6757456711417200564 tw14940258430028391988 tw11947821569905580509 tw17164314054879000767 tw966100875970416342 tw14202807898878065739 tw17336395982334022167 tw7505857240715478727 tw16076126101475254546 tw8931127997513108833 tw5109516045102130477 tw4229322354586126698 tw10491142107920507622 tw622143617433334995 tw15990492279371225464 tw10204110280583344364 tw11566547951109868561 tw9503327298455394767 tw7481425998482744767 tw6899020336802054659 tw18059634433325658934 tw10400904593073227405 tw6625336813344517996 tw2168286768838504818 tw8622842779297954707 tw6884653799257994150 tw4200462785810781924 tw11882508582233790416 tw9706049868600206493 tw5386726524725646415 tw3687365396640148933 tw12799853016282692371 tw11859217537690876245 tw4173651291198737411 tw10584674725795412291 tw771457588406406792 tw66636653888527997 tw12018988269332179784 tw15295839381639899754 tw17381079313456851837 tw12771363956425786842 tw16969979715097165464 tw15819868590941838922 tw6449493415405456106 tw2983380875126474496 tw4696365578992993038 tw1496957286932681024 tw365024405927084854 tw6085047863776762963 tw12324697569742763605 tw5291943300990846027 tw6817747703123673348 tw5067414169945439114 tw8098414217360828782 tw17768155276211861445 tw17529144986793637376 tw5850075540214175777 tw3797770220633952520 tw4006760756595649558 tw5361267112990234144 tw17497159740880895741 tw11900990264550307708 tw850830070253495075 tw12151325311925908432 tw14493204905859173253 tw9688549230980229500 tw7333608488340555591 tw18108267788209457347 tw17073711379943118892 tw9657794579057570912 tw2130336566565119545 tw1214187759555956748 tw4556137563149043156 tw15950865099752481962 tw13024416581051717340 tw3776937103852301723 tw8059909013626517164 tw1744179666707274270 tw1086833714337453880 tw7303837093992696163 tw5120722949845328347 tw16699428599055087405 tw14632222240395635762 tw17421775755536297022 tw4260926700127217919 tw10038935618115804635 tw5090692987297036964 tw4855488834058390708 tw13151880626320834881 tw10253950781157634128 tw8191576697282752526 tw631206700164329349 tw13276927683308868186 tw11520620688059721030 tw16034723914924077343 tw10378896421781830262 tw12654355508775927993 tw6432232020929399916 tw1585254285291248737 tw13552651033955940379 tw4999977710383724072 tw12935661414106362326 tw10718048514618111462 tw14283375466894216263 tw10238687658750240108 tw10098001561045636479 tw2948536659636818781 tw3818034373723047961 tw17783323976163330299 tw15290507647648741585 tw12937177281570865895 tw11574176706471727259 tw10972603662956439678 tw10777691065460771513 tw12872584040671616906 tw9266071387728571557 tw14333142627419347678 tw11703118576183838851 tw6070853460194867323 tw10116403047047371148 tw5557858015204376336 tw16315221884933442180 tw14111626386471895241 tw5008165435953575642 tw642873616251712316 tw6356375885214660388 tw13018689513899168432 tw7358491680319413764 tw3423827073891054160 tw2838334111457267919 tw1448750075660909637 tw6211708293528393599 tw3597203421809851641 tw17609128184340512229 tw15992636478653611003 tw13327192111242496939 tw11389332069386148460 tw13662053517431712573 tw623497740627573484 tw1911709454859723170 tw17158946692839007087 tw13677855605519016970 tw1604965434924877947 tw17791192060602744547 tw16993430860378506129 tw15691833708258695196 tw8376710091446308862 tw6695902100452776210 tw289444565520509380 tw15776205287324597440 tw15192719910178817186 tw1162910479461643104 tw10638550154294374388 tw7908647584942671811 tw17776918678625540420 tw16342029709390904785 tw13182674904497009522 tw17988770086969149245 tw5033454692570793227 tw9686485907169844568 tw7958389437678282466 tw6073949887105621434 tw6060800732330241110 tw5697940279123517368 tw5360860341822554559 tw3751677124300383106 tw18312704280274965387 tw17231085505025873054 tw12834754810166079545 tw11243622347863901311 tw8683774596542917098 tw17895415497894652517 tw16613961881833146758 tw14219281657026912295 tw2029850638238175672 tw10171563928624980181 tw16093299010703515440 tw596056507627098104 tw17111652329412822676 tw13958177509605971897 tw8002071552810690546 tw11085716548330278965 tw10506567415437808927 tw9172191523143763352 tw3283543160710492336 tw2788885272391208630 tw2380448364749059956 tw13177201025275199555 tw12250489603342600215 tw10786282153711294028 tw6150422590423236280 tw5109471534793706388 tw2199136432961225500 tw1801233403734320767 tw14545893422914976006 tw13680432985145647648 tw10686298195357773851 tw1476536078947580580 tw16757695273990945829 tw7526879104731213358 tw15003813279892237973 tw8224500174875810260 tw13641414675445040243 tw1041362146272068975 tw5800627371706257436 tw3103594683757610595 tw16904816870626130023 tw16685234446023239993 tw16080450360485780144 tw13868765724973429303 tw13623687317898810309 tw13546977197716022922 tw12291172613902449258 tw11881980860051377169 tw11463825530658514158 tw6112789928181563634 tw1577467785504014108 tw2483974993722743248 tw17462291981812946370 tw8787250659940741377 tw8546844974749361271 tw7143687351108789305 tw6858506676513042529 tw5338284125024469646 tw5261227551463588728 tw5253084738815780351 tw3222683044807381391 tw2231039908049085685 tw18347472644256819473 tw18120107565724601393 tw1802908167405915041 tw17447583062943635971 tw16682977576589614481 tw16572418025133202830 tw1590858327777043715 tw13154699594749465785 tw12996510201973121790 tw10948395566336706999 tw10138797037700759354 tw844493003277095855 tw7956175859292518600 tw7303047804909502163 tw680041531629046596 tw5890282449406009435 tw5748071548264464255 tw5499182916523539593 tw4823587872923349310 tw3167312318868129266 tw18300235956756318522 tw17445889589382083897 tw16653796531728749635 tw16605654330520680034 tw14908196747149059803 tw14493494771743114389 tw12353842656165166921 tw11818430899557226280 tw10301078001334537395 tw10049665820337362926 tw13979869564685381156 tw7958193901335988357 tw4921929555594385035 tw967072262691113209 tw7505100739405327570 tw6685510824968626330 tw5947160905443729471 tw5384554562247335025 tw4501951157263572123 tw4352877716193652474 tw2828537883868744853 tw2825629197618914888 tw18344162027756215621 tw17722725428185445318 tw16927346624023446182 tw15870322095886274338 tw9039334556680421566 tw6796581961057573008 tw6614574530880447500 tw6405766059533833094 tw5815571926260041722 tw5754635118356641133 tw5594944572448414848 tw5058660309685931442 tw3598897690853102982 tw3488695413498765363 tw2590851889780788054 tw18281484400060968320 tw16719245246324196564 tw14934205953216269785 tw14523604101829236510 tw13271628311290286376 tw12987578043211229458 tw10984114478018044953 tw10539748921512910529 tw1349563676711793992 tw12310940764889131213 tw9887114928386826823 tw9853953158832213299 tw9827046828247852413 tw9759320116791208632 tw9678544432281507820 tw9651425446690144914 tw9634923134834516025 tw9630036940207391902 tw9570516948664175570 tw9357644714028229031 tw9057218426956275716 tw9035828770509322277 tw8919633548699368406 tw8898632788323552173 tw8883798715370090170 tw886671024067324353 tw8835758888963636087 tw8694575880805907326 tw8649923733312211423 tw8642130382362888168 tw8531159075117563182 tw8517257731963165470 tw8318384551613977251 tw8232405588148004644 tw8205288400981772470 tw810951331683804081 tw8077192662346151575 tw8019740244806828441 tw801112739404003039 tw7964600278704631567 tw7938196307572361855 tw7785042370633955807 tw7775471806892986576 tw7766013080203588857 tw776058869058133441 tw773248502637346871 tw7653694863972066154 tw7642951280594651305 tw7573696471644558174 tw7424152422691933629 tw7219143721112183556 tw7144881431243970291 tw6911408042766418158 tw6817371503541041597 tw6785205426614034099 tw6708696586871624945 tw6697296726358943190 tw6597210593291437703 tw6547322813226481415 tw6473672859145016587 tw6373177239723927493 tw6179254370277634782 tw6168662843930430037 tw6081126672523695311 tw6076871964318531594 tw6075178615144030883 tw6068686678857555350 tw5943301381126548972 tw5827759788872347374 tw5809490439379149503 tw5710336974059966646 tw568778500319446842 tw5406241609072856614 tw5164033939046121539 tw511362409337602498 tw5056779190265756809 tw4933231376095409150 tw4785969235507054509 tw4726286983931960743 tw454027239879362866 tw4535763988875671492 tw4447783089659708991 tw429508992625139169 tw4178444502457796025 tw4101879426146625277 tw3794785515370877499 tw3746866383130677809 tw3740914777296530278 tw3611185398028867284 tw3600982202529756676 tw3537291633605099492 tw3383011334144496061 tw3378039620132146620 tw3255358726723402662 tw322080276797057932 tw313420173241853152 tw3120277765509538774 tw3075452045794645519 tw3074012513203384198 tw3048128825823233060 tw3033553741416444887 tw301737761202781673 tw2915240332899694757 tw2805624208797272323 tw2563559754686556512 tw2393819121527534100 tw2290446028563812550 tw2290252685195043782 tw2224291408952359641 tw2173510286520276132 tw2122321077677411877 tw192986703739211145 tw18423211335943624724 tw18341397050606673077 tw17905363511252237477 tw17774275365866243831 tw17773444994357656869 tw17692989890345137537 tw176646941386198939 tw17646659326034881140 tw17628549157649989377 tw17492510146564682242 tw17490491187411135812 tw17476335100906203409 tw17407966159269093153 tw17370482625944140795 tw17122123179740855664 tw17050012304359860609 tw16960553467664369484 tw16847463305655261913 tw16734958694976105650 tw16684380453645292756 tw16677758285995660837 tw16643898800905751353 tw16602582789240201082 tw16525803666028985344 tw16501134187111092022 tw16430441404721731700 tw1635961871240598907 tw16204586432190800625 tw16135633120998736107 tw16078749073539580862 tw16063501338554379269 tw15571209081356296306 tw15465443826885950916 tw15261987389624689645 tw15200021134454703257 tw15165795152770390660 tw15144364677660393033 tw1507253948509868912 tw15000475337401618639 tw14783537218820417679 tw14773687093987977130 tw14688040944583574131 tw14682899016330547281 tw14679847339229100628 tw14651034488988116605 tw14639365067261524401 tw14540904030943408405 tw14493700709375299538 tw14371784871130085594 tw14357823703467249630 tw14257445004207432984 tw1423678216293672074 tw14233835228912676367 tw14204968980918294758 tw14067562978729466606 tw1369601112697922676 tw13693796390404090637 tw13654112286360454590 tw13515730350249301796 tw13300810816713931705 tw13297921791514650164 tw13241845876894153558 tw13190892047682776402 tw13097812513324435817 tw12936747235245774101 tw12755999894512355738 tw12737157213589996313 tw12710091909241676998 tw12636779266152676448 tw12523757169187921312 tw12512870794058112639 tw12509747152616315911 tw12302957871073399704 tw12253590411954282836 tw12231998484438335382 tw11936960943068035853 tw11767312635224695672 tw11713563496161431916 tw116805820345185819 tw11626208749855002287 tw114384162782873401 tw11294864866617800482 tw11250546037655688334 tw11127764398016978753 tw11101789144684426084 tw11059181096772870721 tw11015645038514118904 tw11009132604689857346 tw10951630162179604086 tw10691765003068160615 tw10577684186654637187 tw10468853380392224166 tw10390755982374059633 tw1016101501517193460 tw10147799724965074096 tw10115619289836352346 tw10073862451315840986 tw10072085642110278303 tw10015416487866424397:True)
open PySem PySem.W PyProof.Rows
set_option maxRecDepth 100000 in
set_option maxHeartbeats 0 in
theorem PySem.Challenge.cw_wormyard_k83_yards_read_holds : PySem.Challenge.rw_wormyard_k83_yards_read.Holds := by
 w_on;o_law;k_head;(case hw=>w_witness2)
 k_fill
 refine K83.walk (l:=PySem.Challenge.rw_wormyard_k83_yards_read) rfl rfl (λw h Y=>PySem.W.kIn_of Y) ?F
 case F =>
  intro w mg fa h KX G hmg
  refine' K83.all_mk KX G hmg ?Aa ?Ab ?Ac ?Ad ?Ae ?Af ?Ag ?Ah ?Ai ?Aj ?Ak ?Al ?Am ?An ?Ao ?Ap ?Aq ?Ar ?As ?At ?Au ?Av ?Aw ?Ax ?Ay ?Az ?Ba ?Bb ?Bc ?Bd ?Be ?Bf ?Bg ?Bh ?Bi ?Bj ?Bk ?Bl ?Bm ?Bn ?Bo ?Bp ?Bq ?Br ?Bs ?Bt ?Bu ?Bv ?Bw ?Bx ?By ?Bz ?Ca ?Cb ?Cc ?Cd ?Ce ?Cf ?Cg ?Ch ?Ci ?Cj ?Ck ?Cl ?Cm ?Cn ?Co ?Cp ?Cq ?Cr ?Cs ?Ct ?Cu ?Cv ?Cw ?Cx ?Cy ?Cz ?Da ?Db ?Dc ?Dd ?De ?Df ?Dg ?Dh ?Di ?Dj ?Dk ?Dl ?Dm ?Dn ?Do ?Dp ?Dq ?Dr ?Ds ?Dt ?Du ?Dv ?Dw ?Dx ?Dy ?Dz ?Ea ?Eb ?Ec ?Ed ?Ee ?Ef ?Eg ?Eh ?Ei ?Ej ?Ek ?El ?Em ?En ?Eo ?Ep ?Eq ?Er ?Es ?Et ?Eu ?Ev ?Ew ?Ex ?Ey ?Ez ?Fa ?Fb ?Fc ?Fd ?Fe ?Ff ?Fg ?Fh ?Fi ?Fj ?Fk ?Fl ?Fm ?Fn ?Fo ?Fp ?Fq ?Fr ?Fs ?Ft ?Fu ?Fv ?Fw ?Fx ?Fy ?Fz ?Ga ?Gb ?Gc ?Gd ?Ge ?Gf ?Gg ?Gh ?Gi ?Gj ?Gk ?Gl ?Gm ?Gn ?Go ?Gp ?Gq ?Gr ?Gs ?Gt ?Gu ?Gv ?Gw ?Gx ?Gy ?Gz ?Ha ?Hb ?Hc ?Hd ?He ?Hf ?Hg ?Hh ?Hi ?Hj ?Hk ?Hl ?Hm ?Hn ?Ho ?Hp ?Hq ?Hr ?Hs ?Ht ?Hu ?Hv ?Hw ?Hx ?Hy ?Hz ?Ia ?Ib ?Ic ?Id ?Ie ?If ?Ig ?Ih ?Ii ?Ij ?Ik ?Il ?Im ?In ?Io ?Ip ?Iq ?Ir ?Is ?It ?Iu ?Iv ?Iw ?Ix ?Iy ?Iz ?Ja ?Jb ?Jc ?Jd ?Je ?Jf ?Jg ?Jh ?Ji ?Jj ?Jk ?Jl ?Jm ?Jn ?Jo ?Jp ?Jq
  case Aa|Ab|Ac|Ad|Ae|Af|Ag|Ah|Ai|Aj|Ak|Al|Am|An|Ao|Ap|Aq=>k_is
  case Ar|As|At|Au|Av|Aw|Ax|Ay|Az|Ba|Bb|Bc|Bd|Be|Bf|Bg|Bh|Bi|Bj|Bk|Bl|Bm|Bn|Bo|Bp|Bq|Br|Bs|Bt|Bu|Bv|Bw|Bx|By|Bz|Ca|Cb|Cc|Cd|Ce|Cf|Cg|Ch|Ci|Cj|Ck|Cl|Cm|Cn|Co|Cp|Cq|Cr|Cs|Ct|Cu|Cv|Cw|Cx|Cy|Cz|Da|Db|Dc|Dd|De|Df|Dg|Dh|Di|Dj|Dk|Dl|Dm|Dn|Do|Dp|Dq|Dr|Ds|Dt|Du|Dv|Dw|Dx|Dy=>first|(refine' K83.mkT (by assumption) (by assumption) ?b ?a ?l ?c ?k;(case b=>first|exact λ_ _ _ _ _ _=>K83.len_of1 (λ_=>rfl)|exact λ_ _ _ _ _ _=>K83.len_of2 (λ_ _=>rfl)|exact λ_ _ _ _ _ _=>K83.len_of3 (λ_ _ _=>rfl)|exact λ_ _ _ _ _ _=>K83.len_of4 (λ_ _ _ _=>rfl)|exact λ_ _ _ _ _ _=>K83.len_of5 (λ_ _ _ _ _=>rfl));(case a=>k_is);(case l=>k_is);(case c=>k_is);(case k=>k_is))|(refine' K83.mkM ?b ?a ?l ?c ?k ?i;(case b=>first|exact λ_ _ _ _ _ _=>K83.len_of1 (λ_=>rfl)|exact λ_ _ _ _ _ _=>K83.len_of2 (λ_ _=>rfl)|exact λ_ _ _ _ _ _=>K83.len_of3 (λ_ _ _=>rfl)|exact λ_ _ _ _ _ _=>K83.len_of4 (λ_ _ _ _=>rfl)|exact λ_ _ _ _ _ _=>K83.len_of5 (λ_ _ _ _ _=>rfl));(case a=>k_is);(case l=>k_is);(case c=>k_is);(case k=>k_is);(case i=>k_is))|k_is
  case Dz|Ea|Eb|Ec|Ed|Ee|Ef|Eg|Eh|Ei|Ej|Ek|El|Em|En|Eo|Ep|Eq|Er|Es|Et|Eu|Ev|Ew|Ex|Ey|Ez|Fa|Fb|Fc|Fd|Fe|Ff|Fg|Fh|Fi|Fj|Fk|Fl|Fm|Fn|Fo|Fp|Fq|Fr|Fs|Ft|Fu|Fv|Fw|Fx|Fy|Fz|Ga|Gb|Gc|Gd|Ge|Gf|Gg|Gh|Gi|Gj=>k_is
  case Gk=>kernel_rfl
  case Gl=>k_is
  case Gm=>kernel_rfl
  case Gn=>k_is
  case Go=>kernel_rfl
  case Gp|Gq|Gr|Gs|Gt=>k_is
  case Gu=>kernel_rfl
  case Gv=>k_is
  case Gw=>kernel_rfl
  case Gx|Gy|Gz|Ha|Hb=>k_is
  case Hc=>kernel_rfl
  case Hd=>k_is
  case He=>kernel_rfl
  case Hf=>k_is
  case Hg=>kernel_rfl
  case Hh=>k_is
  case Hi=>kernel_rfl
  case Hj=>k_is
  case Hk=>kernel_rfl
  case Hl=>k_is
  case Hm=>kernel_rfl
  case Hn|Ho|Hp|Hq|Hr|Hs=>k_is
  case Ht=>kernel_rfl
  case Hu=>k_is
  case Hv=>kernel_rfl
  case Hw=>k_is
  case Hx=>kernel_rfl
  case Hy|Hz|Ia|Ib|Ic=>k_is
  case Id|Ie|If=>first|k_is|kernel_rfl
  case Ig|Ih|Ii|Ij|Ik|Il|Im|In|Io|Ip=>kit_is
  case Iq|Ir|Is|It|Iu|Iv|Iw|Ix|Iy|Iz=>kts_exm
  case Ja|Jb|Jc=>k_is
  case Jd|Je=>kit_is
  case Jf|Jg|Jh|Ji|Jj|Jk|Jl|Jm|Jn|Jo|Jp|Jq=>k_is
