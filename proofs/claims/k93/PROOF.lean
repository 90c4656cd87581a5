import PyProof.Rows.All
import Wide.All
import OpenK.AllK
import Wide.FinOn
import Lean
import PyProof.EqAt
import PyProof.EqKinds
import PyProof.TupleCall
import PyProof.ExcBaseAll.ValueError
import PyProof.EnumMake
import PyProof.Rows.EnumRows
import PyProof.TupleIter
import PyProof.DictValues
import PyProof.CollectStr
import PySem.Builtin.Int.W1All
import PyProof.DictRoadsH
import PyProof.DictKinds
import PyProof.FactsAll.NoneType
import KE.KRevIter
import PyProof.FactsAll.list_3
import KE.KDictList
import PyProof.DictIter
import PyProof.DictWalks
import PyProof.ListRange
import PyProof.Rows.SumAny
import PyProof.Rows.SeqCalls
import PyProof.P3In
import PyProof.DictItems
import KE.KPairComp
import PyProof.FactsAll.dict_3
import PyProof.CollectIter
import PyProof.TupleOfGen
import PyProof.TupleOfSeq
import PyProof.FactsAll.subtypes_4
import PyProof.ZipIter
import KE.KDictLaws
import KE.KNest
import KE.KLam
import KE.KSortKey
import PySem.Challenge.RW_wormyard_k93_whole_less
set_option compiler.extract_closed false
set_option Elab.async false
set_option linter.all false
set_option maxRecDepth 100000
set_option maxHeartbeats 4000000
theorem η0(h:1=1:=by rfl):1=1:=h
def η:=η0._auto_1
theorem θ0(h:1=1:=by decide):1=1:=h
def θ:=θ0._auto_1
theorem ζ0(h:1=1:=by first|exact .inl rfl|exact .inr rfl|assumption):1=1:=h
def ζ:=ζ0._auto_1
theorem ξ0(h:1=1:=by decide +kernel):1=1:=h
def ξ:=ξ0._auto_1
theorem ψ0(h:1=1:=by intro _;rfl):1=1:=h
def ψ:=ψ0._auto_1
open Array renaming length_toList→ĉ,getElem?_eq_some_iff→ĩ,forIn_toList→QP,find?_toList→Ry
open Bool renaming false_ne_true→ϝ,and_eq_true→É,true_and→ñ,not_eq_true'→ö,false_eq_true→ÿ,eq_iff_iff→ĝ,or_eq_true→ļ,false_or→Ű,or_true→ew
open Classical renaming byContradiction→Ħ,choose_spec→Ł,choose→qp
open False renaming elim→Ô
open ForInStep renaming yield→ů
open Iff renaming rfl→WL
open Int renaming toNat_natCast→Υ,natCast_nonneg→Φ,zero_add→Þ,ofNat_lt→ó,le_refl→Ĉ,emod_nonneg→Ď,emod_lt_of_pos→ě,natCast_pow→et,le_of_lt→gg,not_le→uv,fdiv_eq_ediv_of_nonneg→Lz,eq_ofNat_of_zero_le→NC,natAbs_natCast→Wu,emod_eq_of_lt→W5
open Int.ofNat renaming inj→Ä
open LawfulBEq renaming eq_of_beq→TF
open List renaming getElem?_eq_getElem→Μ,getD_eq_getElem?_getD→Χ,length_map→ϊ,range→ϋ,mem_cons_self→ώ,length_append→ϗ,mem_of_getElem?→Ϙ,mem_singleton→ϙ,replicate→Ϛ,mem_cons_of_mem→ϟ,mem_cons→ϥ,size_toArray→Ϩ,mem_filter→ϩ,getElem?_append_left→Ϫ,mem_append_right→ϫ,map_cons→Ϭ,mem_append→ϯ,getElem?_eq_some_iff→ϳ,length_singleton→Â,getElem?_map→Å,length_filter_le→Æ,mem_range→È,map_append→Ì,mem_append_left→Í,not_mem_nil→Õ,mem_map→Ö,sum_cons→Ù,getElem?_set_ne→à,take_length→â,length_range→ã,take_succ→ä,lookup_cons→é,filter_append→ë,length_cons→ï,getElem?_of_mem→ô,length_replicate→õ,pairwise_iff_getElem→ú,getElem?_eq_none→Ā,getElem?_concat_length→ā,getElem_mem→ă,nodup_cons→Ć,length_take_le→ć,mem_take_iff_getElem→Ċ,mem_of_head?→ċ,mem_flatMap→Č,map_map→č,range_succ→ē,find?_cons→Ĕ,append_nil→ĕ,lookup→Ę,getElem?_set_self→ę,filter_cons_of_neg→ģ,getElem?_append_right→Ĭ,mem_map_of_mem→İ,map_eq_nil_iff→ı,length_set→Ĵ,getElem_of_mem→ĵ,filter_cons→Ķ,nodup_nil→ĺ,append_assoc→Ļ,getElem?_replicate→ľ,getElem?_set→ņ,any_eq_true→ō,all_eq_true→Ŏ,filter_eq_nil_iff→Ŕ,length_take→Š,getElem_map→š,mem_of_mem_take→Ŧ,getLast?_eq_some_iff→Ũ,getLast?_eq_getElem?→ũ,eq_of_mem_replicate→Ū,map_congr_left→ų,filter_cons_of_pos→Ŵ,filterMap_cons→ŵ,take_of_length_le→ec,mem_of_mem_head?→hX,nodup_append→kA,any_eq_false→n7,replicate_succ'→ph,pairwise_append→p4,mem_reverse→rz,any_cons→r4,eq_nil_of_length_eq_zero→F2,pairwise_map→JB,idxOf_lt_length_of_mem→JQ,append_eq_nil_iff→JV,mem_or_eq_of_mem_set→Ll,getLast?_eq_none_iff→Lm,getElem?_zip_eq_some→Lu,mem_of_getLast?→Mq,pairwise_lt_range→NB,sum_append→OV,of_mem_zip→OW,flatMap_append→OX,contains_iff_mem→Pc,range_eq_range'→Pf,range'→Pn,mem_of_mem_drop→Pp,forall_mem_cons→P9,set_cons_zero→Qj,set_cons_succ→Qk,pairwise_cons→Qn,getElem?_range→Qq,filter_eq_self→Q1,contains_cons→Q6,mem_replicate→RJ,mem_filterMap→RQ,map_replicate→Se,getElem_range→Si,getElem_idxOf→So,getElem?_drop→S8,find?_eq_none→Tz,take_sublist→VX,foldl_append→Wa,filter_congr→Wc,ext_getElem?→Wn,ext_getElem→Ya,all_cons→Ye,length_nil→za6
open List.Pairwise renaming filter→þ,nil→gf
open List.cons renaming inj→Ň
open Nat renaming le_refl→Ρ,lt_of_lt_of_le→ϛ,zero_le→Ϧ,le_trans→À,ne_of_lt→Ã,lt_succ_of_le→Ð,le_of_not_lt→æ,le_of_lt→ê,le_succ_of_le→ø,not_lt_zero→Ă,lt_or_ge→Ě,lt_succ_of_lt→ĥ,ne_of_gt→Ĩ,lt_of_le_of_lt→į,lt_irrefl→Ĺ,le_of_eq→ń,testBit_lt_two_pow→ň,pow_le_pow_right→Ŝ,succ_pos→ť,le_of_lt_succ→Ů,le_succ→Ź,succ_ne_zero→ż,lt_trans→hH,testBit_two_pow→nF,add_le_add_left→oD,testBit_eq_decide_div_mod_eq→xc,testBit_or→A4,not_lt_of_le→A6,lt_of_not_le→E1,zero_testBit→IS,add_zero→Jk,mul_le_mul_right→Lg,two_pow_pos→Mm,exists_eq_add_of_le→Nv,zero_add→OE,mul_le_mul→OU,pow_lt_pow_right→PY,eq_of_testBit_eq→Qg,cast→Qh,succ_le_succ→V8,lt_succ_self→VA,and_one_is_mod→VT,or_lt_two_pow→W4
open Nat.succ renaming inj→oo
open Ne renaming symm→Ϟ
open Option renaming toList_some→î,isSome_map→Ğ,isSome_iff_exists→ŧ,getD_none→ŭ,getD_some→vr,map_eq_some_iff→Md
open Option.some renaming inj→Ϝ
open Or renaming inl→ύ,inr→Ĥ
open Prod renaming snd→Ï,fst→á
open PyProof.Rows renaming boot_isinstance→å,seqObj→ù,callWith_type1→Ē,boot_all→ĸ,IntsAre→œ,AllBare→c1,envOfC→gc,boot_range→wh,listUpdate_at→zz,boot_sum→A2,recsOf→IJ,get?_update_seq→Mp,numOf→R5,subscriptTail_builtinR→U0,Subscript_→za5
open PySem renaming Addr→Ν,wpAny_bind→Ξ,Value→Τ,Shared→Ψ,sizeLine_eq→Ω,sizeLine→ό,wpAny_pure→Ϡ,model→Ϣ,wpAny→ϣ,mainGlobals→Ϥ,starEach→Á,Stmt→Ç,World→Î,wpAny_mono→Ò,Around→Ø,Heap→Ü,FuncData→Ý,wpAny_truthy_bool→ì,sysModules→ü,tupleKind_room_in1→Ą,rawInt→ą,wpAny_holding→ď,backTo→Đ,wpAny_field→ğ,wpAny_Call_Name_kw→Ġ,PyData→ġ,wpAny_passesOwn→ħ,wpAny_standAt→Ī,codeAny_mono→ķ,NameKind→Ń,wpAny_execs_nil→Ņ,tupleKind→Ŋ,cLine→ŋ,wpAny_setField→ŏ,wpAny_newObj_type→Ő,wpAny_loadPart_at→ő,plainObj_wpAny_Assign_Attribute→Ŗ,swapsWith→Ř,attributeBase→ŝ,sliceBounds→Ş,letOwnedTupleGo→ţ,codeAny→ū,wpAny_pyIter_tuple→ű,wpAny_call→Ų,wpAny_pyIter_enum→Ž,keywordEach→ž,behindInMarks→e6,holding→ic,bootBuiltins→i1,assignEach→i2,wpAny_loadPart'→nE,excClassObj→rg,valueAt→FO,standAt→GS,foldedSetIterable→GV,callerA→HV,backToKw→Ii,atKey→Io,wpAny_lookBehind→JZ,wpAny_execs_cons→Ka,wpAny_eqBool_int→Kb,wpAny_call_entry→Kd,seqIndex?→Ke,pastItsLine_dict→Kr,noFill_tuple_add→KS,subscripted→L8,wpAny_specialOf→Mn,BindsTo→Nd,wpAny_loadPart→ND,call_meets→NG,GenState→O5,wpAny_comprehension_free→PB,seq_tuple_add→PD,rangeSize_one→PM,wpAny_callSpecial?_slot→R0,wpAny_pyNext_enum_endD→TL,wpAny_nsSet1→TQ,wpAny_Call_method_late→TR,wpAny_Assign_Subscript→Ub,concat_meets→Uc,Keyword→Ug,IsRange→Uk,IsEnum→Ul,wpAny_isTrue_Compare1→Wv,wpAny_newFunctionEnv→WM,wpAny_loadName_local→WS,seqIndex_of→WW,codeAny_call_builtin→Xg,bindL→Xq,bindC→X4,bindArgs→XN,wpAny_loadName_cell→Yg,wpAny_isSubtype_exc→Yo,wpAny_setItem_heap→ZA,wpAny_rule→za0,wpAny_Name→za1,typeLookup→za2,isInstance→za3,closureFor→za4,wpAny_pyIter_list→za7,wpAny_assign_Name→za8
open PySem.Around renaming under→Mc,under_plainId→Ni,frames_deeper→Nm
open PySem.BindsTo renaming of_defaults→Nb
open PySem.Builtin renaming bitAnd→ç,bitNot→Ľ,bitOr→Ť
open PySem.Builtin.Int renaming intBits→Ó
open PySem.Builtin.List renaming listTooLong→ŗ
open PySem.Builtin.ObjectAttr renaming storeInDict→ŷ,newKeyGuard→Ÿ
open PySem.Builtin.SmallTypes renaming nextOf→đ
open PySem.Calls renaming callWith_builtin→Ż,Name_function_global→Ip,evalArgs_plain→OA
open PySem.Code renaming isFrame→MV,quiet_builtin→R3
open PySem.EntryCells renaming newEntry→Lf
open PySem.F renaming slot_tuple_iterator_next→ĭ,slot_NoneType_hash→ś,args_tuple_iterator_next_1→KY,entry_tuple_iterator_next→Mb,plain_list_iadd→Yq
open PySem.Heap renaming get?_push_of_some→Ο,get?_push_size→ϡ,get?_update_other→Û,get?_update_self→í,get?_update_ne→û,get?_none_of_le→ŕ,SameBut→c0
open PySem.Heap.Ns1 renaming of_empty→O1
open PySem.Heap.SameBut renaming update→Ŷ
open PySem.NameKind renaming free→ė,cell→F4
open PySem.Obj renaming mapSeq→ß,data_mapFields→ð,mapFields→ò,isFreed_of_fields→Ģ,cls_mapFields→Ww
open PySem.PassesOwn renaming never→Ϗ
open PySem.PyData renaming eqv→Ō,depthAll→ź,canLay0→gS,depth→q5,canLayAll0→q7
open PySem.SeqAt renaming EqAt→è,shaped→Ś
open PySem.SeqAt.EqAt renaming str_int→LY,int_str→LZ
open PySem.Str renaming empty→Ţ,ofString→Oc
open PySem.Value renaming ref→ϭ,none→Ú,isInt→Ė,int→Ĝ,builtin→Ŭ,bool→PV,isInt_shape→R1
open PySem.W renaming Frag→ϧ,keepIn→Ϯ,findIn→Ë,mg_none_of→ý,hasDictIn→ī,kitOne→Į,nsIn→ł,plainGet→Œ,plainOver→ř,mg_of→ş,makesIn→kb,codeIn→ri,fnOf→v3,looks_findIn→Ue
open Sum renaming inl→Ñ,inr→nD
open True renaming intro→Ê
open Option renaming some→Α,none→Β
open Bool renaming true→Δ,false→Ε
theorem Ζ{p:Prop}[Decidable p](h:p):decide p=true:=decide_eq_true h
theorem Η{p:Prop}[Decidable p](h:¬p):decide p=false:=decide_eq_false h
theorem Θ{c:Prop}{_:Decidable c}(h:¬c){α:Sort u}{t e:α}:ite c t e=e:=if_neg h
theorem Ι{c:Prop}{_:Decidable c}(h:c){α:Sort u}{t e:α}:ite c t e=t:=if_pos h
theorem Κ{a b:Prop}(h:a)(k:¬a):b:=absurd h k
theorem Λ{α:Sort u}{a:α}:a=a:=rfl
open PySem.W (isFn)
open List (all_map map_id map_nil take_zero)
open Nat (not_lt succ_mul)
open Int (mul_one one_mul)
open PySem.F (args_tuple_add_2 entry_tuple_add plainAttrs_list slot_list_extend slot_tuple_add type_list_extend)
open PySem.Heap (lt_size size_push)
noncomputable section
abbrev L2.zQ0:PySem.Scope:={kind:=.function,names:=[],isGenerator:=Ε,isCoroutine:=Ε}
theorem L2.gQ0{b:Type}{l:List b}{a:b}(h:l[i]?=Α a):i<l.length:=(ϳ.mp h).1
namespace L2
theorem MR{b:Type}{l:List b}(h:l.length=n+1):∃a t,l=a:: t/\t.length=n:=by
 cases l with
 |nil=>cases h
 |cons a t=>exact⟨a,t,Λ,oo h⟩
open PySem PySem.Spec PyProof.Rows
abbrev Key:=Sum Int Str
noncomputable def lr:Key->Τ->Bool
 |.inl k,v=>Ė k v
 |.inr x,v=>Τ.isStrOf x v
noncomputable def V6(w:Î):Key->Int
 |.inl k=>hashInt k
 |.inr x=>hashStr w x
theorem bU:∀{k:Key}{v:Τ},lr k v=Δ->(∃i t,k=Ñ i/\v=Ĝ i t)∨(∃x t,k=nD x/\v=Τ.str x t)
 | .inl i,v,h=>by
  obtain⟨t,e⟩:=R1 (k:=i) (v:=v) h
  exact .inl ⟨i,t,Λ,e⟩
 | .inr x,v,h=>by
  obtain⟨t,e⟩:=Τ.isStrOf_shape (x:=x) (v:=v) h
  exact .inr ⟨x,t,Λ,e⟩
theorem vn(i:Int)(t:Tok):lr (.inl i) (.int i t)=Δ:=by simp[lr,Ė]
theorem vm(x:Str)(t:Tok):lr (.inr x) (.str x t)=Δ:=by simp[lr,Τ.isStrOf]
theorem De(a b:Int):decide ((Ñ a:Key)=Ñ b)=(a == b):=by
 by_cases e:a=b
 ·subst e;simp
 ·have h:¬(Ñ a:Key)=Ñ b:=λq=>e (Ñ.inj q)
  rw[Η h]
  exact(beq_eq_false_iff_ne.mpr e).symm
theorem CZ(a b:Str):decide ((nD a:Key)=nD b)=decide (a=b):=by
 by_cases e:a=b
 ·subst e;simp
 ·have h:¬(nD a:Key)=nD b:=λq=>e (nD.inj q)
  rw[Η h,Η e]
theorem Dd(a:Int)(b:Str):decide ((Ñ a:Key)=nD b)=Ε:=Η (λq=>nomatch q)
theorem Da(a:Str)(b:Int):decide ((nD a:Key)=Ñ b)=Ε:=Η (λq=>nomatch q)
noncomputable def bG(prog:Program)(w:Î):PySem.KeyKind prog w Key where
 is:=lr
 hash:=V6 w
 inj:=λv a b ha hb=>by
  rcases bU ha with ⟨i,t,rfl,rfl⟩|⟨x,t,rfl,rfl⟩
  ·rcases bU hb with ⟨j,u,rfl,e⟩|⟨y,u,rfl,e⟩
   ·injection e with e1 _;rw[e1]
   ·exact nomatch e
  ·rcases bU hb with ⟨j,u,rfl,e⟩|⟨y,u,rfl,e⟩
   ·exact nomatch e
   ·injection e with e1 _;rw[e1]
 byValue:=λk v h=>by
  rcases bU h with ⟨i,t,rfl,rfl⟩|⟨x,t,rfl,rfl⟩<;>rfl
 pyHash:=λhv h=>by
  rcases bU hv with ⟨i,t,rfl,rfl⟩|⟨x,t,rfl,rfl⟩
  ·exact wpAny_pyHash_int h
  ·exact wpAny_pyHash_str h
 eqBool:=λhu hv h=>by
  rcases bU hu with ⟨i,t,rfl,rfl⟩|⟨x,t,rfl,rfl⟩
  ·rcases bU hv with ⟨j,u,rfl,rfl⟩|⟨y,u,rfl,rfl⟩
   ·rw[De]at h;exact Kb h
   ·rw[Dd]at h;exact LZ i t y u _ _ _ _ h
  ·rcases bU hv with ⟨j,u,rfl,rfl⟩|⟨y,u,rfl,rfl⟩
   ·rw[Da]at h;exact LY x t j u _ _ _ _ h
   ·rw[CZ]at h;exact wpAny_eqBool_str h
 «strs»:=λk x t v h=>by
  rcases bU h with ⟨i,u,rfl,e⟩|⟨y,u,rfl,e⟩
  ·exact nomatch e
  ·injection e with e1 _
   subst e1
   cases v<;>rfl
theorem pX(a:Program)(w:Î)(i:Int)(t:Tok):(bG a w).is (.inl i) (.int i t)=Δ:=vn i t
theorem pW(a:Program)(w:Î)(x:Str)(t:Tok):(bG a w).is (.inr x) (.str x t)=Δ:=vm x t
open PySem.Spec PyProof.Rows
inductive V where
 |Eh|bl (b:Bool)|int (i:Int)|str (x:Str)|Jf (b:Array UInt8)|MS (b:UInt64)|ref (a:Ν)|ty (n:String)
 deriving DecidableEq
def RelV:V->Τ->Prop
 |.Eh,u=>u=Ú
 |.bl b,u=>u=PV b
 |.int i,u=>∃t,u=Ĝ i t
 |.str x,u=>∃t,u=Τ.str x t
 |.Jf b,u=>∃t,u=Τ.bytes b t
 |.MS b,u=>∃t,u=Τ.float b t
 |.ref a,u=>u=ϭ a
 |.ty n,u=>u=Τ.type n
abbrev τ:List V->List Τ->Prop:=Paired RelV
theorem τ.length(r:τ xs us):xs.length=us.length:=Paired.length r
theorem τ.get:∀{xs:List V}{us:List Τ}{i:Nat}{x:V},τ xs us->xs[i]?=Α x->∃u,us[i]?=Α u/\RelV x u
 |_,_,_,_,.nil,e=>by simp at e
 |_,_,0,_,.cons r _,e=>by simp at e;subst e;exact⟨_,Λ,r⟩
 | _,_,i+1,x,.cons _ t,e=>by
  obtain⟨u,a,b⟩:=τ.get (i:=i) (x:=x) t (by simpa using e)
  exact⟨u,by simpa using a,b⟩
theorem τ.set(r:RelV x u):∀{xs:List V}{us:List Τ}(i:Nat),τ xs us->τ (xs.set i x) (us.set i u)
 |_,_,_,.nil =>.nil
 |_,_,0,.cons _ t =>.cons r t
 |_,_,i+1,.cons q t =>.cons q (τ.set r i t)
theorem τ.append:∀{xs a:List V}{us b:List Τ},τ xs us->τ a b->τ (xs++a) (us++b)
 |_,_,_,_,.nil,s=>s
 |_,_,_,_,.cons r t,s =>.cons r (τ.append t s)
theorem τ.take:∀{xs:List V}{us:List Τ}(n:Nat),τ xs us->τ (xs.take n) (us.take n)
 |_,_,0,_ =>.nil
 |_,_,_+1,.nil =>.nil
 |_,_,n+1,.cons r t =>.cons r (τ.take n t)
theorem τ.drop:∀{xs:List V}{us:List Τ}(n:Nat),τ xs us->τ (xs.drop n) (us.drop n)
 |_,_,0,r=>r
 |_,_,_+1,.nil =>.nil
 |_,_,n+1,.cons _ t=>τ.drop n t
def EL:Option V->Option Τ->Prop
 |some v,Α u=>RelV v u
 |none,Β=>True
 |_,_=>False
def KV{κ:Type}:List (κ×V)->List (κ×Τ)->Prop:=Paired λ(p:κ×V)(q:κ×Τ)=>p.1=q.1/\RelV p.2 q.2
noncomputable def kV:Key->V
 |.inl i =>.int i
 |.inr x =>.str x
inductive HO where
  |π (xs:List V)
  |tup (xs:List V)
  |dK (kvs:List (Key×V))|dT (kvs:List (List Key×V))
  |set (S:Int->Bool) (n:Nat)
  |ρ (C dx:Ν) (fs:List (Str×V))
  |own (x:Ν)
  |xd (fs:List (Str×V))
  |met (f x:Ν)
  |V7 (lo hi:Int)
  |FZ (o:Obj) (u:HO)
  |Fj (ps:Array Τ)
  |ext (φ:Ü->Prop)
abbrev Hp:=Ν->Option HO
noncomputable def ο(H:Hp)(a:Ν)(o:HO):Hp:=λb=>if b=a then Α o else H b
theorem ac:ο H a o a=Α o:=by unfold ο;rw[Ι Λ]
theorem ag(h:b≠a):ο H a o b=H b:=by unfold ο;rw[Θ h]
theorem aQ{H:Hp}(h:H a=Α o)(c:H b=Α u)(d:o≠u):a≠b:=by
 intro e;subst e;rw[h]at c;exact d (Ϝ c)
theorem ah{H:Hp}(h:H a=Α o)(c:H b=Β):a≠b:=by
 intro e;subst e;rw[h]at c;cases c
def Fp(h:Ü)(a:Ν)(items:Array Τ):Prop:=∃o,h.get? a=Α o/\(o.cls=.type "tuple"/\∃n,o.data=.seq items n)/\o.dict=Β
theorem Fp.isTup:Fp h a items->IsTup h a items:=λb=>by obtain⟨o,e,c,_⟩:=b;exact⟨o,e,c⟩
theorem Fp.new(h:Ü)(a:Array Τ):Fp (h.push {cls:=.type "tuple",data:=.seq a}) h.objs.size a:=⟨_,ϡ _ Λ,⟨Λ,_,Λ⟩,Λ⟩
section
variable (P:Program)(w:Î)
def Ek(H:Hp)(h:Ü)(a:Ν):HO->Prop
 |.π xs=>xs.length<=ό/\∃(DW:List Τ)(n:Nat),τ xs DW/\h.get? a=Α {cls:=.type "list",data:=.seq DW.toArray n}
 |.tup xs=>xs.length<=ό/\∃DW:List Τ,τ xs DW/\Fp h a DW.toArray
 |.dK kvs=>kvs.length<=ό/\(a == ü)=Ε/\∃vs,KV kvs vs/\h.DictOf (bG P w) a vs
 | .dT kvs=>kvs.length<=ό/\(a == ü)=Ε/\∃xs:List (List Key×Ν×Τ),
   Paired (λ(p:List Key×V)(q:List Key×Ν×Τ)=>p.1=q.1/\H q.2.1=Α (.tup (p.1.map kV))/\RelV p.2 q.2.2) kvs xs/\
   ∃o es ep,h.get? a=Α o/\o.ExactDict/\o.data=.dict es ep/\es.toList=xs.map (entryOfKey (Ŋ (bG P w)))/\(xs.map (·.1)).Nodup
 |.set S n=>h.SetOf (intKind P w) a S n
 | .ρ C dx fs=>H dx=Α (.own a)/\fs.length<=1000/\dx≠a/\h.get? a=Α (PySem.W.instObj C dx)/\
   ∃mA,h.Ns1 dx mA/\(∀f,EL (fs.lookup f) (mA f))/\PySem.Within mA (fs.map (·.1))
 |.own _=>∃o,h.get? a=Α o
 |.xd fs=>∃mA,h.Ns1 a mA/\∀f,EL (fs.lookup f) (mA f)
 |.V7 lo hi=>∃t u v,h.get? a=Α {cls:=.type "range",data:=.fields #[.int lo t,.int hi u,.int 1 v]}
 |.FZ o u=>h.get? a=Α o/\Ek H h a u
 |.Fj ps=>h.get? a=Α {cls:=.none,data:=.fields ps}
 |.met f x=>h.get? a=Α (PySem.W.methodObj (.ref f) (.ref x))
 |.ext φ=>φ h/\(∃o,h.get? a=Α o)/\∀h1 h2:Ü,φ h1->(∀o,h1.get? a=Α o->h2.get? a=Α o)->φ h2
def Fx(H:Hp)(h:Ü):Prop:=∀a o,H a=Α o->Ek P w H h a o
end
section
variable {P:Program}{w:Î}{H H':Hp}{h h':Ü}{a:Ν}{o:HO}
theorem Ek.lt(x:Ek P w H h a o):a<h.objs.size:=by
 cases o with
 |π xs=>obtain⟨_,_,_,_,e⟩:=x;exact lt_size e
 |tup xs=>obtain⟨_,_,_,p⟩:=x;exact p.isTup.lt
 |dK b=>obtain⟨_,_,_,_,o,_,_,e,_⟩:=x;exact lt_size e
 |dT b=>obtain⟨_,_,_,_,o,_,_,e,_⟩:=x;exact lt_size e
 |set S n=>obtain⟨o,_,_,_,e,_⟩:=x;exact lt_size e
 |ρ C c fs=>obtain⟨_,_,_,e,_⟩:=x;exact lt_size e
 |own y=>obtain⟨_,e⟩:=x;exact lt_size e
 |xd fs=>obtain⟨_,⟨_,_,_,e,_⟩,_⟩:=x;exact lt_size e
 |V7 d g=>obtain⟨_,_,_,e⟩:=x;exact lt_size e
 |FZ i u=>obtain⟨e,_⟩:=x;exact lt_size e
 |Fj j=>exact lt_size (x)
 |met f y=>exact lt_size (x)
 |ext l=>obtain⟨_,⟨_,e⟩,_⟩:=x;exact lt_size e
theorem Paired.MT:∀{c:List α}{d:List β},Paired F c d->(∀a b,F a b->G a b)->Paired G c d
 |_,_,.nil,_ =>.nil
 |_,_,.cons r t,f =>.cons (f _ _ r) (Paired.MT t f)
theorem Ek.EM(x:Ek P w H h a o)(k:∀b u,(b=a∨H b=Α (.own a))->h.get? b=Α u->h'.get? b=Α u)
  (E:∀b,H b=Α (.own a)->H' b=Α (.own a)) (F:∀b xs,H b=Α (.tup xs)->H' b=Α (.tup xs)):Ek P w H' h' a o:=by
 induction o with
 |π xs=>obtain⟨z,l,n,r,e⟩:=x;exact⟨z,l,n,r,k _ _ (.inl Λ) e⟩
 |tup xs=>obtain⟨z,l,r,g,e,c⟩:=x;exact⟨z,l,r,g,k _ _ (.inl Λ) e,c⟩
 |dK m=>obtain⟨z,y,G,r,g,i,j,e,c⟩:=x;exact⟨z,y,G,r,g,i,j,k _ _ (.inl Λ) e,c⟩
 | dT m =>
  obtain⟨z,y,xs,r,g,i,j,e,c⟩:=x
  exact⟨z,y,_,Paired.MT r λp q z=>⟨z.1,F _ _ z.2.1,z.2.2⟩,g,i,j,k _ _ (.inl Λ) e,c⟩
 |set S n=>obtain⟨g,i,j,t,e,c⟩:=x;exact⟨g,i,j,t,k _ _ (.inl Λ) e,c⟩
 | ρ C K fs =>
  obtain⟨d,z,ne,e,s,⟨A,i,j,I,c⟩,r⟩:=x
  exact⟨E _ d,z,ne,k _ _ (.inl Λ) e,s,⟨A,i,j,k _ _ (.inr d) I,c⟩,r⟩
 |own y=>obtain⟨g,e⟩:=x;exact⟨g,k _ _ (.inl Λ) e⟩
 |xd fs=>obtain⟨s,⟨A,i,j,e,c⟩,r⟩:=x;exact⟨s,⟨A,i,j,k _ _ (.inl Λ) e,c⟩,r⟩
 |V7 L M=>obtain⟨t,u,v,e⟩:=x;exact⟨t,u,v,k _ _ (.inl Λ) e⟩
 |FZ g u J=>obtain⟨e,q⟩:=x;exact⟨k _ _ (.inl Λ) e,J q⟩
 | Fj B =>
  have e:=x
  exact k a _ (.inl Λ) e
 | met f y =>
  have e:=x
  exact k a _ (.inl Λ) e
 |ext N=>obtain⟨p,⟨o,e⟩,D⟩:=x;exact⟨D _ _ p λo q=>k _ _ (.inl Λ) q,⟨o,k _ _ (.inl Λ) e⟩,D⟩
theorem Fx.lt(x:Fx P w H h)(e:H a=Α o):a<h.objs.size:=(x a o e).lt
theorem Fx.fresh(x:Fx P w H h)(e:h.objs.size<=a):H a=Β:=by
 cases q:H a with
 |none=>rfl
 |some u=>exact Κ (ϛ (x.lt q) e) (Ĺ _)
theorem Fx.kept(x:Fx P w H h)(k:∀b u,h.get? b=Α u->h'.get? b=Α u):Fx P w H h':=λa o e =>
 (x a o e).EM (λb u _ q=>k b u q) (λ_ q=>q) λ_ _ q=>q
theorem Fx.laid(x:Fx P w H h)(k:∀b u,h.get? b=Α u->h'.get? b=Α u)(g:h.objs.size<=a)(new:Ek P w (ο H a o) h' a o):Fx P w (ο H a o) h':=λb u e=>by
 have d:=x.fresh g
 by_cases f:b=a
 ·subst f;rw[ac]at e;cases e;exact new
 ·rw[ag f]at e
  exact(x b u e).EM (λc v _ q=>k c v q) (λc q=>by rw[ag (ah q d)];exact q) λc xs q=>by rw[ag (ah q d)];exact q
end
def Rd(H:Hp)(a:Ν)(u:HO):Prop:=H a=Α u∨∃o,H a=Α (.FZ o u)
theorem Rd.ok(r:Rd H a u)(x:Fx P w H h):Ek P w H h a u:=by
 rcases r with r|⟨o,r⟩
 ·exact x a u r
 ·obtain⟨_,q⟩:=x a _ r
  exact q
def Pm:Option HO->Prop
 |some (.π _)=>True
 |some (.dK _)=>True
 |some (.dT _)=>True
 |some (.set _ _)=>True
 |some (.ρ _ _ _)=>True
 |some (.ext _)=>True
 |_=>False
section
variable {P:Program}{w:Î}{H:Hp}{h h':Ü}{x e:Ν}{o':HO}
theorem Fx.write(ok:Fx P w H h)(a:Pm (H x))(i:e=x∨H e=Α (.own x))(k:∀b u,b≠e->h.get? b=Α u->h'.get? b=Α u)(m:∃u,h'.get? e=Α u)
  (new:Ek P w (ο H x o') h' x o'):Fx P w (ο H x o') h':=λb u q=>by
 have j:∀c y,H c=Α (.own y)->c≠x:=λc y r z=>by subst z;rw[r]at a;exact a
 have n:∀c xs,H c=Α (.tup xs)->c≠x:=λc xs r z=>by subst z;rw[r]at a;exact a
 by_cases d:b=x
 ·subst d;rw[ac]at q;cases q;exact new
 ·rw[ag d]at q
  by_cases f:b=e
  ·have l:H b=Α (.own x):=by
    rcases i with z|z
    ·exact Κ (f.trans z) d
    ·rw[f];exact z
   rw[q]at l;cases l
   obtain⟨v,o⟩:=m
   exact⟨v,by rw[f];exact o⟩
  ·refine(ok b u q).EM (λc v g r=>k c v ?_ r) (λc r=>by rw[ag (j c b r)];exact r) λc xs r=>by rw[ag (n c xs r)];exact r
   rcases g with rfl|g
   ·exact f
   ·rintro rfl
    rcases i with z|z
    ·exact j c b g z
    ·rw[g]at z;cases z;exact d Λ
end
structure Un(fs ex:List Ν)(H H':Hp)(h h':Ü):Prop where
 keep:∀b o,h.get? b=Α o->H b=Β->b∉fs->b∉ex->h'.get? b=Α o
 slot:∀b o,h.get? b=Α o->H b=Β->b∈fs->b∉ex->∃sl,h'.get? b=Α {o with slots:=sl}
 free:∀b o,h.get? b=Α o->H b=Β->b∉ex->H' b=Β
 there:∀b o,h.get? b=Α o->b∉ex->∃o',h'.get? b=Α o'
 FN:∀b xs,H b=Α (.tup xs)->H' b=Α (.tup xs)
 FE:∀b o u,H b=Α (.FZ o u)->H' b=Α (.FZ o u)
 FF:∀b ps,H b=Α (.Fj ps)->∃more,H' b=Α (.Fj (ps++more))
section
variable {fs GD ex O2:List Ν}{H H1 H2:Hp}{h h1 h2 h':Ü}{a x e:Ν}{o:HO}
theorem Un.any(u:Un fs ex H H1 h h1)(q:h.get? b=Α ob)(n:H b=Β)(d:b∉ex):∃g,h1.get? b=Α {ob with slots:=g}:=by
 by_cases f:b∈fs
 ·exact u.slot b ob q n f d
 ·exact⟨_,u.keep b ob q n f d⟩
theorem Un.kept(k:∀b u,h.get? b=Α u->h'.get? b=Α u):Un fs ex H H h h':=
 ⟨λb c q _ _ _=>k b c q,λb c q _ _ _=>⟨c.slots,k b c q⟩,λ_ _ _ n _=>n,λb c q _=>⟨c,k b c q⟩,λ_ _ q=>q,λ_ _ _ q=>q,λ_ d q=>⟨#[],by rw[q];simp⟩⟩
theorem Un.refl:Un fs ex H H h h:=Un.kept λ_ _ q=>q
theorem Un.laid(k:∀b u,h.get? b=Α u->h'.get? b=Α u)(d:h.objs.size<=a)(c:H a=Β):Un fs ex H (ο H a o) h h' where
 keep:=λb u q _ _ _=>k b u q
 slot:=λb u q _ _ _=>⟨u.slots,k b u q⟩
 free:=λb u q n _=>by rw[ag (Ã (ϛ (lt_size q) d))];exact n
 there:=λb u q _=>⟨u,k b u q⟩
 FN:=λb xs q=>by rw[ag (ah q c)];exact q
 FE:=λb u xs q=>by rw[ag (ah q c)];exact q
 FF:=λb f q=>⟨#[],by rw[ag (ah q c),q];simp⟩
theorem Un.write(c:Pm (H x))(j:e=x∨H e=Α (.own x))(k:∀b u,b≠e->h.get? b=Α u->h'.get? b=Α u)(l:∃u,h'.get? e=Α u):Un fs ex H (ο H x o) h h':=by
 have f:∀b,H b=Β->b≠x:=λb n z=>by subst z;rw[n]at c;exact c
 have g:∀b,H b=Β->b≠e:=λb n z=>by
  subst z
  rcases j with r|r
  ·exact f b n r
  ·rw[n]at r;cases r
 have d:∀b u,H b=Α u->¬Pm (Α u)->b≠x:=λb u q m z=>by subst z;rw[q]at c;exact m c
 refine⟨λb u q n _ _=>k b u (g b n) q,λb u q n _ _=>⟨u.slots,k b u (g b n) q⟩,λb u q n _=>by rw[ag (f b n)];exact n,λb u q _=>?_,
  λb xs q=>by rw[ag (d b _ q λz=>z)];exact q,λb u xs q=>by rw[ag (d b _ q λz=>z)];exact q,λb p q=>⟨#[],by rw[ag (d b _ q λz=>z),q];simp⟩⟩
 by_cases i:b=e
 ·subst i;exact l
 ·exact⟨u,k b u i q⟩
end
noncomputable def Tw(h:Ü)(H:Hp):List Ν:=(ϋ h.objs.size).filter λa=>(H a).isSome
noncomputable def lP(h:Ü)(H:Hp):Ü:=PySem.W.hideAll h (Tw h H)
theorem vq(h:Ü)(H:Hp):(lP h H).objs.size=h.objs.size:=PySem.W.hideAll_size _ _
theorem yq(e:h.get? b=Α o)(n:H b=Β):(lP h H).get? b=Α o:=
 PySem.W.hideAll_get _ e λa=>by
  have q:=(ϩ.mp a).2
  rw[n]at q;simp at q
theorem Ah(e:(lP h H).get? b=Α o):h.get? b=Α o/\H b=Β:=by
 have a:=PySem.W.of_hideAll (Tw h H) e
 refine⟨a,?_⟩
 cases q:H b with
 |none=>rfl
 | some x =>
  have c:b∈Tw h H:=ϩ.mpr ⟨È.mpr (lt_size a),by simp[q]⟩
  have z:(lP h H).get? b=Β:=PySem.W.hideAll_none (Tw h H) c
  rw[z]at e;cases e
structure Mod(K:ϧ)(mg:Str->Option Τ)(μ:Ü):Prop where
 HZ:K.In μ
 glob:μ.Ns Ϥ mg
 blt:∃mb,μ.Ns builtinsNs mb/\∀x:Str,x≠ "__name__"->mb x=i1 x
 nolimit:μ.NoLimit
structure Cx where
 prog:Program
 w:Î
 K:ϧ
 mg:Str->Option Τ
 μ:Ü
 A:Ø
 N:List Str
 s₀:Ψ
 H₀:Hp
 env:Env
 outer:List Env
 stack:List Env
 ex:List Ν
 fn:Str->Bool
 calm:Bool
 pn:List (Ν×Obj)
 xe:Τ->Ψ->Prop
noncomputable def ki(l:List Env):List Ν:=l.filterMap (·.frame)
abbrev Cx.fs(X:Cx):List Ν:=ki X.outer
def Tx(sc:Scope)(x:Str):Prop:=sc.names.lookup x=Α .local∨sc.names.lookup x=Α .cell∨sc.names.lookup x=Α .free
def Loc(sc:Scope)(x:Str):Prop:=sc.names.lookup x=Α .local∨sc.names.lookup x=Α .cell
def Look(env:Env)(h:Ü)(m:Str->Option Τ)(x:Str)(u:Τ):Prop:=
 (env.kindOf x=Α .local/\m x=Α u)∨((env.kindOf x=Α .cell∨env.kindOf x=Α .free)/\∃c,env.cells.lookup x=Α c/\h.IsCell c (Α u))
structure Cx.Ok(X:Cx):Prop where
 mod:Mod X.K X.mg X.μ
 kind:X.env.scope.kind=.function
 glob:X.env.globals=Ϥ
 blt:X.env.builtins=builtinsNs
 above:X.s₀.heap.objs.size<=X.env.locals
 inj:∀x y c,X.env.cells.lookup x=Α c->X.env.cells.lookup y=Α c->x=y
 has:∀x,(X.env.kindOf x=Α .cell∨X.env.kindOf x=Α .free)->∃c,X.env.cells.lookup x=Α c
 KU:∀x c,X.fn x=Δ->X.env.cells.lookup x=Α c->X.s₀.heap.objs.size<=c
 hd:X.calm=Δ->X.A.handled=Β
 frames:X.A.frames=Α X.stack
 MU:X.stack=X.outer∨(X.stack=X.env:: X.outer/\X.env.frame=Α X.env.locals)
 Po:∀b∈X.ex,b≠X.env.locals/\∀x c,X.env.cells.lookup x=Α c->c≠b
 bs:∀b o,X.μ.get? b=Α o->X.s₀.heap.get? b=Α o/\X.H₀ b=Β
 Jh:X.μ.objs.size<=X.s₀.heap.objs.size
 Ia:∀b o,X.μ.get? b=Α o->b∉X.ex
 IK:∀b∈X.ex,b∉X.fs
 Fb:X.s₀.heap.FunFrames X.μ X.outer
 JG:∀b∈X.fs,X.H₀ b=Β
structure ς(X:Cx)(ν:List (Ν×Obj))(σ:List (Option V))(H:Hp)(s:Ψ):Prop where
 ok:X.Ok
 os:s.os=X.s₀.os
 bare:c1 s.gens
 μ:Un X.fs X.ex X.H₀ H X.s₀.heap s.heap
 loc:∃m,s.heap.Ns X.env.locals m/\∀(i:Nat)(x:Str)(v:V),X.N[i]?=Α x->σ[i]?=Α (Α v)->Tx X.env.scope x->∃u,RelV v u/\Look X.env s.heap m x u
 cell:∀x c,X.env.cells.lookup x=Α c->∃v,s.heap.IsCell c v
 free:H X.env.locals=Β
 Ew:∀x c,X.env.cells.lookup x=Α c->H c=Β
 pin:∀p∈X.pn++ν,s.heap.get? p.1=Α p.2/\H p.1=Β/\p.1≠X.env.locals/\p.1∉X.fs/\∀v,p.2.data≠.cell v
 DY:Fx X.prog X.w H s.heap
 len:σ.length=X.N.length
section
variable {X:Cx}{ν:List (Ν×Obj)}{σ:List (Option V)}{H H':Hp}{s:Ψ}{h':Ü}
theorem Cx.Ok.V9(ok:X.Ok)(e:X.μ.get? b=Α o):b∉X.fs:=λa=>by
 have:=(ok.Fb.mem a).1
 rw[e]at this;cases this
theorem ς.bs(I:ς X ν σ H s):∀b o,X.μ.get? b=Α o->s.heap.get? b=Α o/\H b=Β:=λb o e =>
 ⟨I.μ.keep b o (I.ok.bs b o e).1 (I.ok.bs b o e).2 (I.ok.V9 e) (I.ok.Ia b o e),I.μ.free b o (I.ok.bs b o e).1 (I.ok.bs b o e).2 (I.ok.Ia b o e)⟩
theorem ς.bk(I:ς X ν σ H s):∀b o,X.μ.get? b=Α o->s.heap.get? b=Α o:=λb o e=>(I.bs b o e).1
theorem ς.mod(I:ς X ν σ H s):Mod X.K X.mg X.μ:=I.ok.mod
theorem ς.EY(I:ς X ν σ H s):X.K.In s.heap:=I.ok.mod.HZ.keeps I.bk
theorem ς.lt(I:ς X ν σ H s):X.env.locals<s.heap.objs.size:=let ⟨_,hn,_⟩:=I.loc;hn.lt
theorem ς.sz(I:ς X ν σ H s):X.s₀.heap.objs.size<=s.heap.objs.size:=À I.ok.above (ê I.lt)
theorem ς.KW(I:ς X ν σ H s){a:Ν}(h:s.heap.objs.size<=a):a∉X.fs:=λb=>by
 obtain⟨_,o,c,_⟩:=I.ok.Fb.mem b
 exact Κ (ϛ (lt_size c) (À I.sz h)) (Ĺ _)
theorem ς.Ji(I:ς X ν σ H s):∀x c,X.env.cells.lookup x=Α c->c≠X.env.locals:=λx c e z=>by
 obtain⟨v,o,a,b⟩:=I.cell x c e
 obtain⟨m,⟨g,h,i,d,f,_⟩,_⟩:=I.loc
 rw[z,d]at a;cases a;rw[f]at b;cases b
theorem ς.Fb(I:ς X ν σ H s):s.heap.FunFrames X.μ X.outer:=by
 have all:∀(l:List Env),(∀b∈ki l,b∈X.fs)->X.s₀.heap.FunFrames X.μ l->s.heap.FunFrames X.μ l:=by
  intro l
  induction l with
  |nil=>intro _ _;trivial
  | cons g r h =>
   intro f i
   obtain⟨j,⟨L,o,a,m,n,p⟩,q⟩:=i
   have c:=f L (by unfold ki;rw[ŵ,a];exact ώ)
   obtain⟨t,e⟩:=I.μ.slot L o n (I.ok.JG L c) c λz=>I.ok.IK L z c
   exact⟨j,⟨L,_,a,m,e,p⟩,h (λb d=>f b (by unfold ki;rw[ŵ,a];exact ϟ _ d)) q⟩
 exact all X.outer (λ_ d=>d) I.ok.Fb
theorem ς.stack(I:ς X ν σ H s):s.heap.FunFrames X.μ X.stack:=by
 rcases I.ok.MU with e|⟨e,a⟩
 ·rw[e];exact I.Fb
 ·rw[e]
  obtain⟨m,b,_⟩:=I.loc
  refine .cons (by rw[I.ok.kind];decide) a b ?_ I.Fb
  exact ŕ (À I.ok.Jh I.ok.above)
theorem ς.Fq(I:ς X ν σ H s):∀b∈ki X.stack,b∈X.env.locals:: X.fs:=λb a=>by
 rcases I.ok.MU with e|⟨e,c⟩
 ·rw[e]at a;exact ϟ _ a
 ·rw[e]at a
  unfold ki at a
  rw[ŵ,c]at a
  exact a
theorem ς.G8(I:ς X ν σ H s):∀b∈ki X.stack,H b=Β:=λb a=>by
 rcases ϥ.mp (I.Fq b a) with e|a
 ·rw[e];exact I.free
 ·obtain⟨_,o,c,_⟩:=I.ok.Fb.mem a
  exact I.μ.free b o c (I.ok.JG b a) λz=>I.ok.IK b z a
theorem ς.step{ch:List Ν}(I:ς X ν σ H s)
  (A:∀b∈ch,(b∈X.ex∨X.s₀.heap.objs.size<=b)/\b≠X.env.locals/\(∀x c,X.env.cells.lookup x=Α c->c≠b)/\∀p∈X.pn++ν,p.1≠b)
  (keep:∀b o,b≠X.env.locals->b∉X.fs->b∉ch->s.heap.get? b=Α o->H b=Β->h'.get? b=Α o)
  (h:∀b o,b≠X.env.locals->b∈X.fs->b∉ch->s.heap.get? b=Α o->H b=Β->∃J,h'.get? b=Α {o with slots:=J}) (free:∀b o,b∉ch->s.heap.get? b=Α o->H b=Β->H' b=Β)
  (j:∀b o,b∉ch->s.heap.get? b=Α o->∃B,h'.get? b=Α B)
  (R:∀b xs,H b=Α (.tup xs)->H' b=Α (.tup xs)) (S:∀b o u,H b=Α (.FZ o u)->H' b=Α (.FZ o u)) (T:∀b F,H b=Α (.Fj F)->∃more,H' b=Α (.Fj (F++more)))
  (U:∀m,s.heap.Ns X.env.locals m->h'.Ns X.env.locals m) (Y:Fx X.prog X.w H' h') (Z:c1 g'):
  ς X ν σ H' {s with heap:=h',gens:=g',drawn:=d',toks:=t'}:=by
 have C:∀b o,X.s₀.heap.get? b=Α o->b≠X.env.locals:=λb o e=>Ã (ϛ (lt_size e) I.ok.above)
 have G:∀b o,X.s₀.heap.get? b=Α o->b∉X.ex->b∉ch:=λb o e a t=>by
  rcases (A b t).1 with z|z
  ·exact a z
  ·exact Κ (ϛ (lt_size e) z) (Ĺ _)
 have f:∀x c,X.env.cells.lookup x=Α c->∀v,s.heap.IsCell c v->h'.IsCell c v:=λx c e v ⟨o,y,L⟩=>by
  have D:=λz=>(A c z).2.2.1 x c e Λ
  by_cases O:c∈X.fs
  ·obtain⟨J,q⟩:=h c o (I.Ji x c e) O D y (I.Ew x c e)
   exact⟨_,q,L⟩
  ·exact⟨o,keep c o (I.Ji x c e) O D y (I.Ew x c e),L⟩
 refine⟨I.ok,I.os,Z,⟨λb o e n t a=>?_,λb o e n t a=>?_,λb o e n a=>?_,λb o e a=>?_,λb xs e=>R b xs (I.μ.FN b xs e),λb o xs e=>S b o xs (I.μ.FE b o xs e),λb F e=>?_⟩,?_,λx c e=>?_,?_,λx c e=>?_,λp P=>?_,Y,I.len⟩
 ·exact keep b o (C b o e) t (G b o e a) (I.μ.keep b o e n t a) (I.μ.free b o e n a)
 ·obtain⟨J,g⟩:=I.μ.slot b o e n t a
  obtain⟨M,E⟩:=h b _ (C b o e) t (G b o e a) g (I.μ.free b o e n a)
  exact⟨M,E⟩
 ·obtain⟨B,g⟩:=I.μ.there b o e a
  exact free b B (G b o e a) g (I.μ.free b o e n a)
 ·obtain⟨B,g⟩:=I.μ.there b o e a
  exact j b B (G b o e a) g
 ·obtain⟨m1,g⟩:=I.μ.FF b F e
  obtain⟨m2,E⟩:=T b _ g
  exact⟨_,by rw[E,Array.append_assoc]⟩
 ·obtain⟨m,hn,hl⟩:=I.loc
  refine⟨m,U m hn,λi x v g E e3=>?_⟩
  obtain⟨u,r,l⟩:=hl i x v g E e3
  refine⟨u,r,?_⟩
  rcases l with l|⟨k,c,e,z⟩
  ·exact .inl l
  ·exact .inr ⟨k,c,e,f x c e _ z⟩
 ·obtain⟨v,z⟩:=I.cell x c e
  exact⟨v,f x c e v z⟩
 ·obtain⟨m,⟨o,_,_,y,_⟩,_⟩:=I.loc
  exact free _ o (λz=>(A _ z).2.1 Λ) y I.free
 ·obtain⟨v,o,y,L⟩:=I.cell x c e
  exact free c o (λz=>(A c z).2.2.1 x c e Λ) y (I.Ew x c e)
 ·obtain⟨e,n,ne,Q,d⟩:=I.pin p P
  have D:=λz=>(A p.1 z).2.2.2 p P Λ
  exact⟨keep p.1 p.2 ne Q D e n,free p.1 p.2 D e n,ne,Q,d⟩
theorem ς.un(I:ς X ν σ H s)(u:Un X.fs [] H H' s.heap h')(g:Fx X.prog X.w H' h'):ς X ν σ H' {s with heap:=h',toks:=t'}:=by
 obtain⟨m,⟨o,q,t,d,r⟩,_⟩:=id I.loc
 obtain⟨v,h⟩:=u.any d I.free (by simp)
 exact I.step (g':=s.gens) (d':=s.drawn) (ch:=[]) (λ_ z=>nomatch z) (λb o _ a _ e n=>u.keep b o e n a (by simp)) (λb o _ a _ e n=>u.slot b o e n a (by simp)) (λb o _ e n=>u.free b o e n (by simp)) (λb o _ e=>u.there b o e (by simp)) u.FN u.FE u.FF (λx i=>by
  obtain⟨y,j,l,f,p⟩:=i
  rw[d]at f;cases f
  exact⟨_,j,l,h,p⟩) g I.bare
theorem ς.call(I:ς X ν σ H s)(u:Un (ki X.stack) ch H H' s.heap h')(j:Fx X.prog X.w H' h')(l:c1 g')
  (f:∀b∈ch,(b∈X.ex∨X.s₀.heap.objs.size<=b)/\b≠X.env.locals/\(∀x c,X.env.cells.lookup x=Α c->c≠b)/\∀p∈X.pn++ν,p.1≠b):
  ς X ν σ H' {s with heap:=h',gens:=g',drawn:=d',toks:=t'}:=by
 obtain⟨m,⟨o,B,C,h,r⟩,_⟩:=id I.loc
 obtain⟨D,d⟩:=u.any h I.free λz=>(f _ z).2.1 Λ
 exact I.step (ch:=ch) f (λb o d q a e n=>u.keep b o e n (λz=>(ϥ.mp (I.Fq b z)).elim d q) a) (λb o _ _ a e n=>u.any e n a) (λb o a e n=>u.free b o e n a) (λb o a e=>u.there b o e a) u.FN u.FE u.FF (λE t=>by
  obtain⟨F,v,y,i,A⟩:=t
  rw[h]at i;cases i
  exact⟨_,v,y,d,A⟩) j l
theorem ς.turned(I:ς X ν σ H s)(k:∀b o,b≠it->s.heap.get? b=Α o->h'.get? b=Α o)(h:H it=Β)(f:it≠X.env.locals)
  (i:it∈X.ex∨X.s₀.heap.objs.size<=it) (j:∀x c,X.env.cells.lookup x=Α c->c≠it) (l:∀p∈X.pn++ν,p.1≠it):ς X ν σ H {s with heap:=h',toks:=t'}:=by
 have d:∀b u,H b=Α u->b≠it:=λb u e z=>by rw[z,h]at e;cases e
 refine I.step (g':=s.gens) (d':=s.drawn) (ch:=[it]) (λb t=>?_) (λb o _ _ a e _=>k b o (λz=>a (by simp[z])) e) (λb o _ _ a e _=>⟨o.slots,k b o (λz=>a (by simp[z])) e⟩) (λ_ _ _ _ n=>n)
  (λb o a e=>⟨o,k b o (λz=>a (by simp[z])) e⟩) (λ_ _ e=>e) (λ_ _ _ e=>e) (λb C e=>⟨#[],by rw[e];simp⟩) (λm w=>?_) (λb u e=>?_) I.bare
 ·have e:b=it:=by simpa using t
  subst e
  exact⟨i,f,j,l⟩
 ·obtain⟨o,y,A,B,r⟩:=w
  exact⟨o,y,A,k _ o (Ϟ f) B,r⟩
 ·refine(I.DY b u e).EM (λc v a q=>k c v ?_ q) (λ_ q=>q) λ_ _ q=>q
  rcases a with z|z
  ·rw[z];exact d b u e
  ·exact d c _ z
theorem ς.tok(I:ς X ν σ H s)(t:Nat):ς X ν σ H {s with toks:=t}:=I.un (h':=s.heap) (t':=t) Un.refl I.DY
theorem ς.kept(I:ς X ν σ H s)(k:∀b u,s.heap.get? b=Α u->h'.get? b=Α u):ς X ν σ H {s with heap:=h',toks:=t'}:=I.un (Un.kept k) (I.DY.kept k)
theorem ς.laid{a:Ν}(I:ς X ν σ H s)(k:∀b u,s.heap.get? b=Α u->h'.get? b=Α u)(c:s.heap.objs.size<=a)(new:Ek X.prog X.w (ο H a o) h' a o):
  ς X ν σ (ο H a o) {s with heap:=h',toks:=t'}:=I.un (Un.laid k c (I.DY.fresh c)) (I.DY.laid k c new)
theorem ς.write(I:ς X ν σ H s)(a:Pm (H x))(c:e=x∨H e=Α (.own x))(k:∀b u,b≠e->s.heap.get? b=Α u->h'.get? b=Α u)(d:∃u,h'.get? e=Α u)
  (new:Ek X.prog X.w (ο H x o) h' x o):ς X ν σ (ο H x o) {s with heap:=h',toks:=t'}:=I.un (Un.write a c k d) (I.DY.write a c k d new)
theorem ς.E6(I:ς X ν σ H s)(h:∀p∈pins',s.heap.get? p.1=Α p.2/\H p.1=Β/\p.1≠X.env.locals/\p.1∉X.fs/\∀v,p.2.data≠.cell v):ς X pins' σ H s:=
 ⟨I.ok,I.os,I.bare,I.μ,I.loc,I.cell,I.free,I.Ew,λp a=>(ϯ.mp a).elim (λz=>I.pin p (Í _ z)) (h p),I.DY,I.len⟩
theorem c9{N:List Str}(c:N.Nodup){i j:Nat}(a:N[i]?=Α x)(b:N[j]?=Α x):i=j:=by
 obtain⟨f,d⟩:=ϳ.mp a
 obtain⟨g,e⟩:=ϳ.mp b
 exact(List.getElem_inj c).mp (d.trans e.symm)
theorem lY(I:ς X ν σ H s)(hN:X.N.Nodup)(J:X.N[i]?=Α x)(B:Loc X.env.scope x)(r:RelV v u)
  (h:∀P,ς X ν (σ.set i (Α v)) H P->(∃a,c0 a s.heap P.heap/\(a=X.env.locals∨X.env.cells.lookup x=Α a))->Q () P) (hf:autoParam (X.fn x=Δ∨X.env.scope.names.lookup x=Α .local) ζ):ϣ M A (storeName X.env x u) Q E s:=by
 obtain⟨m,R,hl⟩:=id I.loc
 have MW:(X.env.scope.kind == .class||(X.env.scope.kind == .module&& X.env.locals != X.env.globals))=Ε:=by rw[I.ok.kind];rfl
 have Pq:i<σ.length:=by rw[I.len];exact(gQ0 J)
 have Ji:=I.Ji
 have g:∀{a:Ν}{h':Ü},(∃o,s.heap.get? a=Α o/\H a=Β)->c0 a s.heap h'->Fx X.prog X.w H h':=λ{a h'} ha f b ob e=>by
  obtain⟨_,_,LU⟩:=ha
  refine(I.DY b ob e).EM (λc L t q=>(f.2 c ?_).trans q) (λ_ q=>q) λ_ _ q=>q
  rintro rfl
  rcases t with rfl|t
  ·rw[LU]at e;cases e
  ·rw[LU]at t;cases t
 rcases B with D|D
 ·refine wpAny_storeName_local D R (λh' IL f=>?_) MW
  obtain⟨oL,_,_,MX,_⟩:=id R
  refine h _ ⟨I.ok,I.os,I.bare,⟨λb o e n F B=>?_,λb o e n F B=>?_,I.μ.free,λb o e B=>?_,I.μ.FN,I.μ.FE,I.μ.FF⟩,⟨_,IL,λj y S l C T=>?_⟩,λy c e=>?_,I.free,I.Ew,λp U=>?_,g ⟨oL,MX,I.free⟩ f,by simpa using I.len⟩ ⟨_,f,.inl Λ⟩
  ·exact(f.2 b (Ã (ϛ (lt_size e) I.ok.above))).trans (I.μ.keep b o e n F B)
  ·obtain⟨Y,l⟩:=I.μ.slot b o e n F B
   exact⟨Y,(f.2 b (Ã (ϛ (lt_size e) I.ok.above))).trans l⟩
  ·obtain⟨Z,l⟩:=I.μ.there b o e B
   exact⟨Z,(f.2 b (Ã (ϛ (lt_size e) I.ok.above))).trans l⟩
  ·by_cases G:j=i
   ·subst G
    rw[J]at l;cases l
    rw[ę Pq]at C
    cases C
    exact⟨u,r,.inl ⟨D,by simp⟩⟩
   ·rw[à (Ϟ G)]at C
    obtain⟨u',r',q⟩:=hl j y S l C T
    refine⟨_,r',?_⟩
    rcases q with ⟨k,e⟩|⟨k,c,e,z⟩
    ·refine .inl ⟨k,?_⟩
     have:y≠x:=λe=>G (c9 hN l (e▸J))
     simp[this,e]
    ·exact .inr ⟨k,c,e,z.sameBut f (Ji y c e)⟩
  ·obtain⟨L,z⟩:=I.cell y c e
   exact⟨L,z.sameBut f (Ji y c e)⟩
  ·obtain⟨e,n,ne,nf,d⟩:=I.pin p U
   exact⟨(f.2 p.1 ne).trans e,n,ne,nf,d⟩
 ·have VB:X.fn x=Δ:=by
   rcases hf with z|z
   ·exact z
   ·rw[z]at D;cases D
  obtain⟨c,t⟩:=I.ok.has x (.inl D)
  obtain⟨L,z⟩:=I.cell x c t
  refine wpAny_storeName_cell I.ok.kind D t z (λh' K4 f=>?_)
  obtain⟨oc,T2,VC⟩:=id z
  refine h {s with heap:=h'} ⟨I.ok,I.os,I.bare,⟨λb o e n F B=>?_,λb o e n F B=>?_,I.μ.free,λb o e B=>?_,I.μ.FN,I.μ.FE,I.μ.FF⟩,⟨m,R.sameBut f (Ϟ (Ji x c t)),λj y S l C T=>?_⟩,λy O e=>?_,I.free,I.Ew,λp U=>?_,g ⟨oc,T2,I.Ew x c t⟩ f,by simpa using I.len⟩ ⟨c,f,.inr t⟩
  ·exact(f.2 b (Ã (ϛ (lt_size e) (I.ok.KU x c VB t)))).trans (I.μ.keep b o e n F B)
  ·obtain⟨Y,l⟩:=I.μ.slot b o e n F B
   exact⟨Y,(f.2 b (Ã (ϛ (lt_size e) (I.ok.KU x c VB t)))).trans l⟩
  ·obtain⟨Z,l⟩:=I.μ.there b o e B
   exact⟨Z,(f.2 b (Ã (ϛ (lt_size e) (I.ok.KU x c VB t)))).trans l⟩
  ·by_cases G:j=i
   ·subst G
    rw[J]at l;cases l
    rw[ę Pq]at C
    cases C
    exact⟨u,r,.inr ⟨.inl D,c,t,K4⟩⟩
   ·rw[à (Ϟ G)]at C
    obtain⟨u',r',q⟩:=hl j y S l C T
    refine⟨_,r',?_⟩
    rcases q with q|⟨k,O,e,z'⟩
    ·exact .inl q
    ·refine .inr ⟨k,O,e,z'.sameBut f ?_⟩
     rintro rfl
     exact G (c9 hN l (I.ok.inj _ _ _ e t▸J))
  ·by_cases K:O=c
   ·subst K;exact⟨_,K4⟩
   ·obtain⟨w2,z2⟩:=I.cell y O e
    exact⟨_,z2.sameBut f K⟩
  ·obtain⟨e,n,ne,nf,d⟩:=I.pin p U
   refine⟨(f.2 p.1 ?_).trans e,n,ne,nf,d⟩
   intro q
   rw[q,T2]at e
   have q':=Ϝ e
   exact d L (by rw[←q'];exact VC)
theorem iL(I:ς X ν σ H s)(b:X.N.Nodup)(c:X.N[i]?=Α x)(d:Loc X.env.scope x)(r:RelV v u)
  (h:∀a,ς X ν (σ.set i (Α v)) H a->Q () a) (e:autoParam (X.fn x=Δ∨X.env.scope.names.lookup x=Α .local) ζ):ϣ M A (storeName X.env x u) Q E s:=
 lY I b c d r (λa f _=>h a f) e
theorem ς.LV(I:ς X ν σ H s)(g:s'.os=s.os)(u:Un (ki X.stack) ch H H' s.heap s'.heap)(h:Fx X.prog X.w H' s'.heap)(i:c1 s'.gens)
  (j:∀b∈ch,(b∈X.ex∨X.s₀.heap.objs.size<=b)/\b≠X.env.locals/\(∀x c,X.env.cells.lookup x=Α c->c≠b)/\∀p∈X.pn++ν,p.1≠b):ς X ν σ H' s':=by
 obtain⟨h',g',d',t',l⟩:=s'
 have e:=g
 subst e
 exact I.call (g':=g') (t':=t') (d':=d') u h i j
end
abbrev XK:=Τ->Option Ν->Hp->Prop
abbrev St:=List (Option V)
abbrev VK:=V->Hp->Prop
abbrev TE:=St->Hp->VK->Prop
abbrev TT:=St->Hp->(Bool->Hp->Prop)->Prop
abbrev TA:=St->Hp->(List V->Hp->Prop)->Prop
structure eV where
 nx:St->Hp->Prop
 rt:VK
 bk:St->Hp->Prop:=λ_ _=>False
 ct:St->Hp->Prop:=λ_ _=>False
abbrev TS:=eV->St->Hp->Prop
def EP(X:Cx)(ν:List (Ν×Obj))(σ:St)(Q:VK)(u:Τ)(s':Ψ):Prop:=∃v H',ς X ν σ H' s'/\RelV v u/\Q v H'
def TP(X:Cx)(ν:List (Ν×Obj))(σ:St)(Q:Bool->Hp->Prop)(b:Bool)(s':Ψ):Prop:=∃H',ς X ν σ H' s'/\Q b H'
def AP(X:Cx)(ν:List (Ν×Obj))(σ:St)(Q:List V->Hp->Prop)(us:List Τ)(s':Ψ):Prop:=∃vs H',ς X ν σ H' s'/\τ vs us/\Q vs H'
def SP(X:Cx)(ν:List (Ν×Obj))(D:eV)(f:Flow)(s':Ψ):Prop:=
 match f with
 |.next=>∃σ' H',ς X ν σ' H' s'/\D.nx σ' H'
 |.brk=>∃σ' H',ς X ν σ' H' s'/\D.bk σ' H'
 |.cont=>∃σ' H',ς X ν σ' H' s'/\D.ct σ' H'
 |.ret u=>∃v σ' H',ς X ν σ' H' s'/\RelV v u/\D.rt v H'
def PE(X:Cx)(e:Expr)(t:TE):Prop:=
 ∀(ν:List (Ν×Obj))(s:Ψ)(σ:St)(H:Hp)(Q:VK),ς X ν σ H s->t σ H Q->ϣ (Ϣ X.prog X.w) X.A (eval e X.env) (EP X ν σ Q) X.xe s
def PT(X:Cx)(e:Expr)(t:TT):Prop:=
 ∀(ν:List (Ν×Obj))(s:Ψ)(σ:St)(H:Hp)(Q:Bool->Hp->Prop),ς X ν σ H s->t σ H Q->ϣ (Ϣ X.prog X.w) X.A (isTrue e X.env (eval e X.env)) (TP X ν σ Q) X.xe s
def PW(X:Cx)(e:Expr)(t:TT):Prop:=
 ∀(whole:Sem Τ)(ν:List (Ν×Obj))(s:Ψ)(σ:St)(H:Hp)(Q:Bool->Hp->Prop),ς X ν σ H s->t σ H Q->ϣ (Ϣ X.prog X.w) X.A (isTrue e X.env whole) (TP X ν σ Q) X.xe s
theorem PW.pt(h:PW X e t):PT X e t:=h _
def PA(X:Cx)(es:List Expr)(t:TA):Prop:=
 ∀(pos:Pos)(ν:List (Ν×Obj))(s:Ψ)(σ:St)(H:Hp)(Q:List V->Hp->Prop),ς X ν σ H s->t σ H Q->ϣ (Ϣ X.prog X.w) X.A (spliced (Đ pos (Á es X.env))) (AP X ν σ Q) X.xe s
def PS(X:Cx)(st:Ç)(t:TS):Prop:=
 ∀(ν:List (Ν×Obj))(s:Ψ)(σ:St)(H:Hp)(D:eV),ς X ν σ H s->t D σ H->ϣ (Ϣ X.prog X.w) X.A (exec st X.env) (SP X ν D) X.xe s
def GF(X:Cx)(st:List Ç)(t:TS):Prop:=
 ∀(ν:List (Ν×Obj))(s:Ψ)(σ:St)(H:Hp)(D:eV),ς X ν σ H s->t D σ H->ϣ (Ϣ X.prog X.w) X.A (execs st X.env) (SP X ν D) X.xe s
theorem b8{M:Model}{A:Ø}{E:Τ->Ψ->Prop}{s:Ψ}(h:ϣ M A t Q E s)(b:∀a s,Q a s->Q' a s):ϣ M A t Q' E s:=Ò h b λ_ _ x=>x
section
variable {X:Cx}
theorem tvE{o:Option (Option V)}{F:V->Prop}(h:(o.getD Β).elim False F):∃v,o=Α (Α v)/\F v:=by
 cases o with
 |none=>exact h.elim
 |some o=>
  cases o with
  |none=>exact h.elim
  |some v=>exact⟨v,Λ,h⟩
def pj(i:Nat):TE:=λσ H Q=>((σ[i]?).getD Β).elim False λv=>Q v H
def tC(v:V):TE:=λ_ H Q=>Q v H
theorem Cr(j:X.N[i]?=Α x)(n:Tx X.env.scope x)(d:autoParam ((x == ("__debug__":Str))=Ε) θ)(o:autoParam ((x == ("__classdict__":Str))=Ε) θ):PE X (.Name x pos) (pj i):=by
 intro b s p H Q I h
 obtain⟨v,e,h⟩:=tvE h
 obtain⟨m,q,t⟩:=I.loc
 obtain⟨u,r,l⟩:=t i x v j e n
 have fin:EP X b p Q u s:=⟨v,H,I,r,h⟩
 rcases l with ⟨a,w⟩|⟨a,c,f,g⟩
 ·exact za1 (WS I.ok.kind a q w fin) d
 ·rcases a with a|a
  ·exact za1 (Yg I.ok.kind a f g fin) d
  ·exact za1 (wpAny_loadName_free I.ok.kind a f g fin o) d
theorem ao:PE X (.Constant (.int i) j pos) (tC (.int i)):=λ_ _ _ H _ I h=>wpAny_Constant_int ⟨.int i,H,I.tok _,⟨_,Λ⟩,h⟩
theorem eM:PE X (.Constant (.bool b) j pos) (tC (.bl b)):=λ_ _ _ H _ I h=>Constant_bool ⟨.bl b,H,I,Λ,h⟩
theorem b9:PE X (.Constant .none j pos) (tC .Eh):=λ_ _ _ H _ I h=>Constant_none ⟨.Eh,H,I,Λ,h⟩
theorem cx:PE X (.Constant (.str x) j pos) (tC (.str x)):=λ_ _ _ H _ I h=>Calls.Constant_str ⟨.str x,H,I.tok _,⟨_,Λ⟩,h⟩
def Gl(X:Cx)(x:Str):Prop:=X.env.kindOf x=Α .globalImplicit
theorem iZ{a:St}(I:ς X ν a H s)(b:Gl X x)(c:X.mg x=Α u)(h:Q u s)
  (d:autoParam ((x == ("__debug__":Str))=Ε) θ):ϣ (Ϣ X.prog X.w) X.A (eval (.Name x pos) X.env) Q E s:=
 Ip I.ok.kind b (Calls.loadGlobal_global (by rw[I.ok.glob];exact I.mod.glob.keeps I.bk) c h) d
theorem i7{a:St}(I:ς X ν a H s)(b:Gl X x)(c:X.mg x=Β)(d:i1 x=Α u)(h:Q u s)
  (e:autoParam (x≠ "__name__") θ) (f:autoParam ((x == ("__debug__":Str))=Ε) θ):ϣ (Ϣ X.prog X.w) X.A (eval (.Name x pos) X.env) Q E s:=by
 obtain⟨j,g,i⟩:=I.mod.blt
 exact Ip I.ok.kind b (Calls.loadGlobal_builtin (by rw[I.ok.glob];exact I.mod.glob.keeps I.bk) c (by rw[I.ok.blt];exact g.keeps I.bk) ((i x e).trans d) h) f
theorem dR(a:Gl X x)(b:X.mg x=Α u)(r:RelV v u)(c:autoParam ((x == ("__debug__":Str))=Ε) θ):PE X (.Name x pos) (tC v):=
 λ_ _ _ H _ I h=>iZ I a b ⟨v,H,I,r,h⟩ c
theorem gO(a:Gl X x)(b:X.mg x=Β)(c:i1 x=Α u)(r:RelV v u)(d:autoParam (x≠ "__name__") θ)(e:autoParam ((x == ("__debug__":Str))=Ε) θ):PE X (.Name x pos) (tC v):=
 λ_ _ _ H _ I h=>i7 I a b c ⟨v,H,I,r,h⟩ d e
variable {a b:Expr}{ta tb:TE}{pos:Pos}
def PC(X:Cx)(op:CmpOp)(a b:Expr)(t:TE):Prop:=
 ∀(ν:List (Ν×Obj))(s:Ψ)(σ:St)(H:Hp)(Q:VK),ς X ν σ H s->t σ H Q->
  ϣ (Ϣ X.prog X.w) X.A (eval a X.env) (λv s₁=>ϣ (Ϣ X.prog X.w) X.A (eval b X.env) (λu s₂=>ϣ (Ϣ X.prog X.w) X.A (compareOp op v u) (EP X ν σ Q) X.xe s₂) X.xe s₁) X.xe s
inductive Uaa(Q:Bool->Hp->Prop)(x:V)(H1:Hp):Prop
 |mk (c)(_:x=.bl c)(_:Q c H1)
def tB(t:TE):TT:=λσ H Q=>t σ H λx H1=>Uaa Q x H1
theorem om(h:PC X op a b t)(f:e6 op b=Ε:=by first|exact Pr _ (by decide) (by decide)|rfl):PT X (.Compare a [op] [b] pos) (tB t):=by
 intro e s g H Q I i
 refine Wv (b8 (h e s g H _ I i) λv r f=>b8 f λu w j=>b8 j λc y l=>?_) f
 obtain⟨x,m,n,o,p⟩:=l
 obtain⟨d,rfl,q⟩:=p
 cases o
 exact ì ⟨m,n,q⟩
theorem bA(h:PE X e t)(g:autoParam (∀c,isTrue e X.env c=(do let v ← c;GS e.pos;ic [v] (truthy v))) ψ):PT X e (tB t):=by
 intro f s i H Q I j
 refine isTrue_plain (b8 (h f s i H _ I j) λv r l=>?_) (g _)
 obtain⟨x,m,n,o,p⟩:=l
 obtain⟨d,rfl,q⟩:=p
 cases o
 exact ì ⟨m,n,q⟩
variable {tA T3:TT}{rest:List Expr}
def VD(t u:TT):TT:=λσ H Q=>t σ H λc H1=>if c=Δ then u σ H1 Q else Q Ε H1
def tOr(t u:TT):TT:=λσ H Q=>t σ H λc H1=>if c=Δ then Q Δ H1 else u σ H1 Q
def VE(t:TT):TT:=λσ H Q=>t σ H λc H1=>Q (!c) H1
theorem fB(f:PT X a tA):PW X (.BoolOp .And [a] pos) tA:=by
 intro i d s g H Q I h
 refine isTrue_and (b8 (f d s g H Q I h) λc j e=>?_)
 cases c with
 |true=>exact isTrue_and_nil e
 |false=>exact e
theorem dD(f:PT X a tA):PW X (.BoolOp .Or [a] pos) tA:=by
 intro i d s g H Q I h
 refine isTrue_or (b8 (f d s g H Q I h) λc j e=>?_)
 cases c with
 |false=>exact isTrue_or_nil e
 |true=>exact e
theorem ge(j:PT X a tA)(l:PW X (.BoolOp .And (b:: rest) pos) T3):PW X (.BoolOp .And (a:: b:: rest) pos) (VD tA T3):=by
 intro m d s e H Q I h
 refine isTrue_and (b8 (j d s e H _ I h) λc n o=>?_)
 obtain⟨f,g,i⟩:=o
 cases c with
 |true=>exact l m d n e f Q g i
 |false=>exact⟨f,g,i⟩
theorem fZ(j:PT X a tA)(l:PW X (.BoolOp .Or (b:: rest) pos) T3):PW X (.BoolOp .Or (a:: b:: rest) pos) (tOr tA T3):=by
 intro m d s e H Q I h
 refine isTrue_or (b8 (j d s e H _ I h) λc n o=>?_)
 obtain⟨f,g,i⟩:=o
 cases c with
 |true=>exact⟨f,g,i⟩
 |false=>exact l m d n e f Q g i
theorem bE(e:PT X a tA):PT X (.UnaryOp .Not a pos) (VE tA):=by
 intro d s f H Q I h
 exact isTrue_not (e d s f H (λc g=>Q (!c) g) I h)
inductive Uab(tb:TE)(σ:St)(Q:VK)(x:V)(H1:Hp):Prop
 |mk (c)(_:x=.bl c)(_:if c=Δ then tb σ H1 Q else Q (.bl Ε) H1)
def Pt(ta tb:TE):TE:=λσ H Q=>ta σ H λx H1=>Uab tb σ Q x H1
inductive Uac(tb:TE)(σ:St)(Q:VK)(x:V)(H1:Hp):Prop
 |mk (c)(_:x=.bl c)(_:if c=Δ then Q (.bl Δ) H1 else tb σ H1 Q)
def VF(ta tb:TE):TE:=λσ H Q=>ta σ H λx H1=>Uac tb σ Q x H1
inductive Uad(Q:VK)(x:V)(H1:Hp):Prop
 |mk (c)(_:x=.bl c)(_:Q (.bl (!c)) H1)
def Pu(ta:TE):TE:=λσ H Q=>ta σ H λx H1=>Uad Q x H1
theorem dZ(h:PE X a t):PE X (.BoolOp op [a] pos) t:=λc s d H Q I e=>BoolOp_one (h c s d H Q I e)
theorem e7(j:PE X a ta)(l:PE X (.BoolOp .And (b:: rest) pos) tb):PE X (.BoolOp .And (a:: b:: rest) pos) (Pt ta tb):=by
 intro d s f H Q I h
 refine BoolOp_and (b8 (j d s f H _ I h) λv m n=>?_)
 obtain⟨x,g,i,o,e⟩:=n
 obtain⟨c,rfl,e⟩:=e
 cases o
 refine ì ?_
 cases c with
 |true=>exact l d m f g Q i e
 |false=>exact⟨.bl Ε,g,i,Λ,e⟩
theorem Pw(j:PE X a ta)(l:PE X (.BoolOp .Or (b:: rest) pos) tb):PE X (.BoolOp .Or (a:: b:: rest) pos) (VF ta tb):=by
 intro d s f H Q I h
 refine BoolOp_or (b8 (j d s f H _ I h) λv m n=>?_)
 obtain⟨x,g,i,o,e⟩:=n
 obtain⟨c,rfl,e⟩:=e
 cases o
 refine ì ?_
 cases c with
 |false=>exact l d m f g Q i e
 |true=>exact⟨.bl Δ,g,i,Λ,e⟩
theorem xz(f:PE X a ta):PE X (.UnaryOp .Not a pos) (Pu ta):=by
 intro d s g H Q I h
 refine UnaryOp_ (b8 (f d s g H _ I h) λv n i=>?_)
 obtain⟨x,j,l,m,e⟩:=i
 obtain⟨c,rfl,e⟩:=e
 cases m
 exact not_of (ì ⟨.bl (!c),j,l,Λ,e⟩)
def tIf(t:TT)(ta tb:TE):TE:=λσ H Q=>t σ H λc H1=>if c=Δ then ta σ H1 Q else tb σ H1 Q
theorem cQ(m:PT X c tA)(n:PE X a ta)(o:PE X b tb):PE X (.IfExp c a b pos) (tIf tA ta tb):=by
 intro e s f H Q I h
 refine wpAny_IfExp (b8 (m e s f H _ I h) λd g p=>?_)
 obtain⟨i,j,l⟩:=p
 cases d with
 |true=>exact n e g f i Q j l
 |false=>exact o e g f i Q j l
end
def DT(K:ϧ)(H:Hp)(a:Ν)(xs:List V):Prop:=
 Rd H a (.π xs)∨
  ∃(o:Obj)(DW:Array Τ)(n:Nat),K.lookup a=Α o/\o.cls=.type "list"/\o.dict=Β/\o.data=.seq DW n/\DW.size<=ό/\τ xs DW.toList
def Ec(K:ϧ)(H:Hp)(a:Ν)(xs:List V):Prop:=
 Rd H a (.tup xs)∨
  ∃(o:Obj)(DW:Array Τ)(n:Nat),K.lookup a=Α o/\o.cls=.type "tuple"/\o.data=.seq DW n/\DW.size<=ό/\τ xs DW.toList
noncomputable def VG:Τ->Option V
 |.none=>Α .Eh
 |.bool b=>Α (.bl b)
 |.int i _=>Α (.int i)
 |.str x _=>Α (.str x)
 |.bytes b _=>Α (.Jf b)
 |.float b _=>Α (.MS b)
 |.ref a=>Α (.ref a)
 |.type n=>Α (.ty n)
 |_=>Β
theorem RelV.abs(r:RelV x u):VG u=Α x:=by
 cases x with
 |Eh=>cases r;rfl
 |bl _=>cases r;rfl
 |int _=>obtain⟨t,rfl⟩:=r;rfl
 |str _=>obtain⟨t,rfl⟩:=r;rfl
 |Jf _=>obtain⟨t,rfl⟩:=r;rfl
 |MS _=>obtain⟨t,rfl⟩:=r;rfl
 |ref _=>cases r;rfl
 |ty _=>cases r;rfl
theorem RelV.inj(r:RelV x u)(q:RelV y u):x=y:=Ϝ (r.abs.symm.trans q.abs)
theorem τ.inj:∀{xs a:List V}{us:List Τ},τ xs us->τ a us->xs=a
 |_,_,_,.nil,.nil=>rfl
 |_,_,_,.cons r t,.cons r' t'=>by rw[r.inj r',τ.inj t t']
section
variable {X:Cx}{ν:List (Ν×Obj)}{σ:St}{H:Hp}{s:Ψ}{a:Ν}{xs ys:List V}
theorem DT.of{K:ϧ}(h:H a=Α (.π xs)):DT K H a xs:=.inl (.inl h)
theorem Ec.of{K:ϧ}(h:H a=Α (.tup xs)):Ec K H a xs:=.inl (.inl h)
theorem ς.list(I:ς X ν σ H s)(h:DT X.K H a xs):∃b:List Τ,τ xs b/\PlainL s.heap a b.toArray/\xs.length<=ό:=by
 rcases h with h|⟨o,b,n,c,d,f,g,i,r⟩
 ·obtain⟨z,b,n,r,e⟩:=h.ok I.DY
  exact⟨b,r,⟨_,n,e,Λ,Λ,Λ⟩,z⟩
 ·refine⟨_,r,⟨o,n,I.EY a o c,d,f,by simpa using g⟩,?_⟩
  have e:=r.length
  simp only[ĉ]at e
  omega
theorem ς.tuple(I:ς X ν σ H s)(h:Ec X.K H a xs):∃b:List Τ,τ xs b/\IsTup s.heap a b.toArray/\xs.length<=ό:=by
 rcases h with h|⟨o,b,n,c,d,f,g,r⟩
 ·obtain⟨z,b,r,p⟩:=h.ok I.DY
  exact⟨b,r,p.isTup,z⟩
 ·refine⟨_,r,⟨o,I.EY a o c,d,n,by simpa using f⟩,?_⟩
  have e:=r.length
  simp only[ĉ]at e
  omega
theorem ς.Ib(I:ς X ν σ H s)(h:DT X.K H a xs)(g:DT X.K H a ys):xs=ys:=by
 obtain⟨i,r,⟨o,n,e,_,_,d⟩,_⟩:=I.list h
 obtain⟨b,j,⟨m,p,c,_,_,f⟩,_⟩:=I.list g
 rw[e]at c;cases c
 rw[d]at f
 injection f with l _
 have:i=b:=by simpa using congrArg Array.toList l
 subst this
 exact r.inj j
theorem ς.Hl(I:ς X ν σ H s)(h:Ec X.K H a xs)(g:Ec X.K H a ys):xs=ys:=by
 obtain⟨i,r,⟨o,e,_,n,d⟩,_⟩:=I.tuple h
 obtain⟨b,j,⟨m,c,_,p,f⟩,_⟩:=I.tuple g
 rw[e]at c;cases c
 rw[d]at f
 injection f with l _
 have:i=b:=by simpa using congrArg Array.toList l
 subst this
 exact r.inj j
end
abbrev Cx.Gv(X:Cx)(E:Τ->Ψ->Prop):Cx:={X with xe:=E}
abbrev Cx.JH(X:Cx):Cx:=X.Gv λ_ _=>False
theorem Cx.Ok.Gv{X:Cx}(ok:X.Ok)(E:Τ->Ψ->Prop):(X.Gv E).Ok:=
 ⟨ok.mod,ok.kind,ok.glob,ok.blt,ok.above,ok.inj,ok.has,ok.KU,ok.hd,ok.frames,ok.MU,ok.Po,ok.bs,ok.Jh,ok.Ia,ok.IK,ok.Fb,ok.JG⟩
theorem Cx.Ok.EN{X:Cx}(ok:(X.Gv E).Ok):X.Ok:=
 ⟨ok.mod,ok.kind,ok.glob,ok.blt,ok.above,ok.inj,ok.has,ok.KU,ok.hd,ok.frames,ok.MU,ok.Po,ok.bs,ok.Jh,ok.Ia,ok.IK,ok.Fb,ok.JG⟩
section
variable {X:Cx}{ν:List (Ν×Obj)}{σ:St}{H:Hp}{s:Ψ}{E:Τ->Ψ->Prop}
theorem ς.Gv(I:ς X ν σ H s)(E:Τ->Ψ->Prop):ς (X.Gv E) ν σ H s:=⟨I.ok.Gv E,I.os,I.bare,I.μ,I.loc,I.cell,I.free,I.Ew,I.pin,I.DY,I.len⟩
theorem ς.EN(I:ς (X.Gv E) ν σ H s):ς X ν σ H s:=⟨I.ok.EN,I.os,I.bare,I.μ,I.loc,I.cell,I.free,I.Ew,I.pin,I.DY,I.len⟩
theorem SP.EN(h:SP (X.Gv E) ν D f s'):SP X ν D f s':=by
 cases f with
 |next=>obtain⟨a,b,I,q⟩:=h;exact⟨a,b,I.EN,q⟩
 |brk=>obtain⟨a,b,I,q⟩:=h;exact⟨a,b,I.EN,q⟩
 |cont=>obtain⟨a,b,I,q⟩:=h;exact⟨a,b,I.EN,q⟩
 |ret u=>obtain⟨v,a,b,I,r,q⟩:=h;exact⟨v,a,b,I.EN,r,q⟩
theorem GF.JH{a:List Ç}(h:GF X.JH a t):GF X a t:=λν s σ H D I b =>
 Ò (h ν s σ H D (I.Gv _) b) (λ_ _ q=>q.EN) λ_ _ z=>Ô z
end
section
variable {X:Cx}{st:Ç}{rest:List Ç}{t u:TS}{e:Expr}{te:TE}{pos:Pos}
def Px:TS:=λD σ H=>D.nx σ H
def BA(t u:TS):TS:=λD σ H=>t {D with nx:=u D} σ H
theorem aE:GF X [] Px:=λ_ _ a H _ I h=>Ņ ⟨a,H,I,h⟩
theorem ae(c:PS X st t)(d:GF X rest u):GF X (st:: rest) (BA t u):=by
 intro a s g H D I h
 refine Ka (b8 (c a s g H {D with nx:=u D} I h) λf i q=>?_)
 cases f with
 | next =>
  obtain⟨b,j,l,q⟩:=q
  exact d a i b j D l q
 |ret v=>exact q
 |brk=>exact q
 |cont=>exact q
theorem aj(b:PS X st t):GF X [st] t:=by
 intro a s c H D I h
 refine Ka (b8 (b a s c H D I h) λf d q=>?_)
 cases f with
 |next=>exact Ņ q
 |ret v=>exact q
 |brk=>exact q
 |cont=>exact q
theorem ς.quiet{a:St}(I:ς X ν a H s):interactive X.env=Ε:=by simp[interactive,I.ok.kind]
def Py(te:TE):TS:=λD σ H=>te σ H λ_ H1=>D.nx σ H1
theorem aX(c:PE X e te)(d:autoParam (Ř e Β pos.line X.env=pure Ε) η):PS X (.Expr e pos) (Py te):=by
 intro a s b H D I h
 exact wpAny_Expr_any (b8 (c a s b H _ I h) λv l f=>by obtain⟨x,g,i,m,j⟩:=f;exact⟨b,g,i,j⟩) I.quiet d
def VH(te:TE):TS:=λD σ H=>te σ H D.rt
theorem ay(c:PE X e te):PS X (.Return (Α e) pos) (VH te):=by
 intro a s b H D I h
 exact wpAny_Return_some (b8 (c a s b H _ I h) λv l d=>by obtain⟨x,f,g,i,j⟩:=d;exact⟨x,b,f,g,i,j⟩)
def VI(c:TT)(t u:TS):TS:=λD σ H=>c σ H λb H1=>if b=Δ then t D σ H1 else u D σ H1
theorem aP(n:PT X c tc)(o:GF X a t)(p:GF X b u):PS X (.If c a b pos) (VI tc t u):=by
 intro f s g H D I h
 refine wpAny_If (b8 (n f s g H _ I h) λd i q=>?_)
 obtain⟨j,l,m⟩:=q
 cases d with
 |true=>exact o f i g j D l m
 |false=>exact p f i g j D l m
def BF:TS:=λ_ _ _=>False
theorem aY:PS X st BF:=λ_ _ _ _ _ _ h=>h.elim
end
abbrev TG:=V->St->Hp->(St->Hp->Prop)->Prop
abbrev DI:=List V->St->Hp->(St->Hp->Prop)->Prop
def PG(X:Cx)(target:Expr)(t:TG):Prop:=
 ∀(ν:List (Ν×Obj))(s:Ψ)(σ:St)(H:Hp)(v:V)(u:Τ)(Q:St->Hp->Prop),ς X ν σ H s->RelV v u->t v σ H Q->
  ϣ (Ϣ X.prog X.w) X.A (assign target X.env u) (λ_ s'=>∃σ' H',ς X ν σ' H' s'/\Q σ' H') X.xe s
def T4(X:Cx)(ts:List Expr)(t:DI):Prop:=
 ∀(ν:List (Ν×Obj))(s:Ψ)(σ:St)(H:Hp)(vs:List V)(us:List Τ)(Q:St->Hp->Prop),ς X ν σ H s->τ vs us->t vs σ H Q->
  ϣ (Ϣ X.prog X.w) X.A (assignInOrder ((i2 ts X.env).map (·.2)) us) (λ_ s'=>∃σ' H',ς X ν σ' H' s'/\Q σ' H') X.xe s
abbrev DH:=V->V->V->Hp->(Hp->Prop)->Prop
def Pz(X:Cx)(t:DH):Prop:=
 ∀(ν:List (Ν×Obj))(s:Ψ)(σ:St)(H:Hp)(o i v:V)(ov iv u:Τ)(Q:Hp->Prop),ς X ν σ H s->RelV o ov->RelV i iv->RelV v u->t o i v H Q->
  ϣ (Ϣ X.prog X.w) X.A (setItem ov iv u) (λ_ s'=>∃H',ς X ν σ H' s'/\Q H') X.xe s
abbrev T5:=V->V->Hp->VK->Prop
def PIp(X:Cx)(op:Operator)(t:T5):Prop:=
 ∀(ν:List (Ν×Obj))(s:Ψ)(σ:St)(H:Hp)(x y:V)(v u:Τ)(Q:VK),ς X ν σ H s->RelV x v->RelV y u->t x y H Q->
  ϣ (Ϣ X.prog X.w) X.A (inplaceOp op v u) (EP X ν σ Q) X.xe s
section
variable {X:Cx}{pos:Pos}
def cY(i:Nat):TG:=λv σ H Q=>Q (σ.set i (Α v)) H
theorem ax(b:X.N.Nodup)(c:X.N[i]?=Α x)(d:Loc X.env.scope x)(e:autoParam (X.fn x=Δ∨X.env.scope.names.lookup x=Α .local) ζ):PG X (.Name x pos) (cY i):=by
 intro a s g H v u Q I r h
 exact za8 (iL I b c d r (λj f=>⟨_,H,f,h⟩) e)
noncomputable def VJ:DI:=λvs σ H Q=>vs=[]/\Q σ H
inductive P0(t:TG)(u:DI)(vs:List V)(σ:St)(H:Hp)(Q:St->Hp->Prop):Prop
 |mk (v r)(_:vs=v:: r)(_:t v σ H λσ' H'=>u r σ' H' Q)
theorem dP:T4 X [] VJ:=by
 intro a s b H c us Q I r h
 obtain⟨e,h⟩:=h
 subst e
 cases r
 exact assignInOrder_nil ⟨b,H,I,h⟩
theorem bI(c:PG X e t)(d:T4 X es u)
  (f:autoParam ((i2 (e:: es) X.env).map (·.2)=assign e X.env:: (i2 es X.env).map (·.2)) η):T4 X (e:: es) (P0 t u):=by
 intro a s g H q us Q I r h
 obtain⟨v,w,i,h⟩:=h
 subst i
 cases r with
 | cons r j =>
  rw[f]
  refine assignInOrder_cons (b8 (c a s g H _ _ _ I r h) λ_ l m=>?_)
  obtain⟨b,n,o,p⟩:=m
  exact d a l b n _ _ Q o j p
inductive Ax(K:ϧ)(n:Nat)(t:DI)(v:V)(σ:St)(H:Hp)(Q:St->Hp->Prop):Prop
 |mk (a xs)(_:v=.ref a)(_:Ec K H a xs)(_:xs.length=n)(_:t xs σ H Q)
theorem gj(j:X.calm=Δ)(h:T4 X es t)
  (l:autoParam ((i2 es X.env).length=n) η) (m:autoParam ((i2 es X.env).findIdx? (·.1)=Β) η):PG X (.Tuple es k pos) (Ax X.K n t):=by
 intro c s f H v u Q I r d
 obtain⟨a,xs,p,q,w,d⟩:=d
 subst p
 cases r
 obtain⟨B,g,x,C⟩:=I.tuple q
 refine assign_Tuple_tuple (I.ok.hd j) x (by simp[l,←w,g.length]) m λy z=>?_
 have A:=I.kept (t':=s.toks) λb o e=>z b o (Ã (lt_size e)) e
 exact h c _ f H xs _ Q A (by simpa using g) d
def VL(to ti:TE)(t:DH):TG:=λv σ H Q=>to σ H λo H1=>ti σ H1 λi H2=>t o i v H2 λH3=>Q σ H3
theorem jt(f:PE X o to)(g:PE X i ti)(j:Pz X t)
  (l:∀v,assign (.Subscript o i pos) X.env v=(do
   let b ← ic [v] (eval o X.env)
   let c ← ic [v,b] (eval i X.env)
   GS pos
   ic [v,b,c] (setItem b c v)
   release [v,b,c] []):=by intro _;rfl):PG X (.Subscript o i pos) (VL to ti t):=by
 intro a s e H v u Q I r h
 rw[l]
 refine Ξ (ď (b8 (f a s e H _ I h) λb m d=>?_))
 obtain⟨x,n,p,q,w⟩:=d
 refine Ξ (ď (b8 (g a m e n _ p w) λc z d=>?_))
 obtain⟨y,A,B,C,D⟩:=d
 refine Ξ (Ī (Ξ (ď (b8 (j a z e A x y v b c u _ B q C r D) λ_ J d=>?_))))
 obtain⟨E,F,G⟩:=d
 exact wpAny_release ⟨e,E,F,G⟩
def BK(te:TE)(g:TG):TS:=λD σ H=>te σ H λx H1=>g x σ H1 D.nx
theorem gi(c:PE X e te)(d:PG X tg g)(f:autoParam (swapsWithSole [tg] e pos.line X.env=pure Ε) η)(i:autoParam (swappedStores [tg] e X.env=pure Β) η)
  (j:autoParam ((i2 [tg] X.env).map (·.2)=[assign tg X.env]) η):PS X (.Assign [tg] e pos) (BK te g):=by
 intro a s b H D I h
 refine wpAny_Assign_stores (b8 (c a s b H _ I h) λv l m=>?_) f i
 obtain⟨x,n,o,p,r⟩:=m
 rw[j]
 exact b8 (d a l b n x v _ o p r) λ_ t q=>q
theorem aB(b:X.N.Nodup)(c:X.N[i]?=Α x)(d:Loc X.env.scope x)(f:PE X e te)(g:autoParam (Ř e (Α (.Name x pos')) pos.line X.env=pure Ε) η)(j:autoParam (X.fn x=Δ∨X.env.scope.names.lookup x=Α .local) ζ):
  PS X (.Assign [.Name x pos'] e pos) (BK te (cY i)):=by
 intro a s l H D I h
 refine wpAny_Assign_Name (b8 (f a s l H _ I h) λv t m=>?_) g
 obtain⟨y,n,o,p,q⟩:=m
 exact iL o b c d p (λu r=>⟨_,n,r,q⟩) j
def VM(i:Nat)(te:TE)(ti:T5):TS:=λD σ H=>((σ[i]?).getD Β).elim False λx=>te σ H λy H1=>ti x y H1 λz H2=>D.nx (σ.set i (Α z)) H2
theorem rT(t:X.N.Nodup)(o:X.N[i]?=Α x)(g:Loc X.env.scope x)(B:PE X e te)(C:PIp X op ti)(E:autoParam (X.fn x=Δ∨X.env.scope.names.lookup x=Α .local) ζ):
  PS X (.AugAssign (.Name x pos') op e pos) (VM i te ti):=by
 intro a s p H D I h
 obtain⟨v,F,h⟩:=tvE h
 obtain⟨m,G,J⟩:=I.loc
 have j:Tx X.env.scope x:=by rcases g with k|k;exact .inl k;exact .inr (.inl k)
 obtain⟨u,r,l⟩:=J i x v o F j
 refine wpAny_AugAssign_Name ?_
 have q:ϣ (Ϣ X.prog X.w) X.A (eval e X.env) (λw d=>ϣ (Ϣ X.prog X.w) X.A (inplaceOp op u w) (λr f=>ϣ (Ϣ X.prog X.w) X.A (storeName X.env x r) (λ_=>SP X a D .next) X.xe f) X.xe d) X.xe s:=by
  refine b8 (B a s p H _ I h) λw K n=>?_
  obtain⟨y,L,M,O,P⟩:=n
  refine b8 (C a K p L v y u w _ M r O P) λz s2 n=>?_
  obtain⟨zv,Q,R,S,T⟩:=n
  exact iL R t o g S (λs3 U=>⟨_,Q,U,T⟩) E
 rcases l with ⟨b,Y⟩|⟨b,c,Z,FW⟩
 ·exact WS I.ok.kind b G Y q
 ·rcases b with b|b
  ·exact Yg I.ok.kind b Z FW q
  ·rcases g with k|k
   ·have:X.env.scope.names.lookup x=Α .free:=b
    rw[k]at this;cases this
   ·have:X.env.scope.names.lookup x=Α .free:=b
    rw[k]at this;cases this
inductive ipI(f:Int->Int->Int)(x:V)(y:V)(H:Hp)(Q:VK):Prop
 |mk (i j)(_:x=.int i)(_:y=.int j)(_:Q (.int (f i j)) H)
theorem sF:PIp X .Add (ipI λi j=>i+j):=by
 intro a s f H x y v u Q I b c h
 obtain⟨i,j,d,e,q⟩:=h
 subst d;subst e
 obtain⟨t,rfl⟩:=b
 obtain⟨g,rfl⟩:=c
 exact iadd_int ⟨.int _,H,I.tok _,⟨_,Λ⟩,q⟩
end
section
variable {X:Cx}{pos:Pos}
def B6(c:TT)(tb:TS):TS:=λD σ H=>∃W:Nat->St->Hp->Prop,(∃m,W m σ H)/\∀m σ H,W m σ H->
 c σ H λb H1=>if b=Δ then ∃N:St->Hp->Prop,(∀σ' H',N σ' H'->∃m',m'< m/\W m' σ' H')/\tb {D with nx:=N,ct:=N,bk:=D.nx} σ H1 else D.nx σ H1
theorem iU(u:PassesOwn (Ϣ X.prog X.w) X.A X.env X.xe)(E:PT X c tc)(F:GF X body tb):PS X (.While c body [] pos) (B6 tc tb):=by
 intro a s G H D I h
 obtain⟨W,⟨J,K⟩,g⟩:=h
 refine wpAny_While (codeAny_whileLoop (λn L=>∃i x,ς X a i x L/\W n i x) ?_ J ⟨G,H,I,K⟩)
 rintro n M ⟨e,y,O,P⟩
 refine ħ u (b8 (E a M e y _ O (g n e y P)) λb Q R=>?_)
 obtain⟨z,B,l⟩:=R
 cases b with
 | true =>
  obtain⟨N,C,l⟩:=l
  rw[Ι Λ]
  refine ħ u (b8 (F a Q e z _ B l) λf S m=>?_)
  cases f with
  | next =>
   obtain⟨d,j,o,p⟩:=m
   obtain⟨q,r,t⟩:=C d j p
   exact⟨q,r,d,j,o,t⟩
  | cont =>
   obtain⟨d,j,o,p⟩:=m
   obtain⟨q,r,t⟩:=C d j p
   exact⟨q,r,d,j,o,t⟩
  |brk=>exact m
  |ret v=>exact m
 | false =>
  rw[Θ ϝ]
  exact Ņ ⟨e,z,B,l⟩
end
structure It where
 go:Nat->Hp->Prop
 K5:Nat->Hp->V->Hp->Prop
 stop:Nat->Hp->Prop
def ik(X:Cx)(ν:List (Ν×Obj))(H:Hp)(b:Ν):Prop:=
 H b=Β/\b≠X.env.locals/\b∉X.fs/\(b∈X.ex∨X.s₀.heap.objs.size<=b)/\(∀x c,X.env.cells.lookup x=Α c->c≠b)/\∀p∈X.pn++ν,p.1≠b
theorem ς.J6{d:St}{b:Ν}(I:ς X ν d H s)(a:s.heap.objs.size<=b)(f:H' b=Β):ik X ν H' b:=by
 refine⟨f,Ĩ (ϛ I.lt a),I.KW a,.inr (À I.sz a),λx c e z=>?_,λp g z=>?_⟩
 ·obtain⟨v,q⟩:=I.cell x c e
  exact Κ (ϛ q.lt (by rw[z];exact a)) (Ĺ _)
 ·exact Κ (ϛ (lt_size (I.pin p g).1) (by rw[z];exact a)) (Ĺ _)
structure qP(P:Program)(w:Î)(K:ϧ)(tg:Expr)(J:It)(fp:List Ν)(it:Ν)(tn:Nat->Ü->Prop):Prop where
 mem:it∈fp
 obj:∀i h,tn i h->∀b∈fp,∃o,h.get? b=Α o/\∀v,o.data≠.cell v
 keep:∀i h h',tn i h->(∀b∈fp,∀o,h.get? b=Α o->h'.get? b=Α o)->tn i h'
 item:∀(X:Cx),X.prog=P->X.w=w->X.K=K->X.calm=Δ->∀(i:Nat)(ν:List (Ν×Obj))(s:Ψ)(σ:St)(H:Hp)(E:Τ->Ψ->Prop),ς X ν σ H s->(∀b∈fp,ik X ν H b)->tn i s.heap->J.go i H->
  ϣ (Ϣ P w) X.A (pyNext (.ref it)) (λr s1=>∃u,r=Α u/\
   ϣ (Ϣ P w) X.A (ţ tg (.ref it) u) (λ_ s2=>∃x H',ς X ν σ H' s2/\RelV x u/\J.K5 i H x H'/\tn (i+1) s2.heap/\∀b∈fp,H' b=Β) E s1) E s
 done:∀(X:Cx),X.prog=P->X.w=w->X.K=K->X.calm=Δ->∀(i:Nat)(ν:List (Ν×Obj))(s:Ψ)(σ:St)(H:Hp)(E:Τ->Ψ->Prop),ς X ν σ H s->(∀b∈fp,ik X ν H b)->tn i s.heap->J.stop i H->
  ϣ (Ϣ P w) X.A (pyNext (.ref it)) (λr s1=>r=Β/\ς X ν σ H s1) E s
 self:∀(A:Ø)(i:Nat)(s:Ψ)(Q:Τ->Ψ->Prop)(E:Τ->Ψ->Prop),tn i s.heap->Q (.ref it) s->ϣ (Ϣ P w) A (pyIter (.ref it)) Q E s
abbrev TI:=St->Hp->(It->Hp->Prop)->Prop
def PIE(X:Cx)(ν:List (Ν×Obj))(σ:St)(tg:Expr)(R:It->Hp->Prop)(T6:Τ)(s2:Ψ):Prop:=
 ∃(it:Ν)(fp:List Ν)(tn:Nat->Ü->Prop)(J:It)(H':Hp),T6=.ref it/\ς X ν σ H' s2/\qP X.prog X.w X.K tg J fp it tn/\tn 0 s2.heap/\(∀b∈fp,ik X ν H' b)/\R J H'
def PI(X:Cx)(tg iter:Expr)(wi:TI):Prop:=
 ∀(ν:List (Ν×Obj))(s:Ψ)(σ:St)(H:Hp)(R:It->Hp->Prop),ς X ν σ H s->wi σ H R->
  ϣ (Ϣ X.prog X.w) X.A (eval iter X.env) (λv s1=>ϣ (Ϣ X.prog X.w) X.A (pyIter v) (PIE X ν σ tg R) X.xe s1) X.xe s
theorem u8(b:s.heap.get? it=Α o)(c:o.cls=.type n)(d:o.data=.fields vs)
  (e:["enumerate","zip","dict_itemiterator","dict_reverseitemiterator","odict_iterator","itertools.zip_longest","itertools.pairwise"].contains n=Ε) (a:Q () s):ϣ M A (ţ tg (.ref it) u) Q E s:=by
 unfold ţ
 cases tg<;>first
  |exact Ϡ a
  | (cases u<;>first
    |exact Ϡ a
    | (refine Ξ (wpAny_load b ?_)
       rw[c,d]
       show ϣ M A (if (["enumerate","zip","dict_itemiterator","dict_reverseitemiterator","odict_iterator","itertools.zip_longest","itertools.pairwise"].contains n&& vs[0]? == Α (ą _))=Δ then _ else _) Q E s
       rw[Θ (by intro h;rw[e,Bool.false_and]at h;cases h)]
       exact Ϡ a))
noncomputable def vJ(K:ϧ)(a:Ν):It:=
 ⟨λi H=>∃xs x,DT K H a xs/\xs[i]?=Α x,λi H x H'=>H'=H/\∀xs,DT K H a xs->xs[i]?=Α x,λi H=>∃xs,DT K H a xs/\xs.length<=i⟩
noncomputable def T7(K:ϧ)(a:Ν):It:=
 ⟨λi H=>∃xs x,Ec K H a xs/\xs[i]?=Α x,λi H x H'=>H'=H/\∀xs,Ec K H a xs->xs[i]?=Α x,λi H=>∃xs,Ec K H a xs/\xs.length<=i⟩
noncomputable def AT(lo:Int)(n:Nat):It:=⟨λi _=>i<n,λi H x H'=>H'=H/\x=.int (lo+i),λi _=>n<=i⟩
theorem uK{K:ϧ}(a it:Ν):qP P w K tg (vJ K a) [it] it (λi h=>h.IsListIter it a i) where
 mem:=by simp
 obj:=λi h f b j=>by
  have e:b=it:=by simpa using j
  subst e
  obtain⟨o,e,c,d⟩:=f
  exact⟨o,e,λv z=>by rw[d]at z;cases z⟩
 keep:=λi h m f k=>f.at λo e=>k it (by simp) o e
 item:=by
  intro X r t y M i g s N H E I n f A
  subst r t y
  obtain⟨xs,x,q,B⟩:=A
  obtain⟨Q,C,p,R⟩:=I.list q
  obtain⟨u,S,T⟩:=C.get B
  obtain⟨D,F,U,G,J,L⟩:=n it (by simp)
  refine wpAny_pyNext_list_item f p.isList (x:=u) (by simpa using S) λm O Y=>?_
  have Z:=I.turned (t':=s.toks) (λb o j e=>(Y.2 b j).trans e) D F G J L
  obtain⟨o,e,c,d⟩:=id O
  exact⟨u,Λ,u8 (s:={s with heap:=m}) e c d (by decide) ⟨x,H,Z,T,⟨Λ,λys hy=>by rw[I.Ib hy q];exact B⟩,O,λb j=>(n b j).1⟩⟩
 done:=by
  intro X r t y M i g s N H E I n f A
  subst r t y
  obtain⟨xs,q,B⟩:=A
  obtain⟨Q,C,p,R⟩:=I.list q
  obtain⟨D,F,U,G,J,L⟩:=n it (by simp)
  have hl:=C.length
  exact wpAny_pyNext_list_end (I.ok.hd M) f p.isList (by simp;omega) λm eb=>⟨Λ,I.turned (t':=s.toks) (λb o j e=>eb b o j e) D F G J L⟩
 self:=λ_ _ _ _ _ f h=>wpAny_pyIter_listiter f h
theorem qY{K:ϧ}(a it:Ν):qP P w K tg (T7 K a) [it] it (λi h=>h.IsTupleIter it a i) where
 mem:=by simp
 obj:=λi h f b j=>by
  have e:b=it:=by simpa using j
  subst e
  obtain⟨o,e,c,d⟩:=f
  exact⟨o,e,λv z=>by rw[d]at z;cases z⟩
 keep:=λi h m f k=>f.at λo e=>k it (by simp) o e
 item:=by
  intro X r t y N i g s O H E I n f A
  subst r t y
  obtain⟨xs,x,q,B⟩:=A
  obtain⟨C,D,p,R⟩:=I.tuple q
  obtain⟨u,S,T⟩:=D.get B
  obtain⟨F,G,U,J,L,M⟩:=n it (by simp)
  refine wpAny_pyNext_tuple_item f (p) (x:=u) (by simpa using S) λm Q Y=>?_
  have Z:=I.turned (t':=s.toks) (λb o j e=>(Y.2 b j).trans e) F G J L M
  obtain⟨o,e,c,d⟩:=id Q
  exact⟨u,Λ,u8 (s:={s with heap:=m}) e c d (by decide) ⟨x,H,Z,T,⟨Λ,λys hy=>by rw[I.Hl hy q];exact B⟩,Q,λb j=>(n b j).1⟩⟩
 done:=by
  intro X r t y N i g s O H E I n f A
  subst r t y
  obtain⟨xs,q,B⟩:=A
  obtain⟨C,D,p,R⟩:=I.tuple q
  obtain⟨F,G,U,J,L,M⟩:=n it (by simp)
  have hl:=D.length
  exact wpAny_pyNext_tuple_end (I.ok.hd N) f (p) (by simp;omega) λm eb=>⟨Λ,I.turned (t':=s.toks) (λb o j e=>eb b o j e) F G J L M⟩
 self:=λ_ _ _ _ _ f h=>wpAny_pyIter_tupleiter f h
theorem qZ{K:ϧ}(it:Ν)(g:Int)(n:Nat):qP P w K tg (AT g n) [it] it (λi h=>IsRangeIter h it (g+(i:Nat)* 1) ((n:Int) - (i:Nat)) 1) where
 mem:=by simp
 obj:=λi h a b d=>by
  have e:b=it:=by simpa using d
  subst e
  exact⟨_,a,λv z=>by
   have J:=z
   cases J⟩
 keep:=λi h j a k=>k it (by simp) _ a
 item:=by
  intro X m p q r i c s D H E I l a u
  subst m p q
  obtain⟨x,y,L,A,B,C⟩:=l it (by simp)
  have W:=Walks.range (prog:=X.prog) (w:=X.w) (I.ok.hd r) it g 1 n
  refine W.item i s _ _ u a λv j F M G N=>?_
  obtain⟨t,rfl⟩:=M
  have O:ς X c D H {s with heap:=j,toks:=F}:=I.turned (λb o d e=>N b o (by simpa using d) e) x y A B C
  refine⟨_,Λ,u8 (s:={s with heap:=j,toks:=F}) (n:="range_iterator") G Λ Λ (by decide) ⟨.int (g+i),H,O,⟨t,?_⟩,⟨Λ,Λ⟩,G,λb d=>(l b d).1⟩⟩
  rw[mul_one]
 done:=by
  intro X m p q r i c s D H E I l a u
  subst m p q
  obtain⟨x,y,L,A,B,C⟩:=l it (by simp)
  exact wpAny_pyNext_range_end (I.ok.hd r) a (by have:n<=i:=u;omega) λj Q=>⟨Λ,I.turned (t':=s.toks) (λb o d e=>Q b o d e) x y A B C⟩
 self:=λ_ _ _ _ _ a h=>wpAny_pyIter_rangeiter a h
section
variable {X:Cx}{tg:Expr}
inductive Uae(K:ϧ)(R:It->Hp->Prop)(x:V)(H1:Hp):Prop
 |mk (a)(_:x=.ref a)(_:(∃xs,DT K H1 a xs))(_:R (vJ K a) H1)
def P4(K:ϧ)(tl:TE):TI:=λσ H R=>tl σ H λx H1=>Uae K R x H1
inductive Uaf(K:ϧ)(R:It->Hp->Prop)(x:V)(H1:Hp):Prop
 |mk (a)(_:x=.ref a)(_:(∃xs,Ec K H1 a xs))(_:R (T7 K a) H1)
def VN(K:ϧ)(tl:TE):TI:=λσ H R=>tl σ H λx H1=>Uaf K R x H1
theorem aR(g:PE X l tl):PI X tg l (P4 X.K tl):=by
 intro c s i H R I h
 refine b8 (g c s i H _ I h) λv d j=>?_
 obtain⟨x,m,f,n,r⟩:=j
 obtain⟨a,e,⟨xs,t⟩,q⟩:=r
 subst e
 cases n
 obtain⟨w,y,p,z⟩:=f.list t
 refine za7 p.isList ?_
 refine⟨_,_,_,_,m,Λ,f.kept (t':=d.toks) λb o e=>Ο _ e,uK a _,⟨_,ϡ _ Λ,Λ,Λ⟩,λb u=>?_,q⟩
 have e:b=d.heap.objs.size:=by simpa using u
 subst e
 exact f.J6 (Ρ _) (f.DY.fresh (Ρ _))
theorem js(g:PE X l tl):PI X tg l (VN X.K tl):=by
 intro c s i H R I h
 refine b8 (g c s i H _ I h) λv d j=>?_
 obtain⟨x,m,f,n,r⟩:=j
 obtain⟨a,e,⟨xs,t⟩,q⟩:=r
 subst e
 cases n
 obtain⟨u,y,p,z⟩:=f.tuple t
 refine ű (p) ?_
 refine⟨_,_,_,_,m,Λ,f.kept (t':=d.toks) λb o e=>Ο _ e,qY a _,⟨_,ϡ _ Λ,Λ,Λ⟩,λb w=>?_,q⟩
 have e:b=d.heap.objs.size:=by simpa using w
 subst e
 exact f.J6 (Ρ _) (f.DY.fresh (Ρ _))
theorem xo{f:St}{a c:Int}(I:ς X ν f H s)(h:-(2^62)<=a)(i:a<2^62)(j:-(2^62)<=c)(l:c<2^62)
  (q:R (AT a (c - a).toNat) H):ϣ (Ϣ X.prog X.w) X.A (pyIter (.ref s.heap.objs.size)) (PIE X ν f tg R) E {s with heap:=s.heap.push {cls:=.type "range",data:=.fields #[.int a t,.int c u,.int 1 v]},toks:=tk}:=by
 refine wpAny_pyIter_range (Uk.new ..) (small_one h i j l) ?_
 have g:ς X ν f H {s with heap:=s.heap.push {cls:=.type "range",data:=.fields #[.int a t,.int c u,.int 1 v]},toks:=tk}:=I.kept λb o e=>Ο _ e
 refine⟨_,_,_,_,H,Λ,
  g.kept (t':=tk) λb o e=>Ο _ e,qZ _ a (c - a).toNat,?_,λb m=>?_,q⟩
 ·have n:a+((0:Nat):Int)* 1=a:=by simp
  have p:(((c - a).toNat:Nat):Int) - ((0:Nat):Int)=Builtin.Range.rangeSize a c 1:=by rw[PM];split<;>omega
  rw[n,p]
  exact ϡ _ Λ
 ·have e:b=(s.heap.push {cls:=.type "range",data:=.fields #[.int a t,.int c u,.int 1 v]}).objs.size:=by simpa using m
  subst e
  exact g.J6 (Ρ _) (g.DY.fresh (Ρ _))
inductive Uag(R:It->Hp->Prop)(vs:List V)(H1:Hp):Prop
 |mk (j:Int)(_:vs=[.int j])(_:-(2^62)<=j)(_:j<2^62)(_:R (AT 0 j.toNat) H1)
def P5(ta:TA):TI:=λσ H R=>ta σ H λvs H1=>Uag R vs H1
theorem aO(d:Gl X "range")(f:X.mg "range"=Β)(g:PA X [a] ta)(i:autoParam (Á [a] X.env=[(Ε,eval a X.env)]) η):PI X tg (.Call (.Name "range" p) [a] [] pos) (P5 ta):=by
 intro b s l H R I h
 refine Call_ (i7 I d f boot_range (Ē (b8 (g pos b s l H _ I h) λus w m=>?_) i Λ))
 obtain⟨x,y,n,o,c⟩:=m
 obtain⟨j,e,c,u,q⟩:=c
 subst e
 cases o with
 | cons r v =>
  cases v
  obtain⟨t,rfl⟩:=r
  exact call_range_1 (xo n (Φ _) (Φ _) c u (by simpa using q))
def VO(wi:TI)(g:TG)(tb:TS):TS:=λD σ H=>wi σ H λJ H1=>∃W:Nat->Nat->St->Hp->Prop,(∃m,W 0 m σ H1)/\∀i m σ H,W i m σ H->
 (J.stop i H/\D.nx σ H)∨(J.go i H/\∃N:St->Hp->Prop,(∀σ' H',N σ' H'->∃m',m'< m/\W (i+1) m' σ' H')/\∀x H',J.K5 i H x H'->g x σ H' λσ2 H2=>tb {D with nx:=N,ct:=N,bk:=D.nx} σ2 H2)
noncomputable def fE(fp:List Ν)(h:Ü):List (Ν×Obj):=fp.filterMap λb=>(h.get? b).map λo=>(b,o)
theorem fF(a:b∈fp)(e:h.get? b=Α o):(b,o)∈fE fp h:=RQ.mpr ⟨b,a,by rw[e];rfl⟩
theorem mG(a:p∈fE fp h):p.1∈fp/\h.get? p.1=Α p.2:=by
 obtain⟨b,c,e⟩:=RQ.mp a
 cases q:h.get? b with
 |none=>rw[q]at e;cases e
 | some o =>
  rw[q]at e
  have d:=Ϝ e
  subst d
  exact⟨c,q⟩
theorem ς.pinned{a:St}(I:ς X ν a H s)(g:∀b∈fp,ik X ν H b)(h:∀b∈fp,∃o,s.heap.get? b=Α o/\∀v,o.data≠.cell v):ς X (ν++fE fp s.heap) a H s:=
 I.E6 λp i=>(ϯ.mp i).elim (λz=>I.pin p (ϫ _ z)) λz=>by
  obtain⟨c,e⟩:=mG z
  obtain⟨j,l,m,_⟩:=g p.1 c
  obtain⟨o,f,d⟩:=h p.1 c
  rw[e]at f;cases f
  exact⟨e,j,l,m,d⟩
theorem ς.FG{a:St}(I:ς X (ν++pl) a H s):ς X ν a H s:=I.E6 λp b=>I.pin p (ϫ _ (Í _ b))
theorem aT(F:PassesOwn (Ϣ X.prog X.w) X.A X.env X.xe)(Z:X.calm=Δ)(hi:PI X tg iter wi)(hg:PG X tg g)(j:GF X body tb)
  (hs:autoParam (∀x,GV iter X.env x=pure x) ψ):PS X (.For tg iter body [] pos) (VO wi g tb):=by
 intro a s σ H D I h
 refine wpAny_For (b8 (hi a s σ H _ I h) λv s1 h1=>b8 h1 λT6 s2 h2=>?_) hs
 obtain⟨it,G,tn,J,H2,e,I2,T,P6,f2,W,⟨m0,w0⟩,K⟩:=h2
 subst e
 have l:∀{B:Hp},(∀b∈G,B b=Β)->∀b∈G,ik X a B b:=λhn b j=>⟨hn b j,(f2 b j).2⟩
 refine codeAny_forLoop_any (λn s'=>∃i p B,ς X a p B s'/\tn i s'.heap/\(∀b∈G,B b=Β)/\W i n p B) ?_ m0 ⟨0,σ,H2,I2,P6,λb j=>(f2 b j).1,w0⟩
 rintro n s3 ⟨i,q,P,I3,L,M,w3⟩
 rcases K i n q P w3 with ⟨stop,qn⟩|⟨go,N,hN,step⟩
 ·refine ħ F (b8 (T.done X Λ Λ Λ Z i a s3 q P X.xe I3 (l M) L stop) λr s4 E=>?_)
  obtain⟨Q,I4⟩:=E
  subst Q
  exact Ņ ⟨q,P,I4,qn⟩
 ·refine ħ F (b8 (T.item X Λ Λ Λ Z i a s3 q P X.xe I3 (l M) L go) λr s4 E=>?_)
  obtain⟨u,Q,h4⟩:=E
  subst Q
  refine ħ F (b8 h4 λ_ s5 E=>?_)
  obtain⟨x,H5,I5,r5,y5,R,T8⟩:=E
  have S:=I5.pinned (l T8) (T.obj _ _ R)
  refine ħ F (b8 (hg _ s5 q H5 x u _ S r5 (step x H5 y5)) λ_ s6 E=>?_)
  obtain⟨U,H6,I6,q6⟩:=E
  refine ħ F (b8 (j _ s6 U H6 _ I6 q6) λf Y C=>?_)
  have t:∀{c:St}{y:Hp},ς X (a++fE G s5.heap) c y Y->N c y->∃m,m<n/\∃i p B,ς X a p B Y/\tn i Y.heap/\(∀b∈G,B b=Β)/\W i m p B:=λ{c y} z O=>by
   obtain⟨m',hm,w7⟩:=hN c y O
   refine⟨_,hm,_,c,y,z.FG,T.keep _ _ _ R λb j o e=>(z.pin (b,o) (ϫ _ (ϫ _ (fF j e)))).1,λb j=>?_,w7⟩
   obtain⟨o,e,d⟩:=T.obj _ _ R b j
   exact(z.pin (b,o) (ϫ _ (ϫ _ (fF j e)))).2.1
  cases f with
  |next=>obtain⟨c,y,z,O⟩:=C;exact t z O
  |cont=>obtain⟨c,y,z,O⟩:=C;exact t z O
  |brk=>obtain⟨c,y,z,C⟩:=C;exact⟨c,y,z.FG,C⟩
  |ret v=>obtain⟨x7,c,y,z,r7,C⟩:=C;exact⟨_,c,y,z.FG,r7,C⟩
end
theorem bZ{K:ϧ}{g:TG}{l:TS}{D:eV}(c:Nat->St->Hp->Prop)(r:c 0 b H)(s:∀i b H,i<=xs.length->c i b H->DT K H a xs)
  (t:∀i x b H,xs[i]?=Α x->c i b H->g x b H λd j=>l {D with nx:=c (i+1),ct:=c (i+1),bk:=D.nx} d j) (v:∀b H,c xs.length b H->D.nx b H):
  ∃W:Nat->Nat->St->Hp->Prop,(∃m,W 0 m b H)/\∀i m b H,W i m b H->
   ((vJ K a).stop i H/\D.nx b H)∨((vJ K a).go i H/\∃N:St->Hp->Prop,(∀f h,N f h->∃n,n<m/\W (i+1) n f h)/\∀x h,(vJ K a).K5 i H x h->g x b h λd j=>l {D with nx:=N,ct:=N,bk:=D.nx} d j):=by
 refine⟨λi m b H=>m=xs.length - i/\i<=xs.length/\c i b H,⟨xs.length,by simp,Ϧ _,r⟩,?_⟩
 rintro i m b H ⟨rfl,w,p⟩
 have q:=s i b H w p
 by_cases o:i<xs.length
 ·refine .inr ⟨⟨xs,xs[i],q,by simp[o]⟩,c (i+1),λf h z=>⟨xs.length - (i+1),by omega,Λ,o,z⟩,λx h y=>?_⟩
  obtain⟨e,y⟩:=y
  subst e
  exact t i x b _ (y xs q) p
 ·have e:i=xs.length:=by omega
  subst e
  exact .inl ⟨⟨xs,q,Ρ _⟩,v b H p⟩
theorem aV{h:Int}{g:TG}{o:TS}{D:eV}(b:Nat->St->Hp->Prop)(r:b 0 a H)
  (s:∀i a H,i<n->b i a H->g (.int (h+i)) a H λc j=>o {D with nx:=b (i+1),ct:=b (i+1),bk:=D.nx} c j) (u:∀a H,b n a H->D.nx a H):
  ∃W:Nat->Nat->St->Hp->Prop,(∃m,W 0 m a H)/\∀i m a H,W i m a H->
   ((AT h n).stop i H/\D.nx a H)∨((AT h n).go i H/\∃N:St->Hp->Prop,(∀d f,N d f->∃q,q<m/\W (i+1) q d f)/\∀x f,(AT h n).K5 i H x f->g x a f λc j=>o {D with nx:=N,ct:=N,bk:=D.nx} c j):=by
 refine⟨λi m a H=>m=n - i/\i<=n/\b i a H,⟨n,by simp,Ϧ _,r⟩,?_⟩
 rintro i m a H ⟨rfl,w,p⟩
 by_cases l:i<n
 ·refine .inr ⟨l,b (i+1),λd f v=>⟨n - (i+1),by omega,Λ,l,v⟩,λx f y=>?_⟩
  obtain⟨e,y⟩:=y
  subst e y
  exact s i a _ l p
 ·have e:i=n:=by omega
  subst e
  exact .inl ⟨Ρ _,u a H p⟩
abbrev R2:=V->V->Hp->VK->Prop
def eU(X:Cx)(f:Τ->Τ->Sem Τ)(r:R2):Prop:=
 ∀(ν:List (Ν×Obj))(s:Ψ)(σ:St)(H:Hp)(x y:V)(v u:Τ)(Q:VK),ς X ν σ H s->RelV x v->RelV y u->r x y H Q->
  ϣ (Ϣ X.prog X.w) X.A (f v u) (EP X ν σ Q) X.xe s
def VP(X:Cx)(f:Τ->Sem Τ)(r:V->Hp->VK->Prop):Prop:=
 ∀(ν:List (Ν×Obj))(s:Ψ)(σ:St)(H:Hp)(x:V)(v:Τ)(Q:VK),ς X ν σ H s->RelV x v->r x H Q->
  ϣ (Ϣ X.prog X.w) X.A (f v) (EP X ν σ Q) X.xe s
def cZ(X:Cx)(f:Τ)(r:List V->Hp->VK->Prop):Prop:=
 ∀(ν:List (Ν×Obj))(s:Ψ)(σ:St)(H:Hp)(xs:List V)(us:List Τ)(Q:VK),ς X ν σ H s->τ xs us->r xs H Q->
  ϣ (Ϣ X.prog X.w) X.A (call f us) (EP X ν σ Q) X.xe s
def VQ(X:Cx)(r:V->Hp->(Bool->Hp->Prop)->Prop):Prop:=
 ∀(ν:List (Ν×Obj))(s:Ψ)(σ:St)(H:Hp)(x:V)(v:Τ)(Q:Bool->Hp->Prop),ς X ν σ H s->RelV x v->r x H Q->
  ϣ (Ϣ X.prog X.w) X.A (truthy v) (TP X ν σ Q) X.xe s
def T9(r:R2)(ta tb:TE):TE:=λσ H Q=>ta σ H λx H1=>tb σ H1 λy H2=>r x y H2 Q
def tUn(r:V->Hp->VK->Prop)(ta:TE):TE:=λσ H Q=>ta σ H λx H1=>r x H1 Q
inductive rI(C:Int->Int->Prop)(g:Int->Int->V)(x:V)(y:V)(H:Hp)(Q:VK):Prop
 |mk (i j)(_:x=.int i)(_:y=.int j)(_:C i j)(_:Q (g i j) H)
inductive vF(g:Int->Int->V)(x:V)(y:V)(H:Hp)(Q:VK):Prop
 |mk (i j)(_:x=.int i)(_:y=.int j)(_:Q (g i j) H)
inductive rU(g:Int->V)(x:V)(H:Hp)(Q:VK):Prop
 |mk (i)(_:x=.int i)(_:Q (g i) H)
section
variable {X:Cx}{a b c:Expr}{ta tb tc:TE}{pos:Pos}
theorem D8(n:PE X a ta)(o:PE X b tb){d:St}{R:V->V->Hp->Prop}(I:ς X ν d H s)
  (h:ta d H λx l=>tb d l λy e=>R x y e) {f:Τ->Τ->Sem Τ}
  (p:∀v u j x y e,ς X ν d e j->RelV x v->RelV y u->R x y e->ϣ (Ϣ X.prog X.w) X.A (f v u) Q X.xe j):
  ϣ (Ϣ X.prog X.w) X.A (eval a X.env) (λv g=>ϣ (Ϣ X.prog X.w) X.A (eval b X.env) (λu i=>ϣ (Ϣ X.prog X.w) X.A (f v u) Q X.xe i) X.xe g) X.xe s:=by
 refine b8 (n ν s d H _ I h) λv q m=>?_
 obtain⟨x,l,r,t,z⟩:=m
 refine b8 (o ν q d l _ r z) λu j m=>?_
 obtain⟨y,e,B,C,D⟩:=m
 exact p v u j x y e B t C D
theorem aI(e:eU X (binaryOp op) r)(f:PE X a ta)(g:PE X b tb):PE X (.BinOp a op b pos) (T9 r ta tb):=by
 intro d s i H Q I h
 exact wpAny_BinOp (D8 f g I h λv u j x y l m n o q=>e d j i l x y v u Q m n o q)
theorem Bk(f:VP X (unaryOp op) r)(g:PE X a ta):PE X (.UnaryOp op a pos) (tUn r ta):=by
 intro d s e H Q I h
 exact UnaryOp_ (b8 (g d s e H _ I h) λv i j=>by obtain⟨x,l,m,n,o⟩:=j;exact f d i e l x v Q m n o)
theorem O4{g:Int->Int->Int}
  (d:∀(i j:Int)(t u:Tok)(s:Ψ)(Q:Τ->Ψ->Prop)(E:Τ->Ψ->Prop),C i j->Q (.int (g i j) s.toks) {s with toks:=s.toks+1}->ϣ (Ϣ X.prog X.w) X.A (f (.int i t) (.int j u)) Q E s):
  eU X f (rI C λi j =>.int (g i j)):=by
 intro l s r H x y v u Q I m n h
 obtain⟨i,j,rfl,rfl,o,q⟩:=h
 obtain⟨t,rfl⟩:=m
 obtain⟨p,rfl⟩:=n
 exact d i j t p s _ _ o ⟨.int (g i j),H,I.tok _,⟨_,Λ⟩,q⟩
theorem uW{g:Int->Int->Int}
  (d:∀(i j:Int)(t u:Tok)(s:Ψ)(Q:Τ->Ψ->Prop)(E:Τ->Ψ->Prop),Q (.int (g i j) s.toks) {s with toks:=s.toks+1}->ϣ (Ϣ X.prog X.w) X.A (f (.int i t) (.int j u)) Q E s):
  eU X f (vF λi j =>.int (g i j)):=by
 intro l s p H x y v u Q I m n h
 obtain⟨i,j,rfl,rfl,q⟩:=h
 obtain⟨t,rfl⟩:=m
 obtain⟨o,rfl⟩:=n
 exact d i j t o s _ _ ⟨.int (g i j),H,I.tok _,⟨_,Λ⟩,q⟩
theorem zG{g:Int->Int->Bool}
  (d:∀(i j:Int)(t u:Tok)(s:Ψ)(Q:Τ->Ψ->Prop)(E:Τ->Ψ->Prop),Q (.bool (g i j)) s->ϣ (Ϣ X.prog X.w) X.A (f (.int i t) (.int j u)) Q E s):
  eU X f (vF λi j =>.bl (g i j)):=by
 intro e s o H x y v u Q I l m h
 obtain⟨i,j,rfl,rfl,q⟩:=h
 obtain⟨t,rfl⟩:=l
 obtain⟨n,rfl⟩:=m
 exact d i j t n s _ _ ⟨.bl (g i j),H,I,Λ,q⟩
def VR(i j:Int):Prop:=0<j/\j<1073741824
def P7(i j:Int):Prop:=0<=j/\j<=1000000/\i.natAbs<2^64
def MY(i j:Int):Prop:=(-(2^64)<i/\i<2^64)∨(-(2^64)<j/\j<2^64)
theorem MY.ok(h:MY i j):IntMulOk i j:=by
 rcases h with ⟨d,e⟩|⟨d,e⟩
 ·exact .of_left (intBits_le_64 d e)
 ·exact .of_right (intBits_le_64 d e)
theorem qX(k:Nat):(0:Int)<=2^k:=by
 rw[two_pow_cast]
 exact Φ _
theorem c6:eU X (binaryOp .Add) (vF λi j =>.int (i+j)):=uW λ_ _ _ _ _ _ _ q=>add_int q
theorem e8:eU X (binaryOp .Sub) (vF λi j =>.int (i - j)):=uW λ_ _ _ _ _ _ _ q=>sub_int q
theorem oy:eU X (binaryOp .Mult) (rI MY λi j =>.int (i* j)):=O4 λ_ _ _ _ _ _ _ d q=>mul_int q d.ok
theorem dS:eU X (binaryOp .FloorDiv) (rI VR λi j =>.int (i / j)):=O4 λi j _ _ _ _ _ d q=>by
 have e:=d.1
 have f:=d.2
 exact floordiv_int (by omega) (by rw[Lz i (gg ‹_›)];exact q) (.inl (PyProof.noPylong_small (by omega)))
theorem ck:eU X (binaryOp .Mod) (rI (λ_ j=>0<j) λi j =>.int (i% j)):=O4 λi j _ _ _ _ _ d q=>by
 have e:=d
 exact mod_int' (by omega) (by rw[Int.fmod_eq_emod_of_nonneg i (gg ‹_›)];exact q)
theorem rV:eU X (binaryOp .Pow) (rI P7 λi j =>.int (i^j.toNat)):=O4 λ_ _ _ _ _ _ _ d q=>pow_int_small d.1 d.2.1 d.2.2 q
theorem ou:eU X (binaryOp .LShift) (rI P7 λi j =>.int (i* 2^j.toNat)):=O4 λ_ _ _ _ _ _ _ d q=>lshift_int_small d.1 d.2.1 d.2.2 q
theorem jv:eU X (binaryOp .RShift) (rI (λ_ j=>0<=j) λi j =>.int (i / 2^j.toNat)):=O4 λi j _ _ _ _ _ d q =>
 rshift_int d (by rw[Lz i (qX _)];exact q)
theorem i5:eU X (binaryOp .BitAnd) (vF λi j =>.int (ç i j)):=uW λ_ _ _ _ _ _ _ q=>and_int q
theorem x8:eU X (binaryOp .BitOr) (vF λi j =>.int (Ť i j)):=uW λ_ _ _ _ _ _ _ q=>or_int q
theorem oF:eU X (inplaceOp .Add) (vF λi j =>.int (i+j)):=uW λ_ _ _ _ _ _ _ q=>iadd_int q
theorem uy:eU X (inplaceOp .Sub) (vF λi j =>.int (i - j)):=uW λ_ _ _ _ _ _ _ q=>isub_int q
theorem unI{g:Int->Int}
  (d:∀(i:Int)(t:Tok)(s:Ψ)(Q:Τ->Ψ->Prop)(E:Τ->Ψ->Prop),Q (.int (g i) s.toks) {s with toks:=s.toks+1}->ϣ (Ϣ X.prog X.w) X.A (f (.int i t)) Q E s):
  VP X f (rU λi =>.int (g i)):=by
 intro j s m H x v Q I l h
 obtain⟨i,rfl,q⟩:=h
 obtain⟨t,rfl⟩:=l
 exact d i t s _ _ ⟨.int (g i),H,I.tok _,⟨_,Λ⟩,q⟩
theorem vL:VP X (unaryOp .USub) (rU λi =>.int (-i)):=unI λ_ _ _ _ _ q=>neg_int q
end
noncomputable def BN:V->V->Bool
 |.Eh,.Eh=>Δ|.Eh,.int _=>Δ|.int _,.Eh=>Δ|.Eh,.bl _=>Δ|.bl _,.Eh=>Δ|.Eh,.str _=>Δ|.str _,.Eh=>Δ
 |.int _,.int _=>Δ|.bl _,.bl _=>Δ|.str _,.str _=>Δ|.Jf _,.Jf _=>Δ
 |.int _,.str _=>Δ|.str _,.int _=>Δ|.bl _,.str _=>Δ|.str _,.bl _=>Δ
 |_,_=>Ε
def rEq:R2:=λx y H Q=>BN x y=Δ/\Q (.bl (decide (x=y))) H
def rNe:R2:=λx y H Q=>BN x y=Δ/\Q (.bl (!decide (x=y))) H
theorem uC:decide (V.int i=V.int j)=(i == j):=by
 rw[ĝ]
 simp
theorem y8:decide (V.bl i=V.bl j)=(i == j):=by
 rw[ĝ]
 simp
theorem uB:decide (V.str i=V.str j)=(i == j):=by
 rw[ĝ]
 simp
theorem uD:decide (V.Jf i=V.Jf j)=(i.toList == j.toList):=by
 rw[ĝ]
 cases i
 cases j
 simp
section
variable {X:Cx}{a b c:Expr}{ta tb tc:TE}{pos:Pos}
theorem aZ{d:St}(I:ς X ν d H s)(q:Q (.bl k) H)(e:k=k'):EP X ν d Q (.bool k') s:=by
 subst e
 exact⟨.bl k,H,I,Λ,q⟩
theorem bN:eU X (compareOp .Eq) rEq:=by
 intro l s m H x y v u Q I g d h
 obtain⟨f,q⟩:=h
 cases x with
 | Eh =>
  cases g
  cases y with
  |Eh=>cases d;exact PySem.EqNone.eq_none_none (aZ I q (by simp))
  |bl j=>cases d;exact PySem.EqNone.eq_none_bool (aZ I q (by simp))
  |int j=>obtain⟨e,rfl⟩:=d;exact PySem.EqNone.eq_none_int (aZ I q (by simp))
  |str j=>obtain⟨e,rfl⟩:=d;exact PySem.EqNone.eq_none_str (aZ I q (by simp))
  |_=>exact Κ (f) ϝ
 | bl i =>
  cases g
  cases y with
  |Eh=>cases d;exact PySem.EqNone.eq_bool_none (aZ I q (by simp))
  |bl j=>cases d;exact eq_bool (aZ I q y8)
  |str j=>obtain⟨e,rfl⟩:=d;exact PySem.EqMixed.eq_bool_str (aZ I q (by simp))
  |_=>exact Κ (f) ϝ
 | int i =>
  obtain⟨t,rfl⟩:=g
  cases y with
  |Eh=>cases d;exact PySem.EqNone.eq_int_none (aZ I q (by simp))
  |int j=>obtain⟨e,rfl⟩:=d;exact eq_int (aZ I q uC)
  |str j=>obtain⟨e,rfl⟩:=d;exact PySem.EqMixed.eq_int_str (aZ I q (by simp))
  |_=>exact Κ (f) ϝ
 | str i =>
  obtain⟨t,rfl⟩:=g
  cases y with
  |Eh=>cases d;exact PySem.EqNone.eq_str_none (aZ I q (by simp))
  |bl j=>cases d;exact PySem.EqMixed.eq_str_bool (aZ I q (by simp))
  |int j=>obtain⟨e,rfl⟩:=d;exact PySem.EqMixed.eq_str_int (aZ I q (by simp))
  |str j=>obtain⟨e,rfl⟩:=d;exact eq_str (aZ I q uB)
  |_=>exact Κ (f) ϝ
 | Jf i =>
  obtain⟨t,rfl⟩:=g
  cases y with
  |Jf j=>obtain⟨e,rfl⟩:=d;exact PySem.W.eq_bytes (aZ I q uD)
  |_=>exact Κ (f) ϝ
 |_=>cases y<;>exact Κ (f) ϝ
theorem jE:eU X (compareOp .NotEq) rNe:=by
 intro l s m H x y v u Q I g d h
 obtain⟨f,q⟩:=h
 cases x with
 | Eh =>
  cases g
  cases y with
  |Eh=>cases d;exact PySem.EqNone.ne_none_none (aZ I q (by simp))
  |bl j=>cases d;exact PySem.EqNone.ne_none_bool (aZ I q (by simp))
  |int j=>obtain⟨e,rfl⟩:=d;exact PySem.EqNone.ne_none_int (aZ I q (by simp))
  |str j=>obtain⟨e,rfl⟩:=d;exact PySem.EqNone.ne_none_str (aZ I q (by simp))
  |_=>exact Κ (f) ϝ
 | bl i =>
  cases g
  cases y with
  |Eh=>cases d;exact PySem.EqNone.ne_bool_none (aZ I q (by simp))
  |bl j=>cases d;exact ne_bool (aZ I q (congrArg not y8))
  |str j=>obtain⟨e,rfl⟩:=d;exact PySem.EqMixed.ne_bool_str (aZ I q (by simp))
  |_=>exact Κ (f) ϝ
 | int i =>
  obtain⟨t,rfl⟩:=g
  cases y with
  |Eh=>cases d;exact PySem.EqNone.ne_int_none (aZ I q (by simp))
  |int j=>obtain⟨e,rfl⟩:=d;exact ne_int (aZ I q (congrArg not uC))
  |str j=>obtain⟨e,rfl⟩:=d;exact PySem.EqMixed.ne_int_str (aZ I q (by simp))
  |_=>exact Κ (f) ϝ
 | str i =>
  obtain⟨t,rfl⟩:=g
  cases y with
  |Eh=>cases d;exact PySem.EqNone.ne_str_none (aZ I q (by simp))
  |bl j=>cases d;exact PySem.EqMixed.ne_str_bool (aZ I q (by simp))
  |int j=>obtain⟨e,rfl⟩:=d;exact PySem.EqMixed.ne_str_int (aZ I q (by simp))
  |str j=>obtain⟨e,rfl⟩:=d;exact ne_str (aZ I q (congrArg not uB))
  |_=>exact Κ (f) ϝ
 | Jf i =>
  obtain⟨t,rfl⟩:=g
  cases y with
  |Jf j=>obtain⟨e,rfl⟩:=d;exact PySem.W.ne_bytes (aZ I q (congrArg not uD))
  |_=>exact Κ (f) ϝ
 |_=>cases y<;>exact Κ (f) ϝ
theorem mB:eU X (compareOp .Lt) (vF λi j =>.bl (decide (i<j))):=zG λ_ _ _ _ _ _ _ q=>lt_int q
theorem pQ:eU X (compareOp .LtE) (vF λi j =>.bl (decide (i<=j))):=zG λ_ _ _ _ _ _ _ q=>le_int q
theorem ua:eU X (compareOp .Gt) (vF λi j =>.bl (decide (j<i))):=zG λ_ _ _ _ _ _ _ q=>gt_int q
theorem Bl:eU X (compareOp .GtE) (vF λi j =>.bl (decide (j<=i))):=zG λ_ _ _ _ _ _ _ q=>ge_int q
theorem jw:eU X (compareOp .Is) (λx y H Q=>y=.Eh/\Q (.bl (decide (x=.Eh))) H):=by
 intro d s g H x y v u Q I e f h
 obtain⟨rfl,q⟩:=h
 cases f
 refine is_none_gen (aZ I q ?_)
 cases x<;>first
  |(cases e;rfl)
  |(obtain⟨t,rfl⟩:=e;rfl)
theorem jT:eU X (compareOp .IsNot) (λx y H Q=>y=.Eh/\Q (.bl (!decide (x=.Eh))) H):=by
 intro d s g H x y v u Q I e f h
 obtain⟨rfl,q⟩:=h
 cases f
 refine isnot_none_gen (aZ I q ?_)
 cases x<;>first
  |(cases e;rfl)
  |(obtain⟨t,rfl⟩:=e;rfl)
theorem aC(b:Expr)(h:autoParam (op≠.In) θ)(d:autoParam (op≠.NotIn) θ):e6 op b=Ε:=by
 have e:(op == CmpOp.In)=Ε:=by cases op<;>first|rfl|exact Κ Λ h
 have f:(op == CmpOp.NotIn)=Ε:=by cases op<;>first|rfl|exact Κ Λ d
 cases b<;>simp[e6,e,f]
theorem cP(e:eU X (compareOp op) r)(f:PE X a ta)(g:PE X b tb)(i:e6 op b=Ε):PE X (.Compare a [op] [b] pos) (T9 r ta tb):=by
 intro d s j H Q I h
 exact wpAny_Compare1 (D8 f g I h λv u l x y m n o p q=>e d l j m x y v u Q n o p q) i
inductive Uah(Q:Bool->Hp->Prop)(x:V)(H':Hp):Prop
 |mk (k)(_:x=.bl k)(_:Q k H')
def P8(t:TE):TT:=λσ H Q=>t σ H λx H'=>Uah Q x H'
theorem az(g:eU X (compareOp op) r)(i:PE X a ta)(j:PE X b tb)(l:e6 op b=Ε):PT X (.Compare a [op] [b] pos) (P8 (T9 r ta tb)):=by
 intro d s f H Q I h
 refine Wv (b8 (i d s f H _ I h) λv m ⟨x,n,o,p,q⟩=>b8 (j d m f n _ o q) λu t ⟨y,w,A,B,C⟩ =>
  b8 (g d t f w x y v u _ A p B C) λc J ⟨z,D,E,F,k,e,G⟩=>?_) l
 subst e
 cases F
 exact ì ⟨D,E,G⟩
inductive Uai(r':R2)(tc:TE)(σ:St)(Q:VK)(y:V)(z:V)(H3:Hp):Prop
 |mk (k)(_:z=.bl k)(_:(if k=Δ then tc σ H3 λw' H4=>r' y w' H4 Q else Q (.bl Ε) H3))
def BI(r r':R2)(ta tb tc:TE):TE:=λσ H Q=>ta σ H λx H1=>tb σ H1 λy H2=>r x y H2 λz H3=>Uai r' tc σ Q y z H3
theorem pP(n:eU X (compareOp op) r)(o:eU X (compareOp VS) r')(p:PE X a ta)(q:PE X b tb)(t:PE X c tc)
  (w:lastMarks [op,VS] [b,c]=Ε:=by with_unfolding_all rfl):PE X (.Compare a [op,VS] [b,c] pos) (BI r r' ta tb tc):=by
 intro f s g H Q I h
 refine Compare_chain (b8 (p f s g H _ I h) λv A ⟨x,B,C,D,E⟩=>chain_link (b8 (q f A g B _ C E) λu F ⟨y,G,J,i,K⟩ =>
  b8 (n f F g G x y v u _ J D i K) λd L ⟨z,j,l,M,k,e,m⟩=>?_)) w
 subst e
 cases M
 refine ì ?_
 cases k with
 |false=>exact ite_ff ⟨.bl Ε,j,l,Λ,m⟩
 |true=>exact ite_tt (chain_last (b8 (t f L g j _ l m) λN O P=>by obtain⟨R,S,T,U,Y⟩:=P;exact o f O g S y R u N Q T i U Y))
def DG(K:ϧ)(x:V)(H:Hp)(k:Bool):Prop:=
 match x with
 |.Eh=>k=Ε
 |.bl b=>k=b
 |.int i=>k=(i != 0)
 |.str y=>y.length<=ό/\k=((y.length:Int) != 0)
 |.Jf y=>y.size<=ό/\k=((y.size:Int) != 0)
 |.ref p=>(∃xs,DT K H p xs/\k= !xs.isEmpty)∨(∃xs,Ec K H p xs/\k= !xs.isEmpty)∨∃kvs,H p=Α (.dK kvs)/\k= !kvs.isEmpty
 |_=>False
theorem sE(r:KV kvs vs):(!vs.isEmpty)= !kvs.isEmpty:=by
 cases r<;>rfl
theorem lw(r:τ xs DW):(!DW.toArray.isEmpty)= !xs.isEmpty:=by
 cases r<;>simp
theorem j1:(ό:Nat)<2^63:=by rw[Ω];decide
theorem B3:VQ X (λx H Q=>∃k,DG X.K x H k/\Q k H):=by
 intro u s B H x v Q I j h
 obtain⟨k,e,q⟩:=h
 have C:=j1
 have D:=Ω
 cases x with
 | Eh =>
  cases j
  have d:=e
  subst d
  exact truthy_none ⟨H,I,q⟩
 | bl b =>
  cases j
  have d:=e
  subst d
  exact ì ⟨H,I,q⟩
 | int i =>
  obtain⟨t,rfl⟩:=j
  have d:=e
  subst d
  exact PySem.P.truthy_int ⟨H,I,q⟩
 | str y =>
  obtain⟨t,rfl⟩:=j
  obtain⟨hy,d⟩:y.length<=ό/\k=((y.length:Int) != 0):=e
  subst d
  exact PySem.P.truthy_str (by omega) ⟨H,I.tok _,q⟩
 | Jf y =>
  obtain⟨t,rfl⟩:=j
  obtain⟨hy,d⟩:y.size<=ό/\k=((y.size:Int) != 0):=e
  subst d
  exact PySem.W.truthy_bytes (by omega) ⟨H,I.tok _,q⟩
 | ref p =>
  cases j
  have d:=e
  rcases d with ⟨xs,l,d⟩|⟨xs,l,d⟩|⟨kvs,l,d⟩
  ·subst d
   obtain⟨A,r,o,z⟩:=I.list l
   have g:=r.length
   exact wpAny_truthy_list o.isList (by simp only[Ϩ];omega) ⟨H,I.tok _,by rw[lw r];exact q⟩
  ·subst d
   obtain⟨A,r,o,z⟩:=I.tuple l
   have g:=r.length
   exact truthy_tuple o (by simp only[Ϩ];omega) ⟨H,I.tok _,by rw[lw r];exact q⟩
  ·subst d
   obtain⟨z,hS,n,r,m⟩:kvs.length<=ό/\(p == ü)=Ε/\∃n,KV kvs n/\s.heap.DictOf (bG X.prog X.w) p n:=I.DY p _ l
   have g:=Paired.length r
   exact wpAny_truthy_dict hS m (by omega) ⟨H,I.tok _,by rw[sE r];exact q⟩
 |_=>exact(e).elim
theorem dE(i:PE X a ta)(j:∀d,isTrue a X.env d=(do let v ← d;GS a.pos;ic [v] (truthy v))):
  PT X a (λf H Q=>ta f H λx g=>∃k,DG X.K x g k/\Q k g):=by
 intro e s f H Q I h
 exact isTrue_plain (b8 (i e s f H _ I h) λv l m=>by obtain⟨x,n,o,p,q⟩:=m;exact B3 e l f n x v Q o p q) (j _)
theorem lW(r:τ [x] us):∃u,us=[u]/\RelV x u:=by
 cases r with
 |cons d e=>cases e;exact⟨_,Λ,d⟩
theorem vals2(r:τ [x,y] us):∃u d,us=[u,d]/\RelV x u/\RelV y d:=by
 cases r with
 | cons e f =>
  cases f with
  |cons g h=>cases h;exact⟨_,_,Λ,e,g⟩
theorem yE:cZ X (.builtin "abs") (λxs H Q=>∃i,xs=[.int i]/\Q (.int (if i<0 then -i else i)) H):=by
 intro d s e H xs us Q I r h
 obtain⟨i,rfl,q⟩:=h
 obtain⟨u,rfl,t,rfl⟩:=lW r
 exact call_abs_int λu f=>⟨.int (if i<0 then -i else i),H,I.tok _,⟨_,Λ⟩,q⟩
theorem vD(f:X.calm=Δ):cZ X (.builtin "max") (λxs H Q=>∃i j,xs=[.int i,.int j]/\Q (.int (if j > i then j else i)) H):=by
 intro e s g H xs us Q I r h
 obtain⟨i,j,rfl,q⟩:=h
 obtain⟨u,l,rfl,⟨t,rfl⟩,⟨m,rfl⟩⟩:=vals2 r
 refine max_two_ints (I.ok.hd f) λn o k=>⟨_,H,I.kept k,?_,q⟩
 by_cases d:j > i
 ·rw[Ι d,Ι d];exact⟨_,Λ⟩
 ·rw[Θ d,Θ d];exact⟨_,Λ⟩
end
structure IM(h:Ü)(x dx C:Ν)(mA:Str->Option Τ):Prop where
 obj:h.get? x=Α (PySem.W.instObj C dx)
 ns:h.Ns1 dx mA
 ne:dx≠x
theorem mO{h:Ü}(n:h.Ns1 dx mA):∃b,h.get? dx=Α b/\∀name,PySem.W.lookIn name b=Α (mA name):=by
 obtain⟨o,c,p,d,f,g,_,i⟩:=n
 refine⟨o,d,λname=>?_⟩
 have e:=i name
 unfold nsFind findBy at e
 rw[←Ry]at e
 unfold PySem.W.lookIn
 rw[f]
 dsimp only
 split
 ·rename_i y q
  rw[q]at e
  exact congrArg Α e
 ·rename_i q
  rw[q]at e
  have a:c.toList.any (·.refKey)=Ε:=by
   rw[n7]
   intro y j
   obtain⟨z,t,l⟩:=g y (Array.mem_toList_iff.mp j)
   simp[DictEntry.refKey,l]
  have m:¬c.toList.any (·.refKey)=Δ:=by rw[a];exact ϝ
  rw[Θ m]
  exact congrArg Α e
theorem IM.look(I:IM h x dx C mA):∃a,PySem.W.InstAt h x (PySem.W.instObj C dx) C (Α a)/\∀name,PySem.W.lookIn name a=Α (mA name):=
 let ⟨a,ho,hl⟩:=mO I.ns
 ⟨a,⟨I.obj,Λ,Λ,ho⟩,hl⟩
section
variable {prog:Program}{w:Î}{A:Ø}{E:Τ->Ψ->Prop}{s:Ψ}{K:ϧ}{x dx C f:Ν}{mA:Str->Option Τ}{name:Str}{v:Τ}
theorem Au(X:K.In s.heap)(I:IM s.heap x dx C mA)(b:Œ K C name=Δ)(c:ī K C=Δ)
  (d:Ë K (.ref C) name=Α Β) (e:mA name=Α v) (g:PySem.W.handedIn v=Δ) (h:Q v {s with toks:=s.toks+1}):
  ϣ (Ϣ prog w) A (getAttr (.ref x) name expr) Q E s:=by
 obtain⟨j,J,i⟩:=I.look
 exact PySem.W.get_value X J (PySem.W.plainGet_of b).1 (PySem.W.findObj_own c d Λ (by rw[i,e])) g h
theorem yu(X:K.In s.heap)(I:IM s.heap x dx C mA)(a:Œ K C name=Δ)
  (b:Ë K (.ref C) name=Α (Α (.ref f))) (c:isFn K (.ref f)=Δ) (d:mA name=Β) (h:Q (.ref f,[.ref x]) s):
  ϣ (Ϣ prog w) A (getMethod (.ref x) name pl) Q E s:=by
 obtain⟨e,J,g⟩:=I.look
 exact PySem.W.method_fn X J (PySem.W.plainGet_of a).1 (PySem.W.plainGet_of a).2 b (beq_iff_eq.mp c) (by show(PySem.W.lookIn name e).map (·.isSome)=Α Ε;rw[g,d];rfl) h
theorem zd(X:K.In s.heap)(I:IM s.heap x dx C mA)
  (i:Ë K (.ref C) "__setattr__"=Α (Α (.builtin "object.__setattr__"))) (j:ř K C=Δ) (l:PySem.W.takerIn K C name=Α Β) (m:ī K C=Δ)
  (n:PySem.Within mA ns) (o:ns.length<=ό)
  (h:∀c,IM c x dx C (λy=>if y=name then Α v else mA y)->c0 dx s.heap c->Q () {s with heap:=c,toks:=s.toks+2}):
  ϣ (Ϣ prog w) A (setAttr (.ref x) name v) Q E s:=by
 obtain⟨G,J,H⟩:=I.look
 refine PySem.W.set_plain X J i (PySem.W.osa_open (s:={s with toks:=s.toks+1}) (r:=Β) X J j l λb=>?_)
 obtain⟨L,p,q⟩:=PySem.W.any_some m
 have t:=I.obj
 refine Ξ (Ϡ (Ξ (Ξ (ND t (Ξ (PySem.W.Looks.here (s:={s with toks:=s.toks+1}) (PySem.W.looks_clsIn X p) ?_))))))
 rw[q]
 refine Ϡ (a:=Α dx) (Ξ (Ϡ (Ξ ?_)))
 refine TQ (s:={s with toks:=s.toks+1}) I.ns λc e g=>?_
 obtain⟨M,u,z,B,D,F⟩:=e.count (PySem.Within.cons name v n)
 refine Ξ (JZ B (by rw[D];exact Kr (À F (by rw[ï];exact Ð ‹_›))) ?_)
 exact Ϡ (h _ ⟨(g.2 _ (Ϟ I.ne)).trans I.obj,e,I.ne⟩ g)
theorem yi(X:K.In s.heap)(b:kb K C=Δ)
  (c:Ë K (.ref C) "__init__"=Α (Α (.ref f))) (e:PySem.W.typeIn K (.ref f)=Α (.type "function"))
  (h:ū (Ϣ prog w) (A.under (.builtin "type.__call__" ⟨.ref C:: vs,kw⟩)) (.call (.ref f) ⟨.ref (s.heap.objs.size+1):: vs,kw⟩) (PySem.W.InitBack (s.heap.objs.size+1) R)
   {s with heap:=(s.heap.push PySem.W.emptyDict).push (PySem.W.instObj C s.heap.objs.size)}):
  ū (Ϣ prog w) A (.call (.ref C) ⟨vs,kw⟩) R s:=by
 obtain⟨i,g,d,t,j⟩:=s
 exact PySem.W.make_core (PySem.W.makes_of X b) (PySem.W.looks_findIn X c) (λself=>PySem.W.bind_fn X self e) (.inl Λ) h
end
noncomputable def aS(f:Str)(v:V):List (Str×V)->List (Str×V)
 |[]=>[(f,v)]
 |(g,x):: r=>if g=f then (g,v):: r else (g,x):: aS f v r
theorem gB(f g:Str)(v:V):∀fs:List (Str×V),(aS f v fs).lookup g=if g=f then Α v else fs.lookup g
 | []=>by
  show Ę g [(f,v)]=_
  by_cases h:g=f
  ·have a:=beq_iff_eq.mpr h
   simp only[Ę,a,Ι h]
  ·have a:=beq_eq_false_iff_ne.mpr h
   simp only[Ę,a,Θ h]
 | (k,x):: r=>by
  have c:=gB f g v r
  rw[show aS f v ((k,x):: r)=(if k=f then (k,v):: r else (k,x):: aS f v r) from Λ]
  by_cases b:k=f
  ·rw[Ι b]
   by_cases h:g=k
   ·have a:=beq_iff_eq.mpr h
    simp only[Ę,a,Ι (h.trans b)]
   ·have a:=beq_eq_false_iff_ne.mpr h
    simp only[Ę,a,Θ (λe:g=f=>h (e.trans b.symm))]
  ·rw[Θ b]
   by_cases h:g=k
   ·have a:=beq_iff_eq.mpr h
    simp only[Ę,a,Θ (λe:g=f=>b (h.symm.trans e))]
   ·have a:=beq_eq_false_iff_ne.mpr h
    simp only[Ę,a]
    exact c
theorem j2(f:Str)(v:V):∀fs:List (Str×V),f∈(aS f v fs).map (·.1)/\∀g,g∈fs.map (·.1)->g∈(aS f v fs).map (·.1)
 |[]=>⟨by simp[aS],λg h=>by simp at h⟩
 | (k,x):: r=>by
  obtain⟨b,c⟩:=j2 f v r
  rw[show aS f v ((k,x):: r)=(if k=f then (k,v):: r else (k,x):: aS f v r) from Λ]
  by_cases a:k=f
  ·rw[Ι a]
   subst a
   exact⟨by simp,λg h=>by simpa using h⟩
  ·rw[Θ a]
   refine⟨?_,λg h=>?_⟩
   ·rw[Ϭ]
    exact ϟ _ b
   ·rw[Ϭ]at h⊢
    rcases ϥ.mp h with e|e
    ·exact ϥ.mpr (.inl e)
    ·exact ϟ _ (c g e)
theorem jH(f:Str)(v:V):∀fs:List (Str×V),(aS f v fs).length<=fs.length+1
 |[]=>by simp[aS]
 | (k,x):: r=>by
  have b:=jH f v r
  rw[show aS f v ((k,x):: r)=(if k=f then (k,v):: r else (k,x):: aS f v r) from Λ]
  by_cases a:k=f
  ·rw[Ι a,ï,ï];exact Ź _
  ·rw[Θ a,ï,ï];exact Ð ‹_›
theorem EL.some_of(r:EL (Α v) o):∃u,o=Α u/\RelV v u:=by
 cases o with
 |none=>exact(r).elim
 |some u=>exact⟨u,Λ,r⟩
theorem EL.none_of(r:EL Β o):o=Β:=by
 cases o with
 |none=>rfl
 |some u=>exact(r).elim
theorem mR(r:RelV v u):PySem.W.handedIn u=Δ:=by
 cases v with
 |Eh=>cases (r);rfl
 |bl b=>cases (r);rfl
 |int i=>obtain⟨t,e⟩:=(r);cases e;rfl
 |str x=>obtain⟨t,e⟩:=(r);cases e;rfl
 |Jf b=>obtain⟨t,e⟩:=(r);cases e;rfl
 |MS b=>obtain⟨t,e⟩:=(r);cases e;rfl
 |ref a=>cases (r);rfl
 |ty n=>cases (r);rfl
section
variable {P:Program}{w:Î}{H H':Hp}{h h':Ü}{a C dx:Ν}{fs GD:List (Str×V)}
theorem jZ(c:Fx P w H h)(e:H a=Α (.ρ C dx fs)):∃b,IM h a dx C b/\(∀f,EL (fs.lookup f) (b f))/\PySem.Within b (fs.map (·.1))/\fs.length<=1000/\H dx=Α (.own a):=by
 obtain⟨d,z,ne,g,b,n,r,q⟩:=(c a _ e)
 exact⟨b,⟨g,n,ne⟩,r,q,z,d⟩
end
structure GK(K:ϧ)(C:Ν):Prop where
 pg:Œ K C Ţ=Δ
 hd:ī K C=Δ
 po:ř K C=Δ
 sa:Ë K (.ref C) "__setattr__"=Α (Α (.builtin "object.__setattr__"))
theorem GK.get{K:ϧ}(c:GK K C)(f:Str):Œ K C f=Δ:=c.pg
def Eb(K:ϧ)(C:Ν)(f:Str):Prop:=Ë K (.ref C) f=Α Β
theorem Eb.PF{K:ϧ}(n:Eb K C f):PySem.W.takerIn K C f=Α Β:=by
 unfold PySem.W.takerIn
 rw[show Ë K (.ref C) f=Α Β from n]
 rfl
structure cb(K:ϧ)(C:Ν)(m:Str)(f:Ν):Prop where
 at_:Ë K (.ref C) m=Α (Α (.ref f))
 fn:isFn K (.ref f)=Δ
 kp:Ϯ K (.ref f)=Δ
section
variable {X:Cx}{ν:List (Ν×Obj)}{σ:St}{H:Hp}{s:Ψ}{a C dx:Ν}{fs:List (Str×V)}{f:Str}{v:V}{A:Ø}{E:Τ->Ψ->Prop}
theorem lz(I:ς X ν σ H s)(e:H a=Α (.ρ C dx fs))(c:GK X.K C)(n:Eb X.K C f)(l:fs.lookup f=Α v)
  (h:∀u d,ς X ν σ H d->RelV v u->Q u d):ϣ (Ϣ X.prog X.w) A (getAttr (.ref a) f b) Q E s:=by
 obtain⟨i,O,r,_,_,_⟩:=jZ I.DY e
 obtain⟨u,j,g⟩:=EL.some_of (v:=v) (o:=i f) (by rw[←l];exact r f)
 exact Au I.EY O (c.get f) c.hd n j (mR g) (h u _ (I.tok _) g)
theorem i8(I:ς X ν σ H s)(e:H a=Α (.ρ C dx fs))(c:GK X.K C)(k:cb X.K C m g)(l:fs.lookup m=Β)
  (h:Q (.ref g,[.ref a]) s):ϣ (Ϣ X.prog X.w) A (getMethod (.ref a) m pl) Q E s:=by
 obtain⟨b,O,r,_,_,_⟩:=jZ I.DY e
 have d:=EL.none_of (by rw[←l];exact r m)
 exact yu I.EY O (c.get m) k.at_ k.fn d h
theorem kK(I:ς X ν σ H s)(e:H a=Α (.ρ C dx fs))(c:GK X.K C)(n:Eb X.K C f)(L:fs.length<1000)(p:RelV y u)
  (h:∀i,ς X ν σ (ο H a (.ρ C dx (aS f y fs))) i->Q () i):ϣ (Ϣ X.prog X.w) A (setAttr (.ref a) f u) Q E s:=by
 obtain⟨j,O,r,l,_,m⟩:=jZ I.DY e
 have t:(fs.map (·.1)).length<=ό:=by rw[ϊ,Ω];omega
 refine zd I.EY O c.sa c.po n.PF c.hd l t λB d D=>h _ ?_
 have F:∃o,B.get? dx=Α o:=let ⟨o,_,_,e',_⟩:=d.ns;⟨o,e'⟩
 refine I.write (x:=a) (e:=dx) (by rw[e];exact Ê) (.inr m) (λb q G z=>(D.2 b G).trans z) F ?_
 refine⟨by rw[ag O.ne];exact m,?_,O.ne,d.obj,_,d.ns,λg=>?_,λg J=>?_⟩
 ·have:=jH f y fs;exact À ‹_› ‹_›
 ·show EL ((aS f y fs).lookup g) (if g=f then Α u else j g)
  rw[gB]
  by_cases q:g=f
  ·rw[Ι q,Ι q];exact p
  ·rw[Θ q,Θ q];exact r g
 ·by_cases q:g=f
  ·rw[q];exact(j2 f y fs).1
  ·refine(j2 f y fs).2 g (l g λz=>J ?_)
   show(if g=f then Α u else j g)=Β
   rw[Θ q];exact z
theorem ς.made(I:ς X ν σ H s):ς X ν σ (ο (ο H s.heap.objs.size (.own (s.heap.objs.size+1))) (s.heap.objs.size+1) (.ρ C s.heap.objs.size []))
  {s with heap:=(s.heap.push PySem.W.emptyDict).push (PySem.W.instObj C s.heap.objs.size)}:=by
 have g:(s.heap.push PySem.W.emptyDict).get? s.heap.objs.size=Α PySem.W.emptyDict:=ϡ s.heap Λ
 have h:((s.heap.push PySem.W.emptyDict).push (PySem.W.instObj C s.heap.objs.size)).get? (s.heap.objs.size+1)=Α (PySem.W.instObj C s.heap.objs.size):=by
  have:=ϡ (s.heap.push PySem.W.emptyDict) (o:=PySem.W.instObj C s.heap.objs.size) Λ
  rwa [size_push]at this
 have i:(s.heap.push PySem.W.emptyDict).Ns s.heap.objs.size (λ_=>Β):=⟨PySem.W.emptyDict,#[],_,g,Λ,(λe j=>Κ j (by simp)),λ_=>rfl⟩
 have l:=I.laid (a:=s.heap.objs.size) (o:=.own (s.heap.objs.size+1)) (h':=s.heap.push PySem.W.emptyDict) (t':=s.toks) (λb u q=>Ο _ q) (Ρ _) ⟨_,g⟩
 refine l.laid (a:=s.heap.objs.size+1) (o:=.ρ C s.heap.objs.size []) (t':=s.toks) (λb u q=>Ο _ q) (ń (size_push _ _)) ?_
 have ne:s.heap.objs.size≠s.heap.objs.size+1:=Ã (VA _)
 refine⟨by rw[ag ne,ac],Ϧ _,ne,h,λ_=>Β,(O1 i).at λo q=>Ο _ q,λ_=>Ê,λy m=>Κ Λ m⟩
theorem uG(c:ŝ e f env (eval e env)=eval e env)
  (h:ϣ (Ϣ prog w) A (eval e env) (λo b=>ϣ (Ϣ prog w) A (getAttr o f Δ) Q E b) E s):ϣ (Ϣ prog w) A (eval (.Attribute e f pos) env) Q E s:=
 Attribute_any_ h (by rw[arm_eval_Attribute,c])
end
inductive Uaj(K:ϧ)(f:Str)(Q:VK)(x:V)(H1:Hp):Prop
 |mk (a C dx fs v)(_:x=.ref a)(_:H1 a=Α (.ρ C dx fs))(_:GK K C)(_:Eb K C f)(_:fs.lookup f=Α v)(_:Q v H1)
def rh(K:ϧ)(ta:TE)(f:Str):TE:=λσ H Q=>ta σ H λx H1=>Uaj K f Q x H1
inductive Uak(K:ϧ)(f:Str)(D:eV)(σ:St)(y:V)(x:V)(H2:Hp):Prop
 |mk (a C dx fs)(_:x=.ref a)(_:H2 a=Α (.ρ C dx fs))(_:GK K C)(_:Eb K C f)(_:fs.length<1000)(_:D.nx σ (ο H2 a (.ρ C dx (aS f y fs))))
def VU(K:ϧ)(ta tv:TE)(f:Str):TS:=λD σ H=>tv σ H λy H1=>ta σ H1 λx H2=>Uak K f D σ y x H2
def VV(X:Cx)(op:Operator)(rd:V->V->Hp->VK->Prop):Prop:=
 ∀(ν:List (Ν×Obj))(s:Ψ)(σ:St)(H:Hp)(x y:V)(u v:Τ)(Q:VK),ς X ν σ H s->RelV x u->RelV y v->rd x y H Q->ϣ (Ϣ X.prog X.w) X.A (inplaceOp op u v) (EP X ν σ Q) X.xe s
inductive Ual(K:ϧ)(tv:TE)(rd:V->V->Hp->VK->Prop)(f:Str)(D:eV)(σ:St)(x:V)(H1:Hp):Prop
 |mk (a C dx fs v)(_:x=.ref a)(_:H1 a=Α (.ρ C dx fs))(_:GK K C)(_:Eb K C f)(_:fs.lookup f=Α v)(_:tv σ H1 λy H2=>rd v y H2 λz H3=>∃Hv GD,H3 a=Α (.ρ C Hv GD)/\GD.length<1000/\D.nx σ (ο H3 a (.ρ C Hv (aS f z GD))))
def zk(K:ϧ)(ta tv:TE)(rd:V->V->Hp->VK->Prop)(f:Str):TS:=λD σ H=>ta σ H λx H1=>Ual K tv rd f D σ x H1
section
variable {X:Cx}{o e value:Expr}{f:Str}{pos pos' Ic:Pos}{ta tv:TE}
theorem ap(d:PE X e ta)(g:ŝ e f X.env (eval e X.env)=eval e X.env):PE X (.Attribute e f pos) (rh X.K ta f):=by
 intro b s i H Q I h
 refine uG g (b8 (d b s i H _ I h) λu A j=>?_)
 obtain⟨x,m,p,r,a,C,B,fs,v,t,w,c,n,l,q⟩:=j
 subst t
 obtain rfl:u=ϭ a:=r
 exact lz p w c n l λD E y z=>⟨v,m,y,z,q⟩
theorem bF(g:PE X o ta)(i:PE X value tv)(j:Ř value (Α (.Attribute o f pos')) pos.line X.env=pure Ε):PS X (.Assign [.Attribute o f pos'] value pos) (VU X.K ta tv f):=by
 intro b s d H D I h
 refine Ŗ (b8 (i b s d H _ I h) λu m ⟨y,p,r,t,q⟩=>b8 (g b m d p _ r q) λv J w=>?_) j
 obtain⟨x,L,z,A,a,C,M,fs,B,E,c,n,l,F⟩:=w
 subst B
 obtain rfl:v=ϭ a:=A
 exact kK z E c n l t λN G=>⟨d,_,G,F⟩
theorem eL(j:PE X o ta)(m:PE X value tv)(p:VV X op rd):PS X (.AugAssign (.Attribute o f Ic) op value pos) (zk X.K ta tv rd f):=by
 intro b s d H D I h
 refine wpAny_AugAssign_AttributeAny (b8 (j b s d H _ I h) λr Z g=>?_)
 obtain⟨x,t,w,A,a,C,dx,fs,v,B,E,c,n,l,q⟩:=g
 subst B
 obtain rfl:r=ϭ a:=A
 refine lz w E c n l λu F G J=>b8 (m b F d t _ G q) λL M ⟨y,N,O,P,Q⟩=>b8 (p b M d N v y u L _ O J P Q) λw4 s4 g=>?_
 obtain⟨z,H3,R,S,Hv,GD,i,T,U⟩:=g
 exact kK R i c n T S λs5 Y=>⟨d,_,Y,U⟩
end
section
variable {X:Cx}{ν:List (Ν×Obj)}{σ:St}{H:Hp}{s:Ψ}{A:Ø}{E:Τ->Ψ->Prop}{Q:Τ->Ψ->Prop}{c:Τ}{b:Bool}
inductive jB(K:ϧ)(H:Hp):V->Τ->Prop where
 |Eh:jB K H .Eh (.type "NoneType")
 |bl (x:Bool):jB K H (.bl x) (.type "bool")
 |int (i:Int):jB K H (.int i) (.type "int")
 |str (x:Str):jB K H (.str x) (.type "str")
 |MS (x:UInt64):jB K H (.MS x) (.type "float")
 |π {a:Ν} {xs:List V} (e:H a=Α (.π xs)):jB K H (.ref a) (.type "list")
 |FZ {a:Ν} {o:Obj} {xs:List V} (e:H a=Α (.FZ o (.π xs))):jB K H (.ref a) (.type "list")
 |tup {a:Ν} {xs:List V} (e:H a=Α (.tup xs)):jB K H (.ref a) (.type "tuple")
 |dK {a:Ν} {kvs:List (Key×V)} (e:H a=Α (.dK kvs)):jB K H (.ref a) (.type "dict")
 |dT {a:Ν} {kvs:List (List Key×V)} (e:H a=Α (.dT kvs)):jB K H (.ref a) (.type "dict")
 | ρ {a C dx:Ν} {fs:List (Str×V)} (e:H a=Α (.ρ C dx fs)) (cl:GK K C) (ha:Ë K (.ref C) "__class__"=Α (Α (.builtin "object.__class__")))
   (hn:PySem.W.specialIn K (.builtin "object.__class__") "__get__"=Α (Α (.builtin "getset_descriptor.__get__"))) (KZ:PySem.W.takesIn K (.builtin "object.__class__")=Α Δ)
   (hm:PySem.W.mroIn K C (.type "object")=Α Δ):jB K H (.ref a) (.ref C)
theorem vo(I:ς X ν σ H s)(d:RelV x u)(l:jB X.K H x t)(e:Į X.K t c=Α b)(h:∀m,Q (.bool b) {s with toks:=m}):
  ϣ (Ϣ X.prog X.w) A (call (.builtin "isinstance") [u,c]) Q E s:=by
 cases l with
 |Eh=>cases (d);exact PySem.W.kia_one PySem.W.kitx_none I.EY Ê e (λz=>nomatch z) h
 |bl y=>cases (d);exact PySem.W.kia_one PySem.W.kitx_bool I.EY Ê e (λz=>nomatch z) h
 |int i=>obtain⟨t,q⟩:=(d);cases q;exact PySem.W.kia_one PySem.W.kitx_int I.EY Ê e (λz=>nomatch z) h
 |str y=>obtain⟨t,q⟩:=(d);cases q;exact PySem.W.kia_one PySem.W.kitx_str I.EY Ê e (λz=>nomatch z) h
 |MS y=>obtain⟨t,q⟩:=(d);cases q;exact PySem.W.kia_one PySem.W.kitx_float I.EY Ê e (λz=>nomatch z) h
 | @π a xs ea =>
  cases (d)
  obtain⟨_,_,n,_,f⟩:=(I.DY a _ ea)
  exact PySem.W.kia_one PySem.W.kitx_list I.EY ⟨_,f,Λ⟩ e (λz=>nomatch z) h
 | @FZ a ob xs ea =>
  cases (d)
  obtain⟨_,_,_,n,_,f⟩:=(I.DY a _ ea)
  exact PySem.W.kia_one PySem.W.kitx_list I.EY ⟨_,f,Λ⟩ e (λz=>nomatch z) h
 | @tup a xs ea =>
  cases (d)
  obtain⟨_,_,_,p⟩:=(I.DY a _ ea)
  obtain⟨o,f,⟨g,_⟩,_⟩:=p
  exact PySem.W.kia_one PySem.W.kitx_tuple I.EY ⟨o,f,g⟩ e (λz=>nomatch z) h
 | @dK a kvs ea =>
  cases (d)
  obtain⟨_,_,B,_,p⟩:=(I.DY a _ ea)
  obtain⟨o,r,v,f,g,_⟩:=p
  exact PySem.W.kia_one PySem.W.kitx_dict I.EY ⟨o,f,g.1⟩ e (λz=>nomatch z) h
 | @dT a kvs ea =>
  cases (d)
  obtain⟨_,_,xs,_,o,r,v,f,g,_⟩:=(I.DY a _ ea)
  exact PySem.W.kia_one PySem.W.kitx_dict I.EY ⟨o,f,g.1⟩ e (λz=>nomatch z) h
 | @ρ a C dx fs ea cl ha hn KZ hm =>
  cases (d)
  obtain⟨D,O,_⟩:=jZ I.DY ea
  obtain⟨F,J,_⟩:=O.look
  exact PySem.W.kia_one (PySem.W.kitx_own (cl.get _) cl.hd ha hn KZ hm) I.EY J e (λz=>nomatch z) h
end
structure Ea(k:Nat)(A:Ø):Prop where
 hd:A.handled=Β
 dp:A.depth+3* k+5<recursionLimit
 un:A.units+16* k+200<ŋ
theorem Ea.mono(r:Ea k A)(h:j<=k):Ea j A:=⟨r.hd,by have:=r.dp;omega,by have:=r.un;omega⟩
theorem Ea.deeper(r:Ea (k+1) A)(a:Env):Ea k (A.deeper a):=
 ⟨r.hd,by have:=r.dp;show A.depth+1+3* k+5<_;omega,by have:=r.un;show A.units+3+16* k+200<_;omega⟩
theorem Ea.in1(r:Ea (k+1) A):Ea k A.in1:=
 ⟨r.hd,by have:=r.dp;show A.depth+3* k+5<_;omega,by have:=r.un;show A.units+1+16* k+200<_;omega⟩
theorem sr{A:Ø}:(A.under (.builtin "type.__call__" ⟨.ref C:: us,kw⟩)).depth=A.depth+1:=by
 first|rfl|simp[Mc,Code.weight,Code.isCreation,Code.isGuard,Code.isCaller,Code.frames,MV,guardIds]
theorem sm{A:Ø}:(A.under (.builtin "type.__call__" ⟨.ref C:: us,kw⟩)).units=A.units+1:=by
 first|rfl|simp[Mc,Code.cUnits,Code.frames,MV]
theorem Ea.make(r:Ea (k+1) A)(C:Ν)(us:List Τ)(a:List (Str×Τ)):Ea k (A.under (.builtin "type.__call__" ⟨.ref C:: us,a⟩)):=
 ⟨r.hd,by have:=r.dp;rw[sr];omega,by have:=r.un;rw[sm];omega⟩
theorem Ea.depth(r:Ea k A):A.depth<recursionLimit:=by have:=r.dp;omega
theorem Ea.units(r:Ea k A):A.units+64<ŋ:=by have:=r.un;omega
def yX:TA:=λ_ H Q=>Q [] H
def PH(ta:TE)(tr:TA):TA:=λσ H Q=>ta σ H λx H1=>tr σ H1 λxs H2=>Q (x:: xs) H2
section
variable {X:Cx}{e:Expr}{es:List Expr}{te:TE}{t:TA}{pos:Pos}
theorem ad:PA X [] yX:=λ_ _ _ _ H Q I h=>Calls.spliced_nil ⟨[],H,I,.nil,h⟩
theorem aa(d:PE X e te)(f:PA X es t)(g:autoParam (Á (e:: es) X.env=(Ε,eval e X.env):: Á es X.env) η):PA X (e:: es) (PH te t):=by
 intro pos a s c H Q I h
 rw[g]
 refine Calls.spliced_cons (b8 (d a s c H _ I h) λu i b=>?_)
 obtain⟨x,j,l,m,n⟩:=b
 exact b8 (f pos a i c j _ l n) λus v b=>by obtain⟨xs,o,p,q,r⟩:=b;exact⟨_,o,p,.cons m q,r⟩
def VW(t:TA):TE:=λσ H Q=>t σ H λxs H1=>xs.length<=ό/\∀p,H1 p=Β->Q (.ref p) (ο H1 p (.tup xs))
def BG(t:TA):TE:=λσ H Q=>t σ H λxs H1=>xs.length<=ό/\∀p,H1 p=Β->Q (.ref p) (ο H1 p (.π xs))
theorem bM(h:PA X es t):PE X (.Tuple es x1 pos) (VW t):=by
 intro a s g H Q I i
 refine wpAny_Tuple_spliced (b8 (h pos a s g H _ I i) λus c ⟨xs,d,f,r,z,q⟩=>⟨by rw[←r.length];exact z,?_⟩)
 have j:=f.DY.fresh (Ρ _)
 refine⟨.ref c.heap.objs.size,_,f.laid (t':=c.toks) (λb u e=>Ο _ e) (Ρ _) ?_,Λ,q _ j⟩
 exact⟨z,_,r,⟨_,ϡ _ Λ,⟨Λ,_,Λ⟩,Λ⟩⟩
theorem aU(h:PA X es t):PE X (.List es pos) (BG t):=by
 intro a s g H Q I i
 refine wpAny_List_spliced (b8 (h pos a s g H _ I i) λus c ⟨xs,d,f,r,z,q⟩=>⟨by rw[←r.length];exact z,?_⟩)
 have j:=f.DY.fresh (Ρ _)
 refine⟨.ref c.heap.objs.size,_,f.laid (t':=c.toks) (λb u e=>Ο _ e) (Ρ _) ?_,Λ,q _ j⟩
 exact⟨z,_,0,r,ϡ _ Λ⟩
end
abbrev Sp:=List V->Hp->VK->XK->Prop
abbrev qU:=List Env->Hp->Ψ->XK->Τ->Ψ->Prop
structure Ie(P:Program)(w:Î)(K:ϧ)(mg:Str->Option Τ)(μ:Ü)(A:Ø)(outer:List Env)(s:Ψ)(H:Hp):Prop where
 frames:A.frames=Α outer
 mod:Mod K mg μ
 bs:∀b o,μ.get? b=Α o->s.heap.get? b=Α o/\H b=Β
 Jh:μ.objs.size<=s.heap.objs.size
 Fb:s.heap.FunFrames μ outer
 JG:∀b∈ki outer,H b=Β
 DY:Fx P w H s.heap
 bare:c1 s.gens
def CE(outer:List Env)(P:Program)(w:Î)(H:Hp)(s:Ψ)(Q:VK)(u:Τ)(s':Ψ):Prop:=
 ∃v H',s'.os=s.os/\c1 s'.gens/\Un (ki outer) [] H H' s.heap s'.heap/\Fx P w H' s'.heap/\RelV v u/\Q v H'
def CR(CX:qU)(outer:List Env)(P:Program)(w:Î)(H:Hp)(s:Ψ)(Q:VK)(E:XK)(r:Result)(s':Ψ):Prop:=
 match r with
 |.ok (.ret u)=>CE outer P w H s Q u s'
 |.ok _=>False
 |.error e=>CX outer H s E e s'
structure DQ(P:Program)(w:Î)(K:ϧ)(mg:Str->Option Τ)(μ:Ü)(CX:qU)(k:Nat)(f:Ν)(fd:Ý)(ps:List Str)(sp:Sp):Prop where
 len:∀vs H Q E,sp vs H Q E->vs.length=ps.length
 run:∀(A:Ø)(outer:List Env)(s:Ψ)(H:Hp)(args:Args)(us:List Τ)(vs:List V)(Q:VK)(E:XK),Ea k A->Ie P w K mg μ A outer s H->Nd s fd args (ps.zip us)->τ vs us->sp vs H Q E->
  ū (Ϣ P w) A (.call (.ref f) args) (CR CX outer P w H s Q E) s
theorem DQ.imp{K:ϧ}(F:DQ P w K mg μ CX k f fd ps sp)
  (h:∀b H Q E,sp' b H Q E->sp b H Q E):DQ P w K mg μ CX k f fd ps sp':=
 ⟨λb H Q E q=>F.len b H Q E (h _ _ _ _ q),λA a s H args us b Q E c d e g i=>F.run A a s H args us b Q E c d e g (h _ _ _ _ i)⟩
theorem Ie.make{K:ϧ}(e:Ie P w K mg μ A outer s H)(C:Ν)(us:List Τ)(a:List (Str×Τ)):
  Ie P w K mg μ (A.under (.builtin "type.__call__" ⟨.ref C:: us,a⟩)) outer s H:=⟨by first|exact e.frames|(simpa [Mc,Code.envs,MV,pushEnvs] using e.frames),e.mod,e.bs,e.Jh,e.Fb,e.JG,e.DY,e.bare⟩
section
variable {X:Cx}{ν:List (Ν×Obj)}{σ:St}{H:Hp}{s s':Ψ}
theorem ς.La(I:ς X ν σ H s):Ie X.prog X.w X.K X.mg X.μ X.A X.stack s H:=
 ⟨I.ok.frames,I.ok.mod,I.bs,À I.ok.Jh I.sz,I.stack,I.G8,I.DY,I.bare⟩
theorem ς.after(I:ς X ν σ H s)(h:CE X.stack X.prog X.w H s Q u s'):EP X ν σ Q u s':=by
 obtain⟨v,e,f,a,un,i,r,q⟩:=h
 obtain⟨j,g,d,t,c⟩:=s'
 obtain rfl:c=s.os:=f
 exact⟨v,e,I.call (h':=j) (g':=g) (d':=d) (t':=t) (ch:=[]) un i a (λb z=>Κ z (by simp)),r,q⟩
end
def PJ(sp:Sp)(EZ:List V)(E:XK)(t:TA):TE:=λσ H Q=>t σ H λvs H1=>sp (vs++EZ) H1 Q E
inductive Uam(C:Ν)(m:Str)(sp:Sp)(EZ:List V)(E:XK)(t:TA)(σ:St)(Q:VK)(x:V)(H1:Hp):Prop
 |mk (a dx fs)(_:x=.ref a)(_:H1 a=Α (.ρ C dx fs))(_:fs.lookup m=Β)(_:t σ H1 λvs H2=>sp (x:: (vs++EZ)) H2 Q E)
def vR(C:Ν)(m:Str)(sp:Sp)(EZ:List V)(E:XK)(ta:TE)(t:TA):TE:=λσ H Q=>ta σ H λx H1=>Uam C m sp EZ E t σ Q x H1
def PK(C:Ν)(sp:Sp)(EZ:List V)(E:XK)(t:TA):TE:=λσ H Q=>t σ H λvs H1=>∀x dx,H1 x=Β->H1 dx=Β->dx≠x->
 sp (.ref x:: (vs++EZ)) (ο (ο H1 dx (.own x)) x (.ρ C dx [])) (λv H2=>v=.Eh/\Q (.ref x) H2) E
def Binds(K:ϧ)(fd:Ý)(ps:List Str)(ds:List Τ):Prop:=
 ∀(s:Ψ)(us:List Τ),K.In s.heap->(us++ds).length=ps.length->Nd s fd ⟨us,[]⟩ (ps.zip (us++ds))
theorem Binds.all{K:ϧ}(h:∀us:List Τ,us.length=ps.length->XN fd ⟨us,[]⟩=pure (ps.zip us)):Binds K fd ps []:=λs us _ a=>by
 rw[ĕ]at a⊢
 exact .of_eq (h us a)
def gM(CX:qU)(X:Cx)(E:XK):Prop:=∀(ν:List (Ν×Obj))(σ:St)(H:Hp)(s:Ψ)(e:Τ)(s':Ψ),ς X ν σ H s->CX X.stack H s E e s'->X.xe e s'
section
variable {X:Cx}{CX:qU}{k:Nat}{f C:Ν}{fd:Ý}{ps:List Str}{sp:Sp}{EZ:List V}{ds:List Τ}{E:XK}{x m:Str}{p pos apos:Pos}{e o:Expr}{es:List Expr}{ta:TE}{t:TA}
theorem oi{b:St}(F:DQ X.prog X.w X.K X.mg X.μ CX k f fd ps sp)(d:Ea k X.A)(g:Binds X.K fd ps ds)(i:τ EZ ds)(j:gM CX X E)
  (I:ς X ν b H s) (r:τ vs us) (h:sp (vs++EZ) H Q E):ϣ (Ϣ X.prog X.w) X.A (call (.ref f) us) (EP X ν b Q) X.xe s:=by
 have c:=r.append i
 have l:(us++ds).length=ps.length:=by rw[←c.length];exact F.len _ _ _ _ h
 refine Ų (ķ (F.run X.A X.stack s H ⟨us,[]⟩ (us++ds) (vs++EZ) Q E d I.La (g s us I.EY l) c h) λr n a=>?_)
 cases r with
 |error e=>exact j ν b H s e n I a
 | ok q =>
  cases q with
  |ret u=>exact I.after a
  |next=>exact Ô a
  |brk=>exact Ô a
  |cont=>exact Ô a
theorem au(F:DQ X.prog X.w X.K X.mg X.μ CX k f fd ps sp)(c:Ea k X.A)(d:Gl X x)(g:X.mg x=Α (.ref f))(i:Ϯ X.K (.ref f)=Δ)(j:Binds X.K fd ps ds)(l:τ EZ ds)(n:gM CX X E)
  (u:PA X (e:: es) t) (v:autoParam ((x == ("__debug__":Str))=Ε) θ) (y:autoParam (Á (e:: es) X.env=(Ε,eval e X.env):: Á es X.env) η) (z:autoParam ((Đ pos (Á es X.env)).any (·.1)=Ε) η):
  PE X (.Call (.Name x p) (e:: es) [] pos) (PJ sp EZ E t):=by
 intro a s B H Q I h
 refine Ġ (iZ I d g ?_ v)
 refine PySem.W.callWith_K (h₀:=X.μ) I.ok.mod.HZ i (b8 (u pos a s B H _ I h) λus D ⟨G,J,b,r,q⟩=>⟨b.EY,?_⟩) y z
 exact oi F c j l n b r q
theorem aH(y:PE X o ta)(c:GK X.K C)(d:cb X.K C m f)(F:DQ X.prog X.w X.K X.mg X.μ CX k f fd ps sp)(z:Ea k X.A)(B:Binds X.K fd ps ds)(D:τ EZ ds)(G:gM CX X E)(J:PA X (e:: es) t)
  (L:autoParam (Á (e:: es) X.env=(Ε,eval e X.env):: Á es X.env) η) (M:autoParam ((Đ pos (Á es X.env)).any (·.1)=Ε) η)
  (N:eval (.Call (.Attribute o m apos) (e:: es) [] pos) X.env=(do
   let g ← eval o X.env
   GS apos.atName
   let (f,first) ← ic [g] (getMethod g m pl)
   callWith pos f first (Đ pos (Á (e:: es) X.env)) (Ii pos (ž [] X.env))):=by rfl):
  PE X (.Call (.Attribute o m apos) (e:: es) [] pos) (vR C m sp EZ E ta t):=by
 intro b s i H Q I h
 refine PySem.W.methodCall_KW (pl:=pl) (b8 (y b s i H _ I h) λu O P=>?_) N
 obtain⟨x,R,j,S,a,Z,fs,T,U,l,q⟩:=P
 subst T
 obtain rfl:u=ϭ a:=S
 refine i8 j U c d l ?_
 refine PySem.W.callWith_K (first:=[.ref a]) (h₀:=X.μ) I.ok.mod.HZ d.kp (b8 (J pos b O i R _ j q) λus s2 ⟨vs,H2,v,r,Y⟩=>⟨v.EY,?_⟩) L M
 exact oi (us:=.ref a:: us) (vs:=.ref a:: vs) F z B D G v (.cons Λ r) Y
theorem cj(j:PE X o ta)(c:GK X.K C)(g:cb X.K C m f)(F:DQ X.prog X.w X.K X.mg X.μ CX k f fd ps sp)(n:Ea k X.A)(r:Binds X.K fd ps ds)(v:τ EZ ds)(y:gM CX X E)
  (z:eval (.Call (.Attribute o m apos) [] [] pos) X.env=(do
   let i ← eval o X.env
   GS apos.atName
   let (f,first) ← ic [i] (getMethod i m pl)
   callWith pos f first (Đ pos (Á [] X.env)) (Ii pos (ž [] X.env))):=by rfl):
  PE X (.Call (.Attribute o m apos) [] [] pos) (vR C m sp EZ E ta yX):=by
 intro b s B H Q I h
 refine PySem.W.methodCall_KW (pl:=pl) (b8 (j b s B H _ I h) λu M D=>?_) z
 obtain⟨x,N,d,G,a,O,fs,J,L,l,q⟩:=D
 subst J
 obtain rfl:u=ϭ a:=G
 refine i8 d L c g l ?_
 exact PySem.W.callWith_K0 (first:=[.ref a]) d.EY g.kp (oi (us:=[.ref a]) (vs:=[.ref a]) F n r v y d (.cons Λ .nil) q)
structure Mk(K:ϧ)(C f:Ν):Prop where
 makes:kb K C=Δ
 init:Ë K (.ref C) "__init__"=Α (Α (.ref f))
 fn:isFn K (.ref f)=Δ
 kp:Ϯ K (.ref C)=Δ
theorem xk{d:St}(M:Mk X.K C f)(F:DQ X.prog X.w X.K X.mg X.μ CX k f fd ps sp)(j:Ea (k+1) X.A)(l:Binds X.K fd ps ds)(n:τ EZ ds)
  (q:gM CX X E) (I:ς X ν d H s) (r:τ vs us)
  (h:∀x b,H x=Β->H b=Β->b≠x->sp (.ref x:: (vs++EZ)) (ο (ο H b (.own x)) x (.ρ C b [])) (λv y=>v=.Eh/\Q (.ref x) y) E):
  ϣ (Ϣ X.prog X.w) X.A (call (.ref C) us) (EP X ν d Q) X.xe s:=by
 have g:=h (s.heap.objs.size+1) s.heap.objs.size (I.DY.fresh (Ź _)) (I.DY.fresh (Ρ _)) (Ã (VA _))
 have c:=ς.made (C:=C) I
 have i:τ (V.ref (s.heap.objs.size+1):: (vs++EZ)) (ϭ (s.heap.objs.size+1):: (us++ds)):=.cons Λ (r.append n)
 have z:(ϭ (s.heap.objs.size+1):: us++ds).length=ps.length:=by
  have e:=i.length
  rw[F.len _ _ _ _ g]at e
  exact e.symm
 refine Ų (yi (f:=f) I.EY M.makes M.init (beq_iff_eq.mp M.fn) (ķ (F.run _ X.stack _ _ ⟨ϭ (s.heap.objs.size+1):: us,[]⟩ (ϭ (s.heap.objs.size+1):: (us++ds)) _ _ E (j.make C us [])
  (c.La.make C us []) (l _ (ϭ (s.heap.objs.size+1):: us) c.EY z) i g) λr B a=>?_))
 cases r with
 |error e=>exact q ν d _ _ e B c a
 | ok D =>
  cases D with
  | ret u =>
   obtain⟨v,G,J,L,N,O⟩:=c.after a
   subst N
   exact⟨L,⟨V.ref (s.heap.objs.size+1),G,J,Λ,O⟩⟩
  |next=>exact Ô a
  |brk=>exact Ô a
  |cont=>exact Ô a
theorem dQ(M:Mk X.K C f)(F:DQ X.prog X.w X.K X.mg X.μ CX k f fd ps sp)(c:Ea (k+1) X.A)(d:Gl X x)(g:X.mg x=Α (.ref C))(i:Binds X.K fd ps ds)(j:τ EZ ds)(l:gM CX X E)
  (n:PA X (e:: es) t) (u:autoParam ((x == ("__debug__":Str))=Ε) θ) (v:autoParam (Á (e:: es) X.env=(Ε,eval e X.env):: Á es X.env) η) (y:autoParam ((Đ pos (Á es X.env)).any (·.1)=Ε) η):
  PE X (.Call (.Name x p) (e:: es) [] pos) (PK C sp EZ E t):=by
 intro a s z H Q I h
 refine Ġ (iZ I d g ?_ u)
 refine PySem.W.callWith_K (h₀:=X.μ) I.ok.mod.HZ M.kp (b8 (n pos a s z H _ I h) λus B ⟨D,G,b,r,q⟩=>⟨b.EY,?_⟩) v y
 exact xk M F c i j l b r q
end
section
variable {X:Cx}{CX:qU}{k:Nat}{f C:Ν}{fd:Ý}{ps ks:List Str}{sp:Sp}{E:XK}{x m:Str}{p pos apos PL:Pos}{e o:Expr}{es:List Expr}{kws:List Ug}{te ta:TE}{t tk:TA}{nm:Option Str}
variable {g:List Τ->List Τ->List Τ}{gV:List V->List V->List V}
end
structure aw(N P:List Str)(sc:Scope):Prop where
 kind:sc.kind=.function
 co:sc.isCoroutine=Ε
 gen:sc.isGenerator=Ε
 nd:N.Nodup
 pre:N.take P.length=P
 par:∀x∈P,sc.names.lookup x=Α .local∨sc.names.lookup x=Α .cell
 MZ:∀y∈sc.names,y.2≠.free
theorem nj{a:Str->Option Ń}:∀{binds:List (Str×Τ)}{m:Str->Option Τ},(∀v,(x,v)∉binds)->Xq a binds m x=m x
 |[],_,_=>rfl
 | (n,v):: r,m,h=>by
  unfold Xq
  rw[nj λw b=>h w (ϟ _ b)]
  split
  ·have:x≠n:=by rintro rfl;exact h v ώ
   simp[this]
  ·rfl
theorem nv{a:Str->Option Ń}:∀{binds:List (Str×Τ)}{m:Str->Option Τ},(∀v,(x,v)∉binds)->X4 a binds m x=m x
 |[],_,_=>rfl
 | (n,v):: r,m,h=>by
  unfold X4
  rw[nv λw b=>h w (ϟ _ b)]
  split
  ·rfl
  ·have:x≠n:=by rintro rfl;exact h v ώ
   simp[this]
theorem nq{a:Str->Option Ń}:∀{P:List Str}{b:List Τ}{i:Nat}{m:Str->Option Τ},P.Nodup->P[i]?=Α x->b[i]?=Α v->a x=Α .local->
  Xq a (P.zip b) m x=Α v
 |[],_,_,_,_,h,_,_=>by simp at h
 |_:: _,[],_,_,_,_,h,_=>by simp at h
 | p:: P,w:: b,0,m,nd,h1,h2,hk=>by
  simp at h1 h2;subst h1;subst h2
  show Xq a ((p,w):: P.zip b) m p=_
  unfold Xq
  rw[nj λv c=>(Ć.mp nd).1 (OW c).1,Ι hk]
  simp
 | p:: P,w:: b,i+1,m,nd,h1,h2,hk=>by
  unfold Xq
  exact nq (i:=i) (Ć.mp nd).2 (by simpa using h1) (by simpa using h2) hk
theorem n0{a:Str->Option Ń}:∀{P:List Str}{b:List Τ}{i:Nat}{m:Str->Option Τ},P.Nodup->P[i]?=Α x->b[i]?=Α v->a x≠Α .local->
  X4 a (P.zip b) m x=Α v
 |[],_,_,_,_,h,_,_=>by simp at h
 |_:: _,[],_,_,_,_,h,_=>by simp at h
 | p:: P,w:: b,0,m,nd,h1,h2,hk=>by
  simp at h1 h2;subst h1;subst h2
  show X4 a ((p,w):: P.zip b) m p=_
  unfold X4
  rw[nv λv c=>(Ć.mp nd).1 (OW c).1,Θ hk]
  simp
 | p:: P,w:: b,i+1,m,nd,h1,h2,hk=>by
  unfold X4
  exact n0 (i:=i) (Ć.mp nd).2 (by simpa using h1) (by simpa using h2) hk
noncomputable def start(N:List Str)(vs:List V):St:=vs.map Α++Ϛ (N.length - vs.length) Β
noncomputable def lS(CX:qU)(P:Program)(w:Î)(K:ϧ)(mg:Str->Option Τ)(μ:Ü)(N:List Str)(qual:Str)(scope:Scope)(f:Ν)(cd:Τ)(A:Ø)(outer:List Env)(s:Ψ)(H:Hp)(E:XK):Cx where
 prog:=P
 w:=w
 K:=K
 mg:=mg
 μ:=μ
 A:=A.deeper (gc qual scope s.heap.objs.size f cd)
 N:=N
 s₀:=s
 H₀:=H
 env:=gc qual scope s.heap.objs.size f cd
 outer:=outer
 stack:=gc qual scope s.heap.objs.size f cd:: outer
 ex:=[]
 calm:=Δ
 fn:=λ_=>Δ
 pn:=[]
 xe:=λe s'=>ϣ (Ϣ P w) (A.deeper (gc qual scope s.heap.objs.size f cd)) (leaving (gc qual scope s.heap.objs.size f cd) e) (λ_ Ig=>CX outer H s E e Ig) (λe' Ig=>CX outer H s E e' Ig) s'
theorem qA{a:Scope}(h:a.names.lookup x=Α .cell):∃c,(cellsFrom n a.names []).lookup x=Α c:=by
 have q:=PySem.W.cellsFrom_some a.names n [] (.inl h)
 exact ŧ.mp q
theorem vp{K:ϧ}
  (S:aw N ps scope) (F:A.handled=Β) (g:Ie P w K mg μ A outer s H) (J:vs.length=ps.length) (r:τ vs us)
  (x:InCallC s s.heap.objs.size (Xq (gc qual scope s.heap.objs.size f cd).kindOf (ps.zip us) λ_=>Β) (cellsFrom (s.heap.objs.size+1) scope.names []) (X4 (gc qual scope s.heap.objs.size f cd).kindOf (ps.zip us) λ_=>Β) s1):
  ς (lS CX P w K mg μ N qual scope f cd A outer s H E) [] (start N vs) H s1:=by
 have L:ps.length<=N.length:=by have:=congrArg List.length S.pre;rw[Š]at this;omega
 obtain⟨m,M,rfl,B⟩:=x.done
 have t:∀b:Ν,b∉(lS CX P w K mg μ N qual scope f cd A outer s H E).ex:=λb z=>Κ (show b∈([]:List Ν) from z) (by simp)
 refine⟨⟨g.mod,S.kind,Λ,Λ,Ρ _,λy z c m d=>?_,λy j=>?_,λy c _ h=>?_,λ_=>F,Nm g.frames,.inr ⟨Λ,Λ⟩,λb z=>Κ z (t b),g.bs,g.Jh,λb _ _=>t b,λb z=>Κ z (t b),g.Fb,g.JG⟩,
  rfl,g.bare,Un.kept B,⟨_,x.toInCall.ns,λi y v m d O=>?_⟩,λy c h=>⟨_,x.cell y c h⟩,g.DY.fresh (Ρ _),λy c h=>?_,λp l=>Κ (show p∈([]:List (Ν×Obj)) from l) (by simp),g.DY.kept B,?_⟩
 ·exact name_of_addr x.apart (PySem.mem_of_lookup m) (PySem.mem_of_lookup d)
 ·have j:=j
  rcases j with j|j
  ·exact qA j
  ·exact Κ Λ (S.MZ _ (PySem.mem_of_lookup j))
 ·exact ê (x.above y c (PySem.mem_of_lookup h))
 ·have o:i<vs.length:=by
   unfold start at d
   by_cases o:i<vs.length
   ·exact o
   ·rw[Ĭ (by simpa using o)]at d
    rw[ľ]at d
    split at d<;>cases d
  have G:vs[i]?=Α v:=by
   unfold start at d
   rw[Ϫ (by simpa using o),Å]at d
   cases e:vs[i]? with
   |none=>rw[e]at d;cases d
   |some a=>rw[e]at d;cases d;rfl
  obtain⟨u,C,I⟩:=r.get G
  have l:ps[i]?=Α y:=by
   rw[←S.pre,List.getElem?_take_of_lt (by omega)];exact m
  have D:ps.Nodup:=by rw[←S.pre];exact S.nd.sublist (VX _ _)
  refine⟨u,I,?_⟩
  rcases S.par y (Ϙ l) with k|k
  ·exact .inl ⟨k,nq D l C k⟩
  ·obtain⟨c,e⟩:=qA (n:=s.heap.objs.size+1) k
   refine .inr ⟨.inl k,c,e,?_⟩
   have q:=x.cell y c e
   rw[n0 D l C (by show scope.names.lookup y≠_;rw[k];decide)]at q
   exact q
 ·exact g.DY.fresh (ê (x.above y c (PySem.mem_of_lookup h)))
 ·unfold start
  show _=N.length
  rw[ϗ,ϊ,õ]
  omega
theorem u9{K:ϧ}{B kV j C c D M:Τ}
  (lk:K.lookup f=Α ⟨M,od,.func (v3 name qual params body scope B kV j C an c D),Hw⟩) (O:ri K c qual=Δ) (S:aw N ps scope)
  (len:∀d H Q E,sp d H Q E->d.length=ps.length)
  (R:∀(A:Ø)(a:List Env)(s:Ψ)(H:Hp)(d:List V)(Q:VK)(E:XK),Ea k (A.deeper (gc qual scope s.heap.objs.size f c))->sp d H Q E->
   ∃t,GF (lS CX P w K mg μ N qual scope f c A a s H E) body t/\t {nx:=λ_ h=>Q .Eh h,rt:=Q} (start N d) H):
  DQ P w K mg μ CX (k+1) f (v3 name qual params body scope B kV j C an c D) ps sp:=by
 refine⟨len,λA a s H args us d Q E m l T r F=>?_⟩
 have U:=len _ _ _ _ F
 have G:=l.mod.HZ.keeps λb o e=>(l.bs b o e).1
 have lim:=l.mod.nolimit.keeps λb o e=>(l.bs b o e).1
 have X:∀y∈ps.zip us,scope.names.lookup y.1=Α .local∨(scope.names.lookup y.1=Α .cell/\((cellsFrom (s.heap.objs.size+1) scope.names []).lookup y.1).isSome=Δ):=fun⟨n,v⟩ hy=>by
  rcases S.par n (OW hy).1 with q|q
  ·exact .inl q
  ·exact .inr ⟨q,PySem.W.cellsFrom_some _ _ _ (.inl q)⟩
 refine codeAny_call_function m.depth (G _ _ lk) Λ S.co S.gen Λ (PySem.W.codeRec_of G O) (T _ _ _ _ ?_)
 refine wpAny_newFunctionEnv_cells S.kind X λY Z L x=>?_
 subst Z
 refine⟨lim.keeps x.toInCall.keep,codeAny_func ?_⟩
 obtain⟨t,ht,hq⟩:=R A a s H d Q E (m.deeper _) F
 have I:ς (lS CX P w K mg μ N qual scope f c A a s H E) [] (start N d) H L:=vp S m.hd l U r x
 refine Ò (ht [] L (start N d) H _ I hq) (λfl p i=>?_) λe p i=>i
 have fin:∀{g:St}{h:Hp}{v:V}{u:Τ},ς (lS CX P w K mg μ N qual scope f c A a s H E) [] g h p->RelV v u->Q v h->CE a P w H s Q u p:=
  λ{g h v u} J z q=>⟨v,h,J.os,J.bare,J.μ,J.DY,z,q⟩
 cases fl with
 | ret u =>
  obtain⟨v,g,h,J,z,q⟩:=i
  exact fin J z q
 | next =>
  obtain⟨g,h,J,q⟩:=i
  exact fin (v:=V.Eh) (u:=Ú) J Λ q
 | brk =>
  obtain⟨_,_,_,q⟩:=i
  exact Ô q
 | cont =>
  obtain⟨_,_,_,q⟩:=i
  exact Ô q
section
variable {X:Cx}{x:Str}{p pos:Pos}{e:Expr}{es:List Expr}{t:TA}{id T:String}{r:List V->Hp->VK->Prop}
def tCB(r:List V->Hp->VK->Prop)(t:TA):TE:=λσ H Q=>t σ H λvs H1=>r vs H1 Q
theorem aG(c:cZ X (.builtin id) r)(d:Gl X x)(f:X.mg x=Β)(g:i1 x=Α (.builtin id))(i:PA X (e:: es) t)(j:autoParam (x≠ "__name__") θ)(l:autoParam ((x == ("__debug__":Str))=Ε) θ)
  (m:autoParam (Á (e:: es) X.env=(Ε,eval e X.env):: Á es X.env) η) (n:autoParam ((Đ pos (Á es X.env)).any (·.1)=Ε) η):PE X (.Call (.Name x p) (e:: es) [] pos) (tCB r t):=by
 intro a s b H Q I h
 refine Ġ (i7 I d f g ?_ j l)
 exact PyProof.Rows.callWith_builtin1 (b8 (i pos a s b H _ I h) λus o q=>by obtain⟨u,v,w,y,z⟩:=q;exact c a o b v u us Q w y z) m n
theorem bS(c:cZ X (.type T) r)(d:Gl X x)(f:X.mg x=Β)(g:i1 x=Α (.type T))(i:PA X (e:: es) t)(j:autoParam (x≠ "__name__") θ)(l:autoParam ((x == ("__debug__":Str))=Ε) θ)
  (m:autoParam (Á (e:: es) X.env=(Ε,eval e X.env):: Á es X.env) η) (n:autoParam ((Đ pos (Á es X.env)).any (·.1)=Ε) η):PE X (.Call (.Name x p) (e:: es) [] pos) (tCB r t):=by
 intro a s b H Q I h
 refine Ġ (i7 I d f g ?_ j l)
 exact Ē (b8 (i pos a s b H _ I h) λus o q=>by obtain⟨u,v,w,y,z⟩:=q;exact c a o b v u us Q w y z) m n
end
end L2
namespace HT
open PySem PyProof.Rows
section
open PySem.SeqAt
open PySem.AutoSeq1 (wpAny_loadPart')
open PySem.MeetsSeq PySem.MeetsSeq2 PySem.MeetsSeq3
end
section
variable {prog:Program}{w:Î}{A:Ø}{E:Τ->Ψ->Prop}{s:Ψ}
theorem Ld(x:IsTup s.heap t vs.toArray)(y:IsTup s.heap b ws.toArray)(i:vs≠[])
  (z:ws=[]->Q (.ref t) s) (B:ws≠[]->Q (.ref s.heap.objs.size) {s with heap:=s.heap.push {cls:=.type "tuple",data:=.seq (vs++ws).toArray}})
  (g:vs.length+ws.length<=ό):ϣ (Ϣ prog w) A (binaryOp .Add (.ref t) (.ref b)) Q E s:=by
 obtain⟨⟨cls,l,data,m⟩,c,o,n,p⟩:=id x
 obtain⟨⟨C,q,h,r⟩,d,u,v,a⟩:=id y
 simp only at o p u a
 subst o p u a
 have e:vs.toArray++ws.toArray=(vs++ws).toArray:=by simp
 by_cases f:ws=[]
 ·exact Uc ⟨_,c,Λ⟩ ⟨_,d,Λ⟩ KS PD slot_tuple_add entry_tuple_add (args_tuple_add_2 _ _)
   (tuple_addW1 t b vs.toArray ws.toArray n v l q m r (by simpa using i) (by simp[f])) ⟨c,d,z f⟩
 ·refine Uc ⟨_,c,Λ⟩ ⟨_,d,Λ⟩ KS PD slot_tuple_add entry_tuple_add (args_tuple_add_2 _ _)
   (tuple_addW2 t b vs.toArray ws.toArray n v l q m r (by simpa using i) (by simpa using f) (by rw[Ϩ,Ϩ];exact g)) ⟨c,d,?_⟩
  rw[e]
  exact B f
noncomputable def Hm(n d:Nat):Option Int->Nat
 |none=>d
 |some v=>if v<0 then (v+(n:Int)).toNat else min v.toNat n
theorem HA(n d k:Nat):Hm n d (Α (k:Int))=min k n:=by
 show(if (k:Int)<0 then ((k:Int)+(n:Int)).toNat else min (k:Int).toNat n)=min k n
 rw[Θ (by omega),Υ]
end
end HT
namespace L2
open PySem PySem.Spec PyProof.Rows
abbrev TO:=St->Hp->(Option Int->Hp->Prop)->Prop
def PO(X:Cx)(e:Option Expr)(t:TO):Prop:=
 ∀(ν:List (Ν×Obj))(s:Ψ)(σ:St)(H:Hp)(Q:Option Int->Hp->Prop),ς X ν σ H s->t σ H Q->
  ϣ (Ϣ X.prog X.w) X.A (evalPart e X.env) (λu s'=>∃o H',ς X ν σ H' s'/\IsPart u o/\Q o H') X.xe s
def yW:TO:=λ_ H Q=>Q Β H
inductive Uan(Q:Option Int->Hp->Prop)(x:V)(H1:Hp):Prop
 |mk (i)(_:x=.int i)(_:Q (Α i) H1)
def PN(t:TE):TO:=λσ H Q=>t σ H λx H1=>Uan Q x H1
theorem sG:∀{us:List Τ},τ (a.map V.int) us->œ us a:=by
 induction a with
 |nil=>intro us r;rw[map_nil]at r;cases r;exact .nil
 | cons n a b =>
  intro us r
  rw[Ϭ]at r
  cases r with
  | cons c d =>
   obtain⟨t,e⟩:=c
   subst e
   exact .cons n t (b d)
section
variable {X:Cx}{e:Expr}{te:TE}{lo hi:Option Expr}{tl th:TO}{pos p2:Pos}
theorem zy:PO X Β yW:=by
 intro a s b H Q I h
 rw[evalPart_none]
 exact Ϡ ⟨Β,H,I,.none,h⟩
theorem oq(h:PE X e te):PO X (Α e) (PN te):=by
 intro a s b H Q I c
 rw[evalPart_some]
 refine b8 (h a s b H _ I c) λu m d=>?_
 obtain⟨x,f,g,j,l⟩:=d
 obtain⟨i,rfl,q⟩:=l
 obtain⟨t,rfl⟩:=j
 exact⟨_,f,g,.int i t,q⟩
def SlR(X:Cx)(r:V->Option Int->Option Int->Hp->VK->Prop):Prop:=
 ∀(ν:List (Ν×Obj))(s:Ψ)(σ:St)(H:Hp)(x:V)(v vl vu:Τ)(lo hi:Option Int)(sl:Ν)(Q:VK),ς X ν σ H s->RelV x v->s.heap.IsSliceOf sl vl vu .none->IsPart vl lo->IsPart vu hi->r x lo hi H Q->
  ∃T id,za2 (.type T) "__getitem__"=pure (Α (.builtin id))/\s.TypeIs v T/\ϣ (Ϣ X.prog X.w) X.A (getItem v (.ref sl)) (EP X ν σ Q) X.xe s
def tSl(r:V->Option Int->Option Int->Hp->VK->Prop)(te:TE)(tl th:TO):TE:=λσ H Q=>te σ H λx H1=>tl σ H1 λl H2=>th σ H2 λu H3=>r x l u H3 Q
theorem pM(n:SlR X r)(o:PE X e te)(p:PO X lo tl)(t:PO X hi th):PE X (.Subscript e (.Slice lo hi Β p2) pos) (tSl r te tl th):=by
 intro a s f H Q I h
 refine za5 (b8 (o a s f H _ I h) λv y j=>?_)
 obtain⟨x,z,B,C,D⟩:=j
 refine wpAny_Slice (b8 (p a y f z _ B D) λg E ⟨l,F,G,J,K⟩=>b8 (t a E f F _ G K) λi c j=>?_)
 obtain⟨u,m,L,M,N⟩:=j
 rw[evalPart_none]
 refine Ϡ ?_
 have O:ς X a f m {c with heap:=c.heap.push {cls:=.type "slice",data:=.fields #[g,i,.none]}}:=L.kept (t':=c.toks) λb U q=>Ο _ q
 obtain⟨T,Y,P,R,S⟩:=n a {c with heap:=c.heap.push {cls:=.type "slice",data:=.fields #[g,i,.none]}} f m x v g i l u c.heap.objs.size Q O C (Ü.IsSliceOf.new ..) J M N
 exact tail_any (ops:=[.ref c.heap.objs.size,v]) R P S (by with_unfolding_all rfl)
noncomputable def oS(xs:List V)(lo hi:Option Int):List V:=(xs.drop (HT.Hm xs.length 0 lo)).take (HT.Hm xs.length xs.length hi - HT.Hm xs.length 0 lo)
theorem qv(xs:List V)(lo hi:Option Int):(oS xs lo hi).length<=xs.length:=by
 unfold oS
 rw[Š,List.length_drop]
 omega
inductive PQ(K:ϧ)(x:V)(y:V)(H:Hp)(Q:VK):Prop
 |mk (a b xs ys)(_:x=.ref a)(_:y=.ref b)(_:Ec K H a xs)(_:Ec K H b ys)(_:xs≠[])(_:xs.length+ys.length<=ό)(_:(ys=[]->Q (.ref a) H)/\(ys≠[]->∀p,H p=Β->Q (.ref p) (ο H p (.tup (xs++ys)))))
theorem τ.G9(r:τ xs us):us=[]↔xs=[]:=by
 cases r with
 |nil=>simp
 |cons _ _=>simp
theorem zE:eU X (binaryOp .Add) (PQ X.K):=by
 intro f s B H x y v u Q I i j h
 obtain⟨a,b,xs,l,rfl,rfl,m,n,p,g,r,t⟩:=h
 cases i
 cases j
 obtain⟨C,d,A,_⟩:=I.tuple m
 obtain⟨D,c,p2,_⟩:=I.tuple n
 refine HT.Ld A p2 (λz=>p (d.G9.mp z)) (λz=>⟨.ref a,H,I,Λ,r (c.G9.mp z)⟩) (λz=>?_) (by rw[←d.length,←c.length];exact g)
 refine⟨.ref s.heap.objs.size,_,I.laid (t':=s.toks) (o:=.tup (xs++l)) (λb E q=>Ο _ q) (Ρ _) ?_,Λ,t (λw=>z (c.G9.mpr w)) _ (I.DY.fresh (Ρ _))⟩
 exact⟨by rw[ϗ];exact g,_,d.append c,Fp.new _ _⟩
end
noncomputable def Aq(n:Nat)(i:Int):Option Nat:=if 0<=i then (if i<n then Α i.toNat else Β) else if -(n:Int)<=i then Α (i+n).toNat else Β
noncomputable def yS{α:Type}(xs:List α)(i:Int):Option α:=(Aq xs.length i).bind λj=>xs[j]?
theorem ut(h:Aq n i=Α j):Ke i n=Α j/\j<n/\-(n:Int)<=i/\i<n:=by
 unfold Aq at h
 by_cases b:0<=i
 ·rw[Ι b]at h
  by_cases a:i<n
  ·rw[Ι a]at h
   have e:=Ϝ h
   exact⟨by rw[WW b a,e],by omega,by omega,a⟩
  ·rw[Θ a]at h;cases h
 ·rw[Θ b]at h
  by_cases a:-(n:Int)<=i
  ·rw[Ι a]at h
   have e:=Ϝ h
   exact⟨by rw[seqIndex_neg (uv.mp ‹_›) a,e],by omega,a,by omega⟩
  ·rw[Θ a]at h;cases h
theorem oZ(h:yS xs i=Α v):∃j,Ke i xs.length=Α j/\xs[j]?=Α v/\j<xs.length/\-(xs.length:Int)<=i/\i<xs.length:=by
 unfold yS at h
 cases e:Aq xs.length i with
 |none=>rw[e]at h;cases h
 | some j =>
  rw[e]at h
  obtain⟨a,b,c,d⟩:=ut e
  exact⟨j,a,h,b,c,d⟩
theorem aq{j:Nat}{v:α}(h:xs[j]?=Α v):yS xs (j:Int)=Α v:=by
 have a:=(gQ0 h)
 have e:Aq xs.length (j:Int)=Α j:=by
  unfold Aq
  rw[Ι (Φ _),Ι (ó.mpr ‹_›)];simp
 unfold yS;rw[e];exact h
def AO(b:Expr):Prop:=∀o i,L8 b Ε o i=operate [o,i] (getItem o i)
def G0(X:Cx)(r:R2):Prop:=
 ∀(value slice:Expr)(ν:List (Ν×Obj))(s:Ψ)(σ:St)(H:Hp)(x y:V)(v u:Τ)(Q:VK),ς X ν σ H s->RelV x v->RelV y u->r x y H Q->
  L8 slice Ε v u=operate [v,u] (getItem v u)->ϣ (Ϣ X.prog X.w) X.A (subscriptTail value slice v u) (EP X ν σ Q) X.xe s
def TH(X:Cx)(id:String)(r:V->List V->Hp->VK->Prop):Prop:=
 ∀(ν:List (Ν×Obj))(s:Ψ)(σ:St)(H:Hp)(x:V)(xs:List V)(v:Τ)(us:List Τ)(Q:VK),ς X ν σ H s->RelV x v->τ xs us->r x xs H Q->
  ϣ (Ϣ X.prog X.w) X.A (call (.builtin id) (v:: us)) (EP X ν σ Q) X.xe s
section
variable {X:Cx}{a b:Expr}{ta tb:TE}{pos:Pos}
theorem G0.or(h:G0 X r)(i:G0 X r'):G0 X (λx y H Q=>r x y H Q∨r' x y H Q):=by
 intro value slice c s d H x y v u Q I e f q g
 rcases q with q|q
 ·exact h value slice c s d H x y v u Q I e f q g
 ·exact i value slice c s d H x y v u Q I e f q g
theorem aD(d:G0 X r)(e:PE X a ta)(f:PE X b tb)(g:AO b):PE X (.Subscript a b pos) (T9 r ta tb):=by
 intro c s i H Q I h
 exact za5 (D8 e f I h λv u j x y l m n o q=>d a b c j i l x y v u Q m n o q (g _ _))
inductive rS(K:ϧ)(x:V)(y:V)(H:Hp)(Q:VK):Prop
 |mk (p xs i v)(_:x=.ref p)(_:y=.int i)(_:DT K H p xs)(_:yS xs i=Α v)(_:Q v H)
inductive jr(K:ϧ)(x:V)(y:V)(H:Hp)(Q:VK):Prop
 |mk (p xs i v)(_:x=.ref p)(_:y=.int i)(_:Ec K H p xs)(_:yS xs i=Α v)(_:Q v H)
inductive PR(x:V)(y:V)(H:Hp)(Q:VK):Prop
 |mk (z i c)(_:x=.str z)(_:y=.int i)(_:z.length<=ό)(_:yS z.cps.toList i=Α c)(_:Q (.str ⟨#[c]⟩) H)
theorem DZ:G0 X (rS X.K):=by
 intro value slice c s g H x y v u Q I o A h l
 obtain⟨p,xs,i,z,rfl,rfl,B,C,q⟩:=h
 cases o
 obtain⟨t,rfl⟩:=A
 obtain⟨D,r,e,N⟩:=I.list B
 obtain⟨j,d,E,O,F,G⟩:=oZ C
 obtain⟨w,m,J⟩:=r.get E
 have L:=r.length
 have P:=j1
 have fin:EP X c g Q w s:=⟨z,H,I,J,q⟩
 by_cases n:0<=i
 ·have f:i.toNat=j:=by
   rw[WW n G]at d
   exact Ϝ d
  exact item_listR e.isList n (by omega) (by rw[f];simpa using m) fin l
 ·have f:(i+(D.toArray.size:Int)).toNat=j:=by
   rw[seqIndex_neg (uv.mp ‹_›) F]at d
   rw[Ϩ,←L]
   exact Ϝ d
  exact U0 (x:=w) e.isList.typeIs slot_list_getitem.lookup
   (wpAny_getItem_list_neg (Q:=λr M=>r=w/\EP X c g Q r M) e.isList (uv.mp ‹_›) (by rw[Ϩ]<;>omega) (by omega) (by rw[f];simpa using m) ⟨Λ,fin⟩) l
theorem DV:G0 X (jr X.K):=by
 intro value slice c s d H x y v u Q I f g h l
 obtain⟨p,xs,i,z,rfl,rfl,m,n,q⟩:=h
 cases f
 obtain⟨t,rfl⟩:=g
 obtain⟨F,r,e,G⟩:=I.tuple m
 obtain⟨j,o,A,J,L,M⟩:=oZ n
 obtain⟨w,B,C⟩:=r.get A
 have D:=r.length
 have N:=j1
 have fin:EP X c d Q w s:=⟨z,H,I,C,q⟩
 exact U0 (x:=w) e.typeIs slot_tuple_getitem.lookup
  (getItem_tuple (j:=j) (Q:=λr E=>r=w/\EP X c d Q r E) e (by omega) (by omega) (by rw[Ϩ,←D];exact o) (by simpa using B) ⟨Λ,fin⟩) l
theorem Df:G0 X PR:=by
 intro value slice d s B H x y v u Q I f g h l
 obtain⟨z,i,c,rfl,rfl,C,m,q⟩:=h
 obtain⟨t,rfl⟩:=f
 obtain⟨D,rfl⟩:=g
 obtain⟨j,e,n,E,o,p⟩:=oZ m
 have r:z.cps.toList.length=z.length:=by simp[Str.length]
 rw[r]at e o p
 have F:=j1
 exact tail_any (typeIs_str s z t) slot_str_getitem.lookup (getItem_str (c:=c) (by
  have w:decide (i< -(2^63:Int))=Ε:=Η (by omega)
  have A:decide (i ≥ 2^63)=Ε:=Η (by omega)
  rw[w,A,Bool.or_false]) (by rw[e];simpa using n) ⟨.str ⟨#[c]⟩,H,I.tok _,⟨_,Λ⟩,q⟩) l
def rIx(K:ϧ):R2:=λx y H Q=>rS K x y H Q∨jr K x y H Q∨PR x y H Q
theorem lu:G0 X (rIx X.K):=DZ.or (DV.or Df)
theorem sj(c:List Τ)(n j:Nat)(u:Τ):ß (·.setIfInBounds j u) {cls:=.type "list",data:=.seq c.toArray n}={cls:=.type "list",data:=.seq (c.set j u).toArray n}:=by
 simp[ß]
theorem ς.π{d:St}{H:Hp}{s:Ψ}{p:Ν}{xs:List V}(I:ς X ν d H s)(h:H p=Α (.π xs)):
  ∃(c:List Τ)(n:Nat),τ xs c/\s.heap.get? p=Α {cls:=.type "list",data:=.seq c.toArray n}/\xs.length<=ό:=by
 obtain⟨z,c,n,r,e⟩:=I.DY p _ h
 exact⟨c,n,r,e,z⟩
theorem ς.Na{d:St}{g c:List Τ}(I:ς X ν d H s)(h:H p=Α (.π xs))
  (l:s.heap.get? p=Α {cls:=.type "list",data:=.seq g.toArray n}) (i:f {cls:=.type "list",data:=.seq g.toArray n}={cls:=.type "list",data:=.seq c.toArray n'}) (r:τ ys c) (m:ys.length<=ό) (t:Nat):
  ς X ν d (ο H p (.π ys)) {s with heap:=s.heap.update p f,toks:=t}:=by
 have e:(s.heap.update p f).get? p=Α {cls:=.type "list",data:=.seq c.toArray n'}:=by
  rw[í f l (by rw[i]<;>rfl),i]
 refine I.write (x:=p) (e:=p) (by rw[h];trivial) (.inl Λ) (λb u o q=>(Û _ _ (Ϟ o)).trans q) ⟨_,e⟩ ?_
 exact⟨m,c,_,r,e⟩
inductive PU(o:V)(i:V)(v:V)(H:Hp)(Q:Hp->Prop):Prop
 |mk (p xs k j)(_:o=.ref p)(_:i=.int k)(_:H p=Α (.π xs))(_:Aq xs.length k=Α j)(_:Q (ο H p (.π (xs.set j v))))
theorem eK:Pz X PU:=by
 intro c s B H o i v J K u Q I C D E h
 obtain⟨p,xs,k,j,rfl,rfl,l,F,q⟩:=h
 cases C
 obtain⟨t,rfl⟩:=D
 obtain⟨m,n,r,e,G⟩:=I.π l
 obtain⟨d,L,w,x⟩:=ut F
 have f:=r.length
 have M:=j1
 have y:=
  I.Na l e (sj m n j u) (r.set E j) (by rw[Ĵ];exact G) s.toks
 by_cases A:0<=k
 ·have g:k.toNat=j:=by
   rw[WW A x]at d
   exact Ϝ d
  exact PySem.W.ki_setAt e A (by omega) (by rw[Ϩ,←f];exact x) (by rw[g];exact⟨_,y,q⟩)
 ·have g:(k+(m.toArray.size:Int)).toNat=j:=by
   rw[seqIndex_neg (uv.mp ‹_›) w]at d
   rw[Ϩ,←f]
   exact Ϝ d
  exact PySem.W.ki_setBack e (uv.mp ‹_›) (by rw[Ϩ,←f];exact w) (by omega) (by rw[g];exact⟨_,y,q⟩)
theorem nS(c d:Option Int)(n:Nat):(Ş c d Β n).1=((HT.Hm n 0 c:Nat):Int)/\(Ş c d Β n).2.1=((HT.Hm n n d:Nat):Int)/\(Ş c d Β n).2.2=1:=by
 refine⟨?_,?_,Λ⟩
 ·cases c with
  |none=>simp[Ş,HT.Hm]
  | some i =>
   simp only[Ş,HT.Hm,ŭ,show (1:Int) > 0 by decide,if_true]
   by_cases h:i<0
   ·simp only[h,if_true]<;>omega
   ·simp only[h,if_false]<;>omega
 ·cases d with
  |none=>simp[Ş,HT.Hm]
  | some i =>
   simp only[Ş,HT.Hm,ŭ,show (1:Int) > 0 by decide,if_true]
   by_cases h:i<0
   ·simp only[h,if_true]<;>omega
   ·simp only[h,if_false]<;>omega
theorem lL(c:List Τ)(d e:Option Int):slicePick c.toArray d e Β=((c.drop (HT.Hm c.length 0 d)).take (HT.Hm c.length c.length e - HT.Hm c.length 0 d)).toArray:=by
 obtain⟨f,g,h⟩:=nS d e c.toArray.size
 unfold slicePick
 rw[f,g,h]
 simp only[sliceRange_one,pick_run,Ϩ]<;>rfl
inductive VY(K:ϧ)(x:V)(lo:Option Int)(hi:Option Int)(H:Hp)(Q:VK):Prop
 |mk (a xs)(_:x=.ref a)(_:DT K H a xs)(_:∀p,H p=Β->Q (.ref p) (ο H p (.π (oS xs lo hi))))
theorem tO:SlR X (VY X.K):=by
 intro f s t H x v u w d e y Q I i j l m h
 obtain⟨a,xs,rfl,n,q⟩:=h
 cases i
 obtain⟨z,r,g,p⟩:=I.list n
 have c:=r.length
 refine⟨_,_,slot_list_getitem.lookup,g.isList.typeIs,?_⟩
 refine wpAny_getItem_list_slice g.isList j l m .none (by simp) ?_ (by rw[Ϩ]<;>omega)
 rw[lL,←c]
 refine⟨.ref s.heap.objs.size,_,I.laid (t':=s.toks) (o:=.π (oS xs d e)) (λb A q=>Ο _ q) (Ρ _) ?_,Λ,q _ (I.DY.fresh (Ρ _))⟩
 exact⟨À (qv xs d e) p,_,0,(r.drop (HT.Hm xs.length 0 d)).take (HT.Hm xs.length xs.length e - HT.Hm xs.length 0 d),ϡ _ Λ⟩
noncomputable def io:V->Bool
 |.Eh=>Δ
 |.bl _=>Δ
 |.int _=>Δ
 |.str _=>Δ
 |_=>Ε
noncomputable def Br:V->V->Bool
 |.Eh,.Eh=>Δ
 |.bl a,.bl b=>a == b
 |.bl a,.int b=>(if a then 1 else 0) == b
 |.int a,.bl b=>a == (if b then 1 else 0)
 |.int a,.int b=>a == b
 |.str a,.str b=>a == b
 |_,_=>Ε
theorem Do(e:RelV y u)(c:RelV x v)(g:io y=Δ)(f:io x=Δ):è A s u v (Br y x):=by
 cases y with
 | Eh =>
  cases e
  cases x with
  |Eh=>cases c;exact è.same _
  |bl b=>cases c;exact è.none_bool b
  |int b=>obtain⟨t,rfl⟩:=c;exact è.none_int b t
  |str b=>obtain⟨t,rfl⟩:=c;exact è.none_str b t
  |_=>exact Κ (f) ϝ
 | bl a =>
  cases e
  cases x with
  |Eh=>cases c;exact è.bool_none a
  |bl b=>cases c;exact è.bool_bool a b
  |int b=>obtain⟨t,rfl⟩:=c;exact è.bool_int a b t
  |str b=>obtain⟨t,rfl⟩:=c;exact è.bool_str a b t
  |_=>exact Κ (f) ϝ
 | int a =>
  obtain⟨d,rfl⟩:=e
  cases x with
  |Eh=>cases c;exact è.int_none a d
  |bl b=>cases c;exact è.int_bool a d b
  |int b=>obtain⟨t,rfl⟩:=c;exact è.int_int a d b t
  |str b=>obtain⟨t,rfl⟩:=c;exact LZ a d b t
  |_=>exact Κ (f) ϝ
 | str a =>
  obtain⟨d,rfl⟩:=e
  cases x with
  |Eh=>cases c;exact è.str_none a d
  |bl b=>cases c;exact è.str_bool a d b
  |int b=>obtain⟨t,rfl⟩:=c;exact LY a d b t
  |str b=>obtain⟨t,rfl⟩:=c;exact è.str_str a d b t
  |_=>exact Κ (f) ϝ
 |_=>exact Κ (g) ϝ
noncomputable def sL(x:V)(u:Τ):Bool:=match u with
 |.none=>Br .Eh x
 |.bool b=>Br (.bl b) x
 |.int i _=>Br (.int i) x
 |.str z _=>Br (.str z) x
 |_=>Ε
theorem yz(r:RelV y u)(f:io y=Δ):sL x u=Br y x:=by
 cases y with
 |Eh=>cases r;rfl
 |bl b=>cases r;rfl
 |int i=>obtain⟨t,rfl⟩:=r;rfl
 |str z=>obtain⟨t,rfl⟩:=r;rfl
 |_=>exact Κ (f) ϝ
theorem jg:∀{xs:List V}{us:List Τ},τ xs us->xs.all io=Δ->us.any (sL x)=xs.any λy=>Br y x
 |_,_,.nil,_=>rfl
 | y:: xs,u:: us,.cons r t,f=>by
  rw[Ye,É]at f
  rw[r4,r4,yz r f.1,jg t f.2]
theorem gw(d:RelV x v)(e:io x=Δ):∀{xs:List V}{us:List Τ},τ xs us->xs.all io=Δ->∀u∈us,è A s u v (sL x u)
 |_,_,.nil,_=>λu c=>by cases c
 | y:: xs,u:: us,.cons r t,f=>λg c=>by
  rw[Ye,É]at f
  rcases ϥ.mp c with rfl|c
  ·rw[yz r f.1];exact Do r d f.1 e
  ·exact gw d e t f.2 g c
noncomputable def Bo(x:V)(xs:List V):Bool:=xs.any λy=>Br y x
inductive TK(K:ϧ)(neg:Bool)(x:V)(y:V)(H:Hp)(Q:VK):Prop
 |mk (p xs)(_:y=.ref p)(_:(DT K H p xs∨Ec K H p xs)/\io x=Δ/\xs.all io=Δ/\Q (.bl (if neg then !Bo x xs else Bo x xs)) H)
theorem mD:eU X (compareOp .In) (TK X.K Ε):=by
 intro g s n H x y v u Q I i l h
 obtain⟨p,xs,rfl,c,j,fs,q⟩:=h
 cases l
 rcases c with c|c
 ·obtain⟨d,r,e,m⟩:=I.list c
  refine SeqAt.in_listAt (sL x) e.isList (λw f=>gw i j r fs w (by simpa using f)) ⟨.bl _,H,I,Λ,?_⟩
  rw[show d.toArray.any (sL x)=d.any (sL x) by simp,jg r fs]
  exact q
 ·obtain⟨d,r,e,m⟩:=I.tuple c
  refine SeqAt.in_tupleAt (sL x) e (λw f=>gw i j r fs w (by simpa using f)) ⟨.bl _,H,I,Λ,?_⟩
  rw[show d.toArray.any (sL x)=d.any (sL x) by simp,jg r fs]
  exact q
theorem ow:eU X (compareOp .NotIn) (TK X.K Δ):=by
 intro g s n H x y v u Q I i l h
 obtain⟨p,xs,rfl,c,j,fs,q⟩:=h
 cases l
 rcases c with c|c
 ·obtain⟨d,r,e,m⟩:=I.list c
  refine SeqAt.notIn_listAt (sL x) e.isList (λw f=>gw i j r fs w (by simpa using f)) ⟨.bl _,H,I,Λ,?_⟩
  rw[show d.toArray.any (sL x)=d.any (sL x) by simp,jg r fs]
  exact q
 ·obtain⟨d,r,e,m⟩:=I.tuple c
  refine SeqAt.notIn_tupleAt (sL x) e (λw f=>gw i j r fs w (by simpa using f)) ⟨.bl _,H,I,Λ,?_⟩
  rw[show d.toArray.any (sL x)=d.any (sL x) by simp,jg r fs]
  exact q
theorem aA:cZ X (.builtin "len") (λxs H Q=>∃p d,xs=[.ref p]/\(DT X.K H p d∨Ec X.K H p d)/\Q (.int d.length) H):=by
 intro i s n H xs us Q I r h
 obtain⟨p,d,rfl,e,q⟩:=h
 obtain⟨u,rfl,j⟩:=lW r
 cases j
 have o:=j1
 rcases e with e|e
 ·obtain⟨l,f,g,m⟩:=I.list e
  have c:=f.length
  exact Calls.call_len_list g.isList (by simp only[Ϩ]<;>omega) ⟨.int d.length,H,I.tok _,⟨s.toks+1,by rw[Ϩ,c]⟩,q⟩
 ·obtain⟨l,f,g,m⟩:=I.tuple e
  have c:=f.length
  exact len_tuple g (by simp only[Ϩ]<;>omega) ⟨.int d.length,H,I.tok _,⟨s.toks+1,by rw[Ϩ,c]⟩,q⟩
theorem cI:cZ X (.type "list") (λxs H Q=>∃p f,xs=[.ref p]/\(DT X.K H p f∨Ec X.K H p f)/\∀l,H l=Β->Q (.ref l) (ο H l (.π f))):=by
 intro j s E H xs us Q I r h
 obtain⟨p,f,rfl,m,q⟩:=h
 obtain⟨u,rfl,F⟩:=lW r
 cases F
 have fin:∀(d:List Τ),τ f d->f.length<=ό->∀(c:Ü)(g:Nat),(∀b C,s.heap.get? b=Α C->c.get? b=Α C)->
   c.get? s.heap.objs.size=Α {cls:=.type "list",dict:=Β,data:=.seq d.toArray g,slots:=#[]}->EP X j E Q (.ref s.heap.objs.size) {s with heap:=c}:=λd i t c g v e =>
  ⟨.ref s.heap.objs.size,_,I.laid (t':=s.toks) v (Ρ _) (show Ek X.prog X.w _ c _ (.π f) from ⟨t,d,g,i,e⟩),Λ,q _ (I.DY.fresh (Ρ _))⟩
 rcases m with m|m
 ·obtain⟨d,i,y,t⟩:=I.list m
  have x:=i.length
  obtain⟨o,z,A,n,B⟩:=y.isList
  exact call_list_seq p (.inl Λ) z A B (λc g v e=>fin d i t c g v e) (by simp only[Ϩ]<;>omega)
 ·obtain⟨d,i,y,t⟩:=I.tuple m
  have x:=i.length
  obtain⟨o,z,A,n,B⟩:=y
  exact call_list_seq p (.inr Λ) z A B (λc g v e=>fin d i t c g v e) (by simp only[Ϩ]<;>omega)
theorem cC:cZ X (.type "tuple") (λxs H Q=>∃p d,xs=[.ref p]/\((DT X.K H p d/\∀l,H l=Β->Q (.ref l) (ο H l (.tup d)))∨(Ec X.K H p d/\Q (.ref p) H))):=by
 intro c s t H xs us Q I r h
 obtain⟨p,d,rfl,h⟩:=h
 obtain⟨u,rfl,z⟩:=lW r
 cases z
 rcases h with ⟨i,q⟩|⟨i,q⟩
 ·obtain⟨j,m,n,v⟩:=I.list i
  have x:=m.length
  refine call_tuple_list n.isList (λg A=>?_) (by simp only[Ϩ]<;>omega)
  have y:=I.kept (t':=s.toks) A
  have B:=
   y.laid (t':=s.toks) (λb o e=>Ο _ e) (Ρ _) (show Ek X.prog X.w _ _ _ (.tup d) from ⟨v,j,m,Fp.new _ _⟩)
  exact⟨.ref g.objs.size,_,B,Λ,q _ (y.DY.fresh (Ρ _))⟩
 ·obtain⟨j,m,n,v⟩:=I.tuple i
  exact call_tuple_same n ⟨.ref p,H,I,Λ,q⟩
def VZ(K:ϧ)(T:String)(x:V)(H:Hp):Prop:=match x with
 |.str _=>T="str"
 |.int _=>T="int"
 | .ref p=>(T="list"/\∃xs,DT K H p xs)∨(T="tuple"/\∃o,K.lookup p=Α o/\o.cls=.type "tuple"/\o.dict=Β)∨
   (T="dict"/\((∃kvs,H p=Α (.dK kvs))∨∃kvs,H p=Α (.dT kvs)))∨(T="set"/\∃S n,H p=Α (.set S n))
 |_=>False
theorem vM{u:St}(I:ς X ν u H s)(r:RelV x v)(g:VZ X.K T x H):
  s.TypeIs v T/\∀a,v=.ref a->∃m,s.heap.get? a=Α m/\m.dict=Β:=by
 cases x with
 | str z =>
  obtain⟨t,rfl⟩:=r
  cases (g)
  exact⟨typeIs_str s z t,λ_ e=>nomatch e⟩
 | int i =>
  obtain⟨t,rfl⟩:=r
  cases (g)
  exact⟨typeIs_int s i t,λ_ e=>nomatch e⟩
 | ref p =>
  cases r
  rcases g with ⟨rfl,xs,w⟩|⟨rfl,o,d,y,h⟩|⟨rfl,d⟩|⟨rfl,S,n,d⟩
  ·obtain⟨A,_,q,_⟩:=I.list w
   refine⟨q.isList.typeIs,λa e=>?_⟩
   cases e
   obtain⟨o,n,e,c,h,_⟩:=q
   exact⟨o,e,h⟩
  ·refine⟨⟨o,I.EY p o d,y⟩,λa e=>?_⟩
   cases e
   exact⟨o,I.EY _ o d,h⟩
  ·have z:∃o,s.heap.get? p=Α o/\o.ExactDict:=by
    rcases d with ⟨j,d⟩|⟨j,d⟩
    ·obtain⟨_,_,_,_,o,_,_,e,f,_⟩:=I.DY p _ d
     exact⟨o,e,f⟩
    ·obtain⟨_,_,_,_,o,_,_,e,f,_⟩:=I.DY p _ d
     exact⟨o,e,f⟩
   obtain⟨o,e,f⟩:=z
   refine⟨⟨o,e,f.1⟩,λa l=>?_⟩
   cases l
   exact⟨o,e,f.2.1⟩
  ·obtain⟨o,_,_,_,e,f,_⟩:=I.DY p _ d
   refine⟨⟨o,e,f.1⟩,λa l=>?_⟩
   cases l
   exact⟨o,e,f.2.1⟩
 |_=>exact Ô g
def Wb(K:ϧ)(T:String)(r:V->List V->Hp->VK->Prop)(to:TE):TE:=λσ H Q=>to σ H λx H1=>VZ K T x H1/\r x [] H1 Q
def tBM(K:ϧ)(T:String)(r:V->List V->Hp->VK->Prop)(to:TE)(t:TA):TE:=λσ H Q=>to σ H λx H1=>VZ K T x H1/\t σ H1 λxs H2=>r x xs H2 Q
variable {o e:Expr}{es:List Expr}{to:TE}{t:TA}{name:Str}{apos Fc:Pos}{T id:String}{r:V->List V->Hp->VK->Prop}
theorem Cv(j:PlainAttrs T)(d:Slot T name id)(l:typeOf (.builtin id)=pure (.type "method_descriptor"))(m:TH X id r)(n:PE X o to)
  (p:autoParam (ŝ o name X.env (eval o X.env)=eval o X.env) η) (q:autoParam ((apos.endLine == Fc.line)=Δ) η):PE X (.Call (.Attribute o name apos) [] [] Fc) (Wb X.K T r to):=by
 intro c s f H Q I h
 refine wpAny_Call_method0_late p q (b8 (n c s f H _ I h) λv u w=>?_)
 obtain⟨x,y,g,i,z,A⟩:=w
 obtain⟨B,C⟩:=vM g i z
 exact⟨T,_,j,d,l,B,C,Ż Λ (PySem.evalArgs_none (m c u f y x [] v [] Q g i .nil A))⟩
theorem cF(m:PlainAttrs T)(d:Slot T name id)(n:typeOf (.builtin id)=pure (.type "method_descriptor"))(p:TH X id r)(q:PE X o to)(u:PA X (e:: es) t)
  (w:autoParam (ŝ o name X.env (eval o X.env)=eval o X.env) η)
  (y:((Đ Fc (Á (e:: es) X.env)).all (λx=>!x.1)&& (Ii Fc (ž [] X.env)).all (λx=>x.1.isSome)
   && decide ((e:: es).length+([]:List Ug).length+(if ([]:List Ug).isEmpty then 0 else 1)<30))=Δ:=by rfl)
  (z:autoParam ((apos.endLine == Fc.line)=Δ) η) (A:autoParam (Á (e:: es) X.env=(Ε,eval e X.env):: Á es X.env) η) (B:autoParam ((Đ Fc (Á es X.env)).any (·.1)=Ε) η):
  PE X (.Call (.Attribute o name apos) (e:: es) [] Fc) (tBM X.K T r to t):=by
 intro c s f H Q I h
 refine TR w y z Λ (b8 (q c s f H _ I h) λv C g=>?_)
 obtain⟨x,D,i,j,E,F⟩:=g
 obtain⟨G,J⟩:=vM i j E
 refine⟨T,_,m,d,n,G,J,?_⟩
 have l:=u Fc c C f D _ i F
 rw[A]at l⊢
 refine Ż (by show(Ε||(Đ Fc (Á es X.env)).any (·.1))=Ε;rw[B]<;>rfl) (OA ?_)
 exact b8 l λus L g=>by obtain⟨M,N,O,P,R⟩:=g;exact p c L f N x M v us Q O j P R
end
def We(X:Cx)(id:String)(r:V->List V->Hp->VK->Prop):Prop:=
 ∀(ν:List (Ν×Obj))(s:Ψ)(σ:St)(H:Hp)(x:V)(xs:List V)(v:Τ)(us:List Τ)(Q:VK),ς X ν σ H s->RelV x v->τ xs us->r x xs H Q->
  ϣ (Ϣ X.prog X.w) X.A (call (.builtin id) (v:: us)) (EP X ν σ Q) X.xe s
theorem τ.one:∀{x:V}{us:List Τ},τ [x] us->∃u,us=[u]/\RelV x u:=by
 intro x us h
 cases h with
 |cons r t=>cases t;exact⟨_,Λ,r⟩
theorem τ.eraseIdx:∀{xs:List V}{us:List Τ}(i:Nat),τ xs us->τ (xs.eraseIdx i) (us.eraseIdx i)
 |_,_,_,.nil =>.nil
 |_,_,0,.cons _ t=>t
 |_,_,i+1,.cons r t =>.cons r (τ.eraseIdx i t)
theorem mP{a:Type}:∀(l:List a)(i:Nat),(l.eraseIdx i).length<=l.length
 |[],_=>Ρ _
 |_:: _,0=>Ź _
 |_:: r,i+1=>V8 (mP r i)
section
variable {X:Cx}{ν:List (Ν×Obj)}{σ:St}{H:Hp}{s:Ψ}{l b:Ν}{xs ys zs:List V}
theorem ς.Nc{a its':List Τ}(I:ς X ν σ H s)(d:H l=Α (.π xs))
  (e:s.heap.get? l=Α {cls:=.type "list",data:=.seq a.toArray n}) (g:f a.toArray=its'.toArray) (h:τ ys its') (i:ys.length<=ό):
  ς X ν σ (ο H l (.π ys)) {s with heap:=s.heap.update l (ß f),toks:=t'}:=by
 have q:=PySem.IsL.update e f
 rw[g]at q
 refine I.write (x:=l) (e:=l) (by rw[d];exact trivial) (.inl Λ) (λo u j m=>(Û s.heap (ß f) (Ϟ j)).trans m) ⟨_,q⟩ ?_
 exact⟨i,_,_,h,q⟩
theorem ς.Wg(I:ς X ν σ H s)(c:τ ys DW)(d:ys.length<=ό):
  ς X ν σ (ο H s.heap.objs.size (.π ys)) {s with heap:=s.heap.push {cls:=.type "list",data:=.seq DW.toArray},toks:=t'}:=
 I.laid (λ_ _ q=>Ο _ q) (Ρ _) ⟨d,DW,0,c,ϡ _ Λ⟩
theorem ς.fresh(I:ς X ν σ H s):H s.heap.objs.size=Β:=I.DY.fresh (Ρ _)
theorem ς.IQ(I:ς X ν σ H s)(c:H l=Α (.π xs)):xs.length<=ό/\∃(a:List Τ)(n:Nat),τ xs a/\xs.length=a.length/\s.heap.get? l=Α {cls:=.type "list",data:=.seq a.toArray n}:=by
 obtain⟨z,a,n,r,e⟩:=I.DY l _ c
 exact⟨z,a,n,r,r.length,e⟩
theorem xX(h:n<=ό):ŗ n=Ε:=by
 unfold ŗ
 exact Η (A6 ‹_›)
end
section
variable {X:Cx}
inductive zt(x:V)(vs:List V)(H:Hp)(Q:VK):Prop
 |mk (l xs y)(_:x=.ref l)(_:vs=[y])(_:H l=Α (.π xs))(_:xs.length<ό)(_:Q .Eh (ο H l (.π (xs++[y]))))
theorem bX:We X "list.append" zt:=by
 intro a s i H x j v us Q I d f h
 obtain⟨l,xs,y,rfl,rfl,b,m,q⟩:=h
 cases d
 obtain⟨u,rfl,g⟩:=f.one
 obtain⟨z,c,n,r,o,e⟩:=I.IQ b
 refine NG F.slot_list_append ⟨_,e,Λ⟩ F.entry_list_append (F.args_list_append_2 _ _) (PySem.list_append l c.toArray n u (by rw[Ϩ];omega)) ⟨e,?_⟩
 refine⟨.Eh,_,I.Nc (its':=c++[u]) b e (by simp) (r.append (.cons g .nil)) ?_,Λ,q⟩
 rw[ϗ,Â]
 omega
inductive zq(x:V)(vs:List V)(H:Hp)(Q:VK):Prop
 |mk (l b xs zs)(_:x=.ref l)(_:vs=[.ref b])(_:H l=Α (.π xs))(_:H b=Α (.π zs))(_:xs.length+zs.length<=ό)(_:Q .Eh (ο H l (.π (xs++zs))))
theorem dA:We X "list.extend" zq:=by
 intro f s A H x B v us Q I i j h
 obtain⟨l,b,xs,C,rfl,rfl,g,m,D,q⟩:=h
 cases i
 obtain⟨u,rfl,o⟩:=j.one
 cases o
 obtain⟨z,DW,n,r,E,e⟩:=I.IQ g
 obtain⟨G,c,p,t,J,w⟩:=I.IQ m
 have d:DW.toArray.size+c.toArray.size<=ό:=by rw[Ϩ,Ϩ];omega
 have y:¬(!DW.toArray.isEmpty&& ŗ (DW.toArray.size+c.toArray.size))=Δ:=by
  rw[xX d,Bool.and_false]
  exact ϝ
 refine NG F.slot_list_extend ⟨_,e,Λ⟩ F.entry_list_extend (F.args_list_extend_2 _ _)
  (AutoSeq1.list_extend_list_list_0 l DW.toArray n b c.toArray p y (by rw[Ϩ];omega) (ø ‹_›)) ⟨e,w,?_⟩
 refine⟨.Eh,_,I.Nc (its':=DW++c) g e (by simp) (r.append t) ?_,Λ,q⟩
 rw[ϗ]
 omega
inductive Co(x:V)(vs:List V)(H:Hp)(Q:VK):Prop
 |mk (l xs i k y)(_:x=.ref l)(_:vs=[.int i])(_:H l=Α (.π xs))(_:-(2^63)<=i)(_:i<2^63)(_:Ke i xs.length=Α k)(_:xs[k]?=Α y)(_:Q y (ο H l (.π (xs.eraseIdx k))))
theorem ya:We X "list.pop" Co:=by
 intro b s D H x E v us Q I d f h
 obtain⟨l,xs,i,k,y,rfl,rfl,c,g,j,m,o,q⟩:=h
 cases d
 obtain⟨u,rfl,p⟩:=f.one
 obtain⟨t,rfl⟩:=p
 obtain⟨z,a,n,r,A,e⟩:=I.IQ c
 obtain⟨w,B,C⟩:=r.get o
 refine NG F.slot_list_pop ⟨_,e,Λ⟩ F.entry_list_pop (F.args_list_pop_2 _ _)
  (MeetsSeq.list_pop_at l a.toArray n i t k w (fitsIndex_both g j) (by rw[Ϩ,←A];exact m) (by rw[←Array.getElem?_toList];exact B) (by rw[Ϩ];omega)) ⟨e,?_⟩
 refine⟨y,_,I.Nc (its':=a.eraseIdx k) c e ?_ (r.eraseIdx k) ?_,C,q⟩
 ·show a.toArray.eraseIdxIfInBounds k=(a.eraseIdx k).toArray
  rw[List.eraseIdxIfInBounds_toArray]
 ·have:=mP xs k
  exact À ‹_› ‹_›
inductive Wh(x:V)(y:V)(H:Hp)(Q:VK):Prop
 |mk (l b xs zs)(_:x=.ref l)(_:y=.ref b)(_:H l=Α (.π xs))(_:H b=Α (.π zs))(_:xs.length+zs.length<=ό)(_:∀p,H p=Β->Q (.ref p) (ο H p (.π (xs++zs))))
theorem rW:eU X (binaryOp .Add) Wh:=by
 intro a s t H x y v u Q I f g h
 obtain⟨l,b,xs,w,rfl,rfl,i,j,A,q⟩:=h
 cases f
 cases g
 obtain⟨z,c,n,r,B,e⟩:=I.IQ i
 obtain⟨C,d,D,m,E,o⟩:=I.IQ j
 refine PySem.P.add_list e o ?_ (by rw[Ϩ,Ϩ];omega)
 have p:c.toArray++d.toArray=(c++d).toArray:=by simp
 rw[p]
 exact⟨.ref _,_,I.Wg (t':=s.toks) (r.append m) (by rw[ϗ];omega),Λ,q _ I.fresh⟩
end
section
variable {prog:Program}{w:Î}{A:Ø}{E:Τ->Ψ->Prop}{s:Ψ}
set_option maxRecDepth 100000 in
end
section
variable {X:Cx}
end
end L2
namespace Att
open PySem PySem.W PySem.Calls PyProof.Rows
theorem jM:∀(c:List Int)(d:List Τ),WellAll P h d (c.map WData.int)->œ d c:=by
 intro c
 induction c with
 | nil =>
  intro d w
  rw[map_nil]at w
  cases w
  exact .nil
 | cons n c e =>
  intro d w
  rw[Ϭ]at w
  cases w with
  | cons a b =>
   cases a
   exact .cons _ _ (e _ b)
theorem uP{l:OpenLaw}(o:l.most=Α n)
  (i:l.row.toRowW.claim.pre args=Δ) (p:WellAll P h vals args):
  ∃a j b,vals=[ϭ a]/\args=[WData.list (b.map WData.int)]/\h.get? a=Α {cls:=.type "list",data:=.seq j.toArray}/\œ j b/\b.length<=n:=by
 have g:=(pre_splitW i).1
 have m:l.pre.holds [] {args:=args}=Δ:=(pre_splitW i).2
 obtain⟨d,r,rfl,s,t⟩:=hasAllW_cons g
 obtain rfl:=hasAllW_nil t
 obtain⟨xs,rfl,u⟩:=hasW_list s
 obtain⟨b,rfl⟩:=items_int u
 have c:b.length<=n:=by
  unfold OpenLaw.pre at m
  have e:(WTm.not (.lt (.lit (.int (n:Int))) (.len (.arg 0)))).holds [] {args:=[.list (b.map .int)]}=Δ:=by
   have e:=(holds_andW m).1
   rw[o]at e
   exact e
  have f:=condW_of e (w_not (w_lt w_lit (w_len_list (w_arg Λ))))
  rw[ϊ]at f
  refine æ λq=>?_
  have v:(n:Int)<((b.length:Nat):Int):=ó.mpr ‹_›
  first
   |(rw[Ζ v]at f;exact Κ f (by decide))
   |(simp at f;omega)
 cases p with
 | cons w x =>
  cases x
  cases w with
  |list y z=>exact⟨_,_,b,Λ,Λ,y,jM b _ z,c⟩
theorem uS(l:OpenLaw)(args:List WData):l.row.toRowW.claim.post args (.bool Δ) args=Δ:=
 postW_of (r:=l.row.toRowW) (X:=(Δ == Δ))
  (show WShape.has [] (.bool Δ) .bool=Δ by first|rfl|decide|simp[WShape.has,WShape.arms,WShape.armsAll])
  (show(WTm.eq .res (.lit (.bool Δ))).value [] {args:=args,res:=Α (.bool Δ),after:=args}=Α (.bool (Δ == Δ)) from w_eq_bool (w_res Λ) w_lit) Λ
theorem Ik{l:OpenLaw}
  (B:l.most=Α n) (C:d.params.defaults=[])
  (call:∀(w:Î)(c b:Ψ)(m u:Str->Option Τ)(i:Ν)(o:Obj)(v p e:Τ)(a:Ν)(h:List Τ)(s:List Int),
   Ground q loose [] XP w c m u b.heap->YP w b.heap->
   b.heap.get? i=Α o->o.data=.func (docDef d.name d.params d.body d.scope v p e)->b.heap.CodeRec p d.name->m d.name=Α (.ref i)->
   b.heap.get? a=Α {cls:=.type "list",data:=.seq h.toArray}->œ h s->s.length<=n->b.gens=#[]->
   ū (Ϣ l.prog w) HV (.call (.ref i) ⟨[.ref a],[]⟩) (λr t=>r=.ok (.ret (.bool Δ))/\OldK b.heap t.heap/\t.os=b.os/\c1 t.gens) b):
  WalkO q loose XP YP l.row.toRowW d [] (λf h=>PySem.call f h):=by
 intro w c b m u G Y i o v p e D kV E F H y x I args z as J A K L S
 obtain rfl:D=.none:=Dflts.none y C
 obtain rfl:kV=.none:=Dflts.noKw y
 obtain⟨a,h,s,rfl,rfl,M,g,j⟩:=uP B J L
 refine enter_call (ķ (call w c b m u i o v p e a h s G Y E (fd_plain F) H x M g j I) λr t N=>?_)
 obtain⟨rfl,O,P,Q⟩:=N
 exact⟨.inl ⟨.bool Δ,.bool Δ,[],Λ,λ_=>rfl,.bool Δ,uS l _,λ_=>⟨gf,λ_ R=>(nomatch R)⟩⟩,O,P,Q⟩
section
variable {prog:Program}{w:Î}{A:Ø}{E:Τ->Ψ->Prop}{s:Ψ}{K:ϧ}
end
end Att
namespace L2
open PySem PySem.Spec PyProof.Rows
theorem jl:∀{a:List Τ}{b:List Int},œ a b->τ (b.map V.int) a
 |_,_,.nil =>.nil
 |_,_,.cons n t h =>.cons ⟨t,Λ⟩ (jl h)
noncomputable def aM(s:Ç)(j:Nat):Ç:=match s with
 |.ClassDef _ _ _ body _ _ _ _ _ _ _=>body.getD j (.Pass ⟨0,0,0,0⟩)
 |_ =>.Pass ⟨0,0,0,0⟩
noncomputable def cf(s:Ç):Arguments:=match s with
 |.FunctionDef _ a _ _ _ _ _ _ _ _=>a
 |_=>{posonlyargs:=[],args:=[],vararg:=Β,kwonlyargs:=[],kw_defaults:=[],kwarg:=Β,defaults:=[]}
noncomputable def aK(s:Ç):List Ç:=match s with
 |.FunctionDef _ _ b _ _ _ _ _ _ _=>b
 |_=>[]
noncomputable def am(s:Ç):Scope:=match s with
 |.FunctionDef _ _ _ _ _ _ sc _ _ _=>sc
 |_=>zQ0
abbrev aF:qU:=λ_ _ _ _ _ _=>False
abbrev E0:XK:=λ_ _ _=>False
theorem ar:gM aF X E0:=λ_ _ _ _ _ _ _ h=>h.elim
structure En(K:ϧ)(x qual:Str)(st:Ç)(f:Ν)(fd:Ý):Prop where
 ex:∃(oc:Τ)(od:Option Ν)(kV doc pm:Τ)(an:Option Ν)(cdv ct:Τ)(Hw:Array (Option Τ)),
  fd=v3 x qual (cf st) (aK st) (am st) .none kV doc pm an cdv ct/\K.lookup f=Α ⟨oc,od,.func fd,Hw⟩/\ri K cdv qual=Δ
 kp:Ϯ K (.ref f)=Δ
section
variable {P:Program}{w:Î}{K:ϧ}{mg:Str->Option Τ}{μ:Ü}
theorem En.ok{d:Ç}(F:En K x qual d f fd)(S:aw N ps (am d))
  (e:∀(b:Τ)(A:Ø)(a:List Env)(s:Ψ)(H:Hp)(c:List V)(Q:VK)(E:XK),Ea k (A.deeper (gc qual (am d) s.heap.objs.size f b))->sp c H Q E->
   ∃t,GF (lS aF P w K mg μ N qual (am d) f b A a s H E).JH (aK d) t/\t {nx:=λ_ g=>Q .Eh g,rt:=Q} (start N c) H)(len:∀c H Q E,sp c H Q E->c.length=ps.length:=by intro _ _ _ _ h;repeat first|(subst_vars;rfl)|obtain⟨_,h⟩:=h):DQ P w K mg μ aF (k+1) f fd ps sp:=by
 obtain⟨n,o,kV,i,p,an,b,r,u,rfl,lk,j⟩:=F.ex
 refine u9 lk j S len λA a s H c Q E l m=>?_
 obtain⟨t,h,q⟩:=e b A a s H c Q E l m
 exact⟨t,h.JH,q⟩
theorem En.binds{c:Ç}(F:En K x qual c f fd)
  (h:∀(kV a d:Τ)(an:Option Ν)(b e:Τ)(us:List Τ),us.length=ps.length->XN (v3 x qual (cf c) (aK c) (am c) .none kV a d an b e) ⟨us,[]⟩=pure (ps.zip us)):Binds K fd ps []:=by
 obtain⟨g,i,kV,a,d,an,b,e,j,rfl,lk,l⟩:=F.ex
 exact .all (h kV a d an b e)
theorem j3{st:Ç}{kV b d a e:Τ}(l:K.lookup f=Α ⟨oc,od,.func (v3 x qual (cf st) (aK st) (am st) .none kV b d an a e),Hw⟩)
  (c:ri K a qual=Δ) (k:Ϯ K (.ref f)=Δ):En K x qual st f (v3 x qual (cf st) (aK st) (am st) .none kV b d an a e):=⟨⟨oc,od,kV,b,d,an,a,e,Hw,Λ,l,c⟩,k⟩
end
theorem yp(a:Ea k A):A.units+1<ŋ:=į (oD (by decide:1<=64) _) a.units
section
variable {X:Cx}
theorem pv(i:Nat)(a:autoParam (X.N[i]?=Α x) η)(b:Tx X.env.scope x:=by first|exact ύ Λ|exact Ĥ (ύ Λ)|exact Ĥ (Ĥ Λ))(c:autoParam ((x == ("__debug__":Str))=Ε) θ)
  (d:autoParam ((x == ("__classdict__":Str))=Ε) θ):PE X (.Name x pos) (pj i):=Cr a b c d
end
theorem aJ{A B:Prop}(h:B):if Ε=Δ then A else B:=by
 rw[Θ ϝ]
 exact h
theorem aL{A B:Prop}(h:A):if Δ=Δ then A else B:=by
 rw[Ι Λ]
 exact h
theorem Wi{c A B:Prop}[Decidable c](a:c->A)(b:¬c->B):if c then A else B:=by
 by_cases h:c
 ·rw[Ι h]
  exact a h
 ·rw[Θ h]
  exact b h
def DP(H H':Hp):Prop:=∀b o,H b=Α o->H' b=Α o
theorem DP.refl(H:Hp):DP H H:=λ_ _ h=>h
theorem DP.trans(a:DP H H1)(b:DP H1 H2):DP H H2:=λc o h=>b c o (a c o h)
theorem DP.free(e:DP H H')(h:H' l=Option.none):H l=Option.none:=by
 cases q:H l with
 |none=>rfl
 | some o =>
  rw[e l o q]at h
  cases h
theorem DP.seq{K:ϧ}(e:DP H H')(h:DT K H a xs):DT K H' a xs:=by
 rcases h with (h|⟨o,h⟩)|h
 ·exact .inl (.inl (e _ _ h))
 ·exact .inl (.inr ⟨o,e _ _ h⟩)
 ·exact .inr h
end L2
namespace Yd
open PySem
theorem Fe(a b:Nat):ç (a:Int) (b:Int)=((a&&& b:Nat):Int):=by
 unfold ç
 simp
theorem dB(x:Int):Ľ x= -x - 1:=by
 unfold Ľ
 rfl
theorem FP(a b:Nat):Ť (a:Int) (b:Int)=((a|||b:Nat):Int):=by
 unfold Ť
 have c:Ľ (a:Int)= -(a:Int) - 1:=dB _
 have d:Ľ (b:Int)= -(b:Int) - 1:=dB _
 unfold ç
 rw[c,d]
 have e:decide (0<= -(a:Int) - 1)=Ε:=Η (by omega)
 have f:decide (0<= -(b:Int) - 1)=Ε:=Η (by omega)
 rw[e,f]
 simp only[]
 have g:Ľ (-(a:Int) - 1)=a:=by rw[dB];omega
 have h:Ľ (-(b:Int) - 1)=b:=by rw[dB];omega
 rw[g,h]
 simp only[Υ]
 rw[dB,dB]
 omega
noncomputable def Ey:List Nat->Nat->Nat
 |[],s=>s
 |n:: r,s=>Ey r (s|||2^n)
theorem EJ(k:Nat):∀(l:List Nat)(s:Nat),(Ey l s).testBit k=(s.testBit k||decide (k∈l))
 |[],s=>by simp[Ey]
 | n:: r,s=>by
  unfold Ey
  rw[EJ k r]
  rw[A4,nF]
  by_cases h:n=k
  ·subst h;simp
  ·have:¬k=n:=λz=>h z.symm
   simp[h,this]
theorem JW(l r:List Nat)(s:Nat):Ey (l++r) s=Ey r (Ey l s):=by
 induction l generalizing s with
 |nil=>rfl
 |cons n t a=>exact a _
noncomputable def lR(l:List Nat):Nat->Nat
 |0=>0
 |n+1=>if n∈l then lR l n+2^n else lR l n
theorem HD(l:List Nat):∀n,lR l n<2^n
 |0=>by simp[lR]
 | n+1=>by
  have:=HD l n
  unfold lR
  rw[Nat.pow_succ]
  split<;>omega
theorem qq(l:List Nat)(k:Nat):∀n,(lR l n).testBit k=decide (k<n/\k∈l)
 |0=>by simp[lR]
 | n+1=>by
  have b:=qq l k n
  have c:=HD l n
  unfold lR
  by_cases a:n∈l
  ·rw[Ι a,Nat.add_comm]
   rcases Nat.lt_trichotomy k n with h|h|h
   ·rw[Nat.testBit_two_pow_add_gt h,b]
    simp[h,ĥ h]
   ·subst h
    rw[Nat.testBit_two_pow_add_eq,ň c]
    simp[a]
   ·have d:2^n+lR l n<2^k:=by
     have:2^(n+1)<=2^k:=Ŝ (by decide) h
     rw[Nat.pow_succ]at this
     omega
    rw[ň d]
    have:¬k<n+1:=A6 ‹_›
    simp[this]
  ·rw[Θ a,b]
   by_cases h:k=n
   ·subst h;simp[a]
   ·have:k<n↔k<n+1:=by omega
    simp[this]
theorem Lh(h:∀k∈l,k<n):lR l n=Ey l 0:=by
 apply Qg
 intro k
 rw[qq,EJ]
 by_cases a:k∈l
 ·simp[a,h k a]
 ·simp[a]
noncomputable def GX(m b:Nat):List Nat:=(ϋ b).filter λk=>m.testBit k
theorem EV(h:m<2^b):k∈GX m b↔m.testBit k=Δ:=by
 unfold GX
 rw[ϩ,È]
 constructor
 ·exact λz=>z.2
 ·intro z
  refine⟨?_,z⟩
  by_cases a:k<b
  ·exact a
  ·have:m<2^k:=ϛ h (Ŝ (by decide) (æ ‹_›))
   rw[ň this]at z
   cases z
theorem Hn(m b:Nat):(GX m b).Pairwise (· < ·):=þ _ NB
theorem Li(h:m<2^b):Ey (GX m b) 0=m:=by
 apply Qg
 intro k
 rw[EJ,IS,Ű]
 by_cases a:m.testBit k=Δ
 ·rw[a];exact Ζ ((EV h).mpr a)
 ·have:m.testBit k=Ε:=by simpa using a
  rw[this]
  exact Η λz=>a ((EV h).mp z)
theorem Il:∀{l r:List Int},l.Pairwise (· < ·)->r.Pairwise (· < ·)->(∀k,k∈l↔k∈r)->l=r
 |[],[],_,_,_=>rfl
 | [],y:: r,_,_,h=>by
  have:=(h y).mpr ώ
  cases this
 | x:: l,[],_,_,h=>by
  have:=(h x).mp ώ
  cases this
 | x:: l,y:: r,hl,hr,h=>by
  obtain⟨b,d⟩:=Qn.mp hl
  obtain⟨c,f⟩:=Qn.mp hr
  have e:x=y:=by
   rcases ϥ.mp ((h x).mp ώ) with z|z
   ·exact z
   ·rcases ϥ.mp ((h y).mpr ώ) with a|a
    ·exact a.symm
    ·have:=b y a
     have:=c x z
     omega
  subst e
  congr 1
  refine Il d f λk=>?_
  constructor
  ·intro z
   rcases ϥ.mp ((h k).mp (ϟ _ z)) with q|q
   ·have:=b k z;omega
   ·exact q
  ·intro z
   rcases ϥ.mp ((h k).mpr (ϟ _ z)) with q|q
   ·have:=c k z;omega
   ·exact q
theorem FI(m:Nat):m<2^(Ó (m:Int)):=by
 unfold Ó
 by_cases h:m=0
 ·subst h;simp
 ·have e:((m:Int) == 0)=Ε:=by simp[h]
  rw[e]
  simp only[ÿ,if_false,Wu]
  exact Nat.lt_log2_self
theorem bits_le{m b:Nat}(h:m<2^b):Ó (m:Int)<=b:=by
 unfold Ó
 by_cases a:m=0
 ·subst a;simp
 ·have e:((m:Int) == 0)=Ε:=by simp[a]
  rw[e]
  simp only[ÿ,if_false,Wu]
  have:=(Nat.log2_lt a).mpr h
  exact ‹_›
theorem Jj(m k:Nat):decide (ç ((m:Int) / 2^k) 1=1)=m.testBit k:=by
 have e:((m:Int) / 2^k)=((m / 2^k:Nat):Int):=by
  rw[Int.natCast_ediv,et]
  rfl
 rw[e,show (1:Int)=((1:Nat):Int) from Λ,Fe,xc]
 rw[VT]
 congr 1
 exact propext ⟨λz=>by exact_mod_cast z,λz=>by exact_mod_cast z⟩
end Yd
namespace L2
open PySem PySem.Spec PyProof.Rows
noncomputable def c8(cells:List (Str×Ν)):List (Str×Ń)->List (Str×Ν)->List (Str×Ν)
 |[],acc=>acc
 |(n,k):: r,acc=>if k == .free then c8 cells r ((n,(cells.lookup n).getD 0):: acc) else c8 cells r acc
theorem iq(h:∀y∈scope.names,y.2=.free->∃c,env.cells.lookup y.1=Α c):
  za4 scope env=pure (c8 env.cells scope.names []):=by
 unfold za4
 have j:∀(b:List (Str×Ń))(acc:List (Str×Ν)),(∀y∈b,y.2=.free->∃c,env.cells.lookup y.1=Α c)->
   (forIn b acc λ(x:Str×Ń)(p:List (Str×Ν))=>(match x with
    | (name,kind)=>if (kind == ė)=Δ then do
      let c ← cellOf env name
      pure (ů ((name,c):: p))
     else pure (ů p):Sem (ForInStep (List (Str×Ν)))))=(pure (c8 env.cells b acc):Sem (List (Str×Ν))):=by
  intro b
  induction b with
  |nil=>intro acc _;rfl
  | cons y r q =>
   intro acc l
   obtain⟨n,k⟩:=y
   rw[List.forIn_cons]
   by_cases g:(k == ė)=Δ
   ·obtain⟨c,i⟩:=l (n,k) ώ (by simpa using g)
    have s:cellOf env n=pure c:=by
     unfold cellOf
     simp only[]at i
     rw[i]
    simp only[g,if_true,s,pure_bind]
    rw[q _ λz o=>l z (ϟ _ o)]
    unfold c8
    simp only[]at i
    rw[Ι g,i]
    conv=>rhs;unfold c8
    rfl
   ·simp only[g,ÿ,if_false,pure_bind]
    rw[q _ λz o=>l z (ϟ _ o)]
    conv=>rhs;unfold c8
    rw[Θ g]
 exact(congrArg (λ(m:Sem (List (Str×Ν)))=>m >>=λz=>pure z) (j scope.names [] h)).trans (pure_bind _ _)
theorem eC:∀(a:List (Str×Ń))(acc:List (Str×Ν)),(∀y∈a,y.2=.free->∃c,cells.lookup y.1=Α c)->
  (∀c,acc.lookup x=Α c->cells.lookup x=Α c)->(c8 cells a acc).lookup x=Α c->cells.lookup x=Α c
 |[],acc,_,ha,e=>ha c e
 | (n,k):: r,acc,hn,ha,e=>by
  unfold c8 at e
  have f:=λz g=>hn z (ϟ _ g)
  split at e
  ·rename_i hk
   refine eC r _ f (λh b=>?_) e
   rw[é]at b
   split at b
   ·rename_i hx
    have i:x=n:=by simpa using hx
    subst i
    obtain⟨j,d⟩:=hn (x,k) ώ (by simpa using hk)
    simp only[]at d
    rw[d]at b⊢
    exact b
   ·exact ha h b
  ·exact eC r acc f ha e
theorem fP:∀(a:List (Str×Ń))(acc:List (Str×Ν)),((x,ė)∈a∨∃c,acc.lookup x=Α c)->
  ∃c,(c8 cells a acc).lookup x=Α c
 | [],acc,h=>by
  rcases h with h|h
  ·cases h
  ·exact h
 | (n,k):: r,acc,h=>by
  unfold c8
  split
  ·rename_i hk
   refine fP r _ ?_
   rcases h with h|⟨c,h⟩
   ·rcases ϥ.mp h with h|h
    ·refine .inr ⟨(cells.lookup n).getD 0,?_⟩
     injection h with b d
     rw[é,b]
     simp
    ·exact .inl h
   ·refine .inr ?_
    rw[é]
    split
    ·exact⟨_,Λ⟩
    ·exact⟨c,h⟩
  ·rename_i hk
   refine fP r _ ?_
   rcases h with h|h
   ·rcases ϥ.mp h with h|h
    ·injection h with b d
     subst d
     exact Κ Λ hk
    ·exact .inl h
   ·exact .inr h
theorem iS{b:Env}{x:Str}:∀{a:List (Str×Ń)},a.lookup x=Α .free->
  (a.map λ(n,k)=>if (k == ė&& b.scope.kind == .function&& b.kindOf n == Α .cell) then (n,F4) else (n,k)).lookup x=Α .cell∨
  (a.map λ(n,k)=>if (k == ė&& b.scope.kind == .function&& b.kindOf n == Α .cell) then (n,F4) else (n,k)).lookup x=Α .free
 |[],h=>by simp at h
 | (n,k):: r,h=>by
  have d:=@iS b x r
  rw[Ϭ]
  cases c:x == n with
  | true =>
   rw[é,c]at h
   cases h
   simp only[]
   split
   ·left;rw[é,c]
   ·right;rw[é,c]
  | false =>
   rw[é,c]at h
   simp only[]
   split
   ·rw[é,c];exact d h
   ·rw[é,c];exact d h
theorem fY{b:Env}{x:Str}{k:Ń}(d:k=.cell∨k=.free):∀{a:List (Str×Ń)},(∀y∈a,y.2≠.cell)->
  (a.map λ(n,k)=>if (k == ė&& b.scope.kind == .function&& b.kindOf n == Α .cell) then (n,F4) else (n,k)).lookup x=Α k->(x,ė)∈a
 |[],_,h=>by simp at h
 | (n,k'):: r,hc,h=>by
  have f:=@fY b x k d r λy i=>hc y (ϟ _ i)
  rw[Ϭ]at h
  simp only[]at h
  cases c:x == n with
  | true =>
   have e:x=n:=by simpa using c
   subst e
   split at h
   ·rename_i q
    have j:k'=.free:=by
     have:=(É _ _▸q:_/\_).1
     have:=(É _ _▸this:_/\_).1
     simpa using this
    rw[j]
    exact ώ
   ·rw[é,c]at h
    have g:=Ϝ h
    rcases d with z|z
    ·exact Κ (g.trans z) (hc (x,k') ώ)
    ·rw[g,z];exact ώ
  | false =>
   split at h
   ·rw[é,c]at h;exact ϟ _ (f h)
   ·rw[é,c]at h;exact ϟ _ (f h)
section
variable {prog:Program}{w:Î}{A:Ø}{R:Result->Ψ->Prop}{s:Ψ}
abbrev nI(ifs:List Expr)(env:Env):Sem Bool:=
 forIn ifs Δ λc r=>if r=Δ then do let ok ← isTrue c env (eval c env);pure (ů ok) else pure (ů r)
theorem qy(I:Nat->Ψ->Prop)
  (a:∀n s,I n s->ϣ (Ϣ prog w) A (pyNext it) (λr b=>match r with
   |none=>R (.ok .next) b
   | some v=>ϣ (Ϣ prog w) A (ţ tg it v) (λ_ d=>ϣ (Ϣ prog w) A (assign tg env v) (λ_ f =>
     ϣ (Ϣ prog w) A (nI ifs env) (λok c =>
      if ok=Δ then ϣ (Ϣ prog w) A (eval elt env) (λx g =>
       ϣ (Ϣ prog w) A (call (.builtin "list.append") [acc,x]) (λ_ i=>∃m,m<n/\I m i) (λ_ _=>False) g) (λ_ _=>False) c
      else ∃m,m<n/\I m c) (λ_ _=>False) f) (λ_ _=>False) d) (λ_ _=>False) b) (λ_ _=>False) s)
  (n:Nat) (h:I n s):ū (Ϣ prog w) A (.compLoop (.ListComp elt [⟨tg,iter,ifs,0⟩] scope pos) 0 it acc env) R s:=by
 refine codeAny_loop Λ I (λn s o=>?_) n h
 have no:∀{p:Τ->Ψ->Prop}(e:Τ)(q:Ψ),False->p e q:=λ_ _ z=>z.elim
 show ϣ _ A (Sem.onRaise (compTurn (.ListComp elt [⟨tg,iter,ifs,0⟩] scope pos) 0 it acc env) λx=>do
  noteFrame x env
  theTreesLotGoes x) _ _ s
 refine wpAny_noted ?_
 rw[compTurn_list]
 refine Ξ (Ī (Ξ (Ò (a n s o) (λr b j=>?_) no)))
 cases r with
 |none=>exact Ϡ j
 | some v =>
  refine Ξ (Ò j (λ_ d t=>?_) no)
  refine Ξ (Ò t (λ_ f u=>?_) no)
  refine Ξ (Ò u (λok c l=>?_) no)
  cases ok with
  |false=>exact Ϡ ⟨Λ,l⟩
  | true =>
   refine Ξ (Ξ (Ò l (λx g y=>?_) no))
   exact Ξ (Ò y (λ_ i B=>Ϡ (Ϡ ⟨Λ,B⟩)) no)
end
def PZ(X:Cx)(ifs:List Expr)(t:TT):Prop:=
 ∀(ν:List (Ν×Obj))(s:Ψ)(σ:St)(H:Hp)(Q:Bool->Hp->Prop),ς X ν σ H s->t σ H Q->ϣ (Ϣ X.prog X.w) X.A (nI ifs X.env) (TP X ν σ Q) X.xe s
def rf:TT:=λ_ H Q=>Q Δ H
theorem c4:PZ X [] rf:=λ_ _ _ H _ I h=>Ϡ ⟨H,I,h⟩
theorem bY(h:PT X c t):PZ X [c] t:=λa s d H Q I e=>by
 simp only[nI,List.forIn_cons,List.forIn_nil,if_true]
 exact Ξ (Ξ (b8 (h a s d H Q I e) λb g f=>Ϡ (Ϡ f)))
structure ES(N:List Str)(sc scope:Scope)(capN:List Str)(cap:List Nat):Prop where
 kind:scope.kind=.function
 FQ:∀y∈scope.names,y.2≠.cell
 loc:∀y∈scope.names,y.2=.local->scope.names.lookup y.1=Α .local
 free:∀y∈scope.names,y.2=.free->sc.names.lookup y.1=Α .cell∨sc.names.lookup y.1=Α .free
 len:cap.length=capN.length
 cap:∀p∈capN.zip cap,scope.names.lookup p.1=Α .free/\N[p.2]?=Α p.1
abbrev c3(X:Cx)(scope:Scope)(N:List Str)(C:Ν)(s:Ψ)(H:Hp)(fp:List Ν):Cx:=
 {X with N:=N,s₀:=s,H₀:=H,env:=compEnvC scope (c8 X.env.cells scope.names []) C X.env,outer:=X.stack,stack:=X.stack,ex:=fp,fn:=λ_=>Ε,pn:=[],xe:=λ_ _=>False}
noncomputable def j7(n:Nat)(cap:List Nat)(σ:St):St:=Ϛ n Β++cap.map λj=>(σ[j]?).join
theorem qF(n:Nat)(cap:List Nat)(a:St):(j7 n cap a).length=n+cap.length:=by simp[j7]
section
variable {X:Cx}{ν:List (Ν×Obj)}{σ:St}{H:Hp}{s:Ψ}{scope:Scope}{own capN:List Str}{cap:List Nat}{fp:List Ν}
theorem ES.clos(B:ES X.N X.env.scope scope capN cap)(ok:X.Ok):∀y∈scope.names,y.2=.free->∃c,X.env.cells.lookup y.1=Α c:=λy a b=>ok.has y.1 (B.free y a b)
theorem ES.cell(B:ES X.N X.env.scope scope capN cap)(ok:X.Ok)(h:(c8 X.env.cells scope.names []).lookup x=Α c):X.env.cells.lookup x=Α c:=
 eC scope.names [] (B.clos ok) (λ_ e=>by cases e) h
theorem ES.locs(I:ς X ν σ H s)(B:ES X.N X.env.scope scope capN cap)(k:∀x c v,X.env.cells.lookup x=Α c->s.heap.IsCell c v->h'.IsCell c v)(C:Ν)(t:Str->Option Τ):
  ∀(i:Nat)(x:Str)(v:V),(own++capN)[i]?=Α x->(j7 own.length cap σ)[i]?=Α (Α v)->∃u,RelV v u/\Look (compEnvC scope (c8 X.env.cells scope.names []) C X.env) h' t x u:=by
 intro i x v w a
 have n:own.length<=i:=by
  by_cases q:own.length<=i
  ·exact q
  ·unfold j7 at a
   rw[Ϫ (by simp;exact E1 ‹_›),ľ,Ι (E1 ‹_›)]at a
   cases a
 have g:capN[i - own.length]?=Α x:=by
  rwa [Ĭ n]at w
 unfold j7 at a
 rw[Ĭ (by simpa using n),õ,Å]at a
 cases h:cap[i - own.length]? with
 |none=>rw[h]at a;cases a
 | some j =>
  rw[h]at a
  have e:(σ[j]?).join=Α v:=Ϝ a
  have l:σ[j]?=Α (Α v):=by
   cases q:σ[j]? with
   |none=>rw[q]at e;cases e
   |some u=>rw[q]at e;exact congrArg Α e
  have y:(x,j)∈capN.zip cap:=by
   refine List.mem_iff_getElem?.mpr ⟨i - own.length,?_⟩
   rw[Lu]
   exact⟨g,h⟩
  obtain⟨o,A⟩:=B.cap (x,j) y
  have b:=PySem.mem_of_lookup o
  have p:=B.free _ b Λ
  obtain⟨m,G,D⟩:=I.loc
  obtain⟨u,E,lk⟩:=D j x v A l (p.elim (λz =>.inr (.inl z)) λz =>.inr (.inr z))
  refine⟨u,E,.inr ⟨iS o,?_⟩⟩
  rcases lk with ⟨q,_⟩|⟨_,c,r,F⟩
  ·have f:X.env.scope.names.lookup x=Α .local:=q
   rcases p with z|z
   ·rw[z]at f;cases f
   ·rw[z]at f;cases f
  ·obtain⟨J,d⟩:=fP (cells:=X.env.cells) (x:=x) scope.names [] (.inl b)
   have:=B.cell I.ok d
   rw[r]at this
   cases this
   exact⟨c,d,k x c _ r F⟩
theorem ς.blk{C:Ν}(I:ς X ν σ H s)(B:ES X.N X.env.scope scope capN cap)(f:s.heap.objs.size<=C)(k:∀b o,s.heap.get? b=Α o->h4.get? b=Α o)
  (l:h4.Ns C m0) (g:∀b∈fp,ik X ν H b) (m:∀b∈fp,b<s.heap.objs.size):
  ς (c3 X scope (own++capN) C s H fp) [] (j7 own.length cap σ) H {s with heap:=h4,toks:=tk}:=by
 have n:∀b∈fp,b∉ki X.stack:=λb a z=>by
  obtain⟨_,r,t,_⟩:=g b a
  rcases ϥ.mp (I.Fq b z) with e|e
  ·exact r e
  ·exact t e
 have d:∀x,((relabel scope X.env).names.lookup x=Α .cell∨(relabel scope X.env).names.lookup x=Α .free)->(x,ė)∈scope.names:=λx h=>by
  rcases h with q|q
  ·exact fY (.inl Λ) B.FQ q
  ·exact fY (.inr Λ) B.FQ q
 refine⟨⟨I.ok.mod,B.kind,I.ok.glob,I.ok.blt,f,λx y c u w=>I.ok.inj x y c (B.cell I.ok u) (B.cell I.ok w),λx h=>fP scope.names [] (.inl (d x h)),λ_ _ z=>Κ z ϝ,I.ok.hd,I.ok.frames,.inl Λ,
  λb a=>⟨Ã (ϛ (m b a) f),λx c e=>(g b a).2.2.2.2.1 x c (B.cell I.ok e)⟩,I.bs,À I.ok.Jh I.sz,λb o e a=>?_,λb a=>n b a,I.stack,I.G8⟩,
  rfl,I.bare,Un.kept k,⟨m0,l,λi x v A D _=>B.locs I (λ_ _ _ _ q=>q.keeps k) C m0 i x v A D⟩,λx c e=>?_,I.DY.fresh f,λx c e=>I.Ew x c (B.cell I.ok e),λp E=>Κ (E) (by simp),I.DY.kept k,?_⟩
 ·rcases (g b a).2.2.2.1 with z|z
  ·exact I.ok.Ia b o e z
  ·exact Κ (ϛ (lt_size e) (À I.ok.Jh z)) (Ĺ _)
 ·obtain⟨v,q⟩:=I.cell x c (B.cell I.ok e)
  exact⟨v,q.keeps k⟩
 ·show(j7 own.length cap σ).length=(own++capN).length
  rw[qF,ϗ,B.len]
theorem ς.reset{a:St}(I:ς X ν σ H s)(B:ES X.N X.env.scope scope capN cap)(f:∀b∈fp,ik X ν H b)(J:ς (c3 X scope (own++capN) C s H fp) pins' a H' s'):
  ς (c3 X scope (own++capN) C s H fp) pins' (j7 own.length cap σ) H' s':=by
 obtain⟨m,g,_⟩:=J.loc
 refine⟨J.ok,J.os,J.bare,J.μ,⟨m,g,λi x v h j _=>?_⟩,J.cell,J.free,J.Ew,J.pin,J.DY,?_⟩
 ·refine B.locs I (λy c r d l=>?_) C m i x v h j
  obtain⟨o,n,p⟩:=l
  have q:=λz=>(f c z).2.2.2.2.1 y c d Λ
  obtain⟨t,e⟩:=J.μ.any n (I.Ew y c d) q
  exact⟨_,e,p⟩
 ·show(j7 own.length cap σ).length=(own++capN).length
  rw[qF,ϗ,B.len]
theorem ς.adopt(I:ς X ν σ H s)(g:H D=Β)(h:X.s₀.heap.objs.size<=D)(i:D≠X.env.locals)(j:∀x c,X.env.cells.lookup x=Α c->c≠D)(l:∀p∈X.pn++ν,p.1≠D)
  (new:Ek X.prog X.w (ο H D o) s.heap D o):ς X ν σ (ο H D o) s:=by
 have ne:∀b u,H b=Α u->b≠D:=λb u e=>ah e g
 refine⟨I.ok,I.os,I.bare,⟨I.μ.keep,I.μ.slot,λb a e n m=>?_,I.μ.there,λb xs e=>?_,λb a u e=>?_,λb t e=>?_⟩,I.loc,I.cell,?_,λx c e=>?_,λp d=>?_,λb u e=>?_,I.len⟩
 ·rw[ag (Ã (ϛ (lt_size e) h))]
  exact I.μ.free b a e n m
 ·have q:=I.μ.FN b xs e
  rw[ag (ne b _ q)];exact q
 ·have q:=I.μ.FE b a u e
  rw[ag (ne b _ q)];exact q
 ·obtain⟨more,q⟩:=I.μ.FF b t e
  exact⟨_,by rw[ag (ne b _ q)];exact q⟩
 ·rw[ag (Ϟ i)];exact I.free
 ·rw[ag (j x c e)];exact I.Ew x c e
 ·obtain⟨e,n,r⟩:=I.pin p d
  exact⟨e,by rw[ag (l p d)];exact n,r⟩
 ·by_cases f:b=D
  ·subst f;rw[ac]at e;cases e;exact new
  ·rw[ag f]at e
   exact(I.DY b u e).EM (λ_ _ _ q=>q) (λc q=>by rw[ag (ne c _ q)];exact q) λc xs q=>by rw[ag (ne c _ q)];exact q
end
def dM(J:It)(g:TG)(tt:TT)(te:TE)(σ0:St)(Q:VK)(H1:Hp):Prop:=∃W:Nat->Nat->List V->Hp->Prop,(∃m,W 0 m [] H1)/\∀i m acc H,W i m acc H->
 acc.length<ό/\((J.stop i H/\∀D,H D=Β->Q (.ref D) (ο H D (.π acc)))∨(J.go i H/\∃N:List V->Hp->Prop,(∀ED H',N ED H'->∃m',m'< m/\W (i+1) m' ED H')/\
  ∀x H',J.K5 i H x H'->g x σ0 H' λσ2 H2=>tt σ2 H2 λb H3=>if b=Δ then te σ2 H3 λy H4=>N (acc++[y]) H4 else N acc H3))
def AW(wi:TI)(g:TG)(tt:TT)(te:TE)(n:Nat)(cap:List Nat):TE:=λσ H Q=>wi σ H λJ H1=>dM J g tt te (j7 n cap σ) Q H1
section
variable {X:Cx}{tg iter elt:Expr}{ifs:List Expr}{scope:Scope}{pos:Pos}{wi:TI}{g:TG}{tt:TT}{te:TE}{own capN:List Str}{cap:List Nat}
abbrev oA(DW:List Τ)(k:Nat):Obj:={cls:=.type "list",data:=.seq DW.toArray k}
theorem qw{O:St}{Q:VK}(B:ES X.N X.env.scope scope capN cap)(hc:X.calm=Δ)
  (d:∀(C:Ν)(s:Ψ)(H:Hp)(a:List Ν),PG (c3 X scope (own++capN) C s H a) tg g/\PZ (c3 X scope (own++capN) C s H a) ifs tt/\PE (c3 X scope (own++capN) C s H a) elt te)
  (I:ς X ν O H s) (T:qP X.prog X.w X.K tg J a it tn) (st:tn 0 s.heap) (P:∀b∈a,ik X ν H b) {W:Nat->Nat->List V->Hp->Prop} (w0:W 0 m0 [] H)
  (turn:∀i m acc H,W i m acc H->acc.length<ό/\((J.stop i H/\∀D,H D=Β->Q (.ref D) (ο H D (.π acc)))∨(J.go i H/\∃N:List V->Hp->Prop,(∀ED f,N ED f->∃Z,Z<m/\W (i+1) Z ED f)/\
   ∀x f,J.K5 i H x f->g x (j7 own.length cap O) f λσ2 j=>tt σ2 j λb H3=>if b=Δ then te σ2 H3 λy H4=>N (acc++[y]) H4 else N acc H3)))
  {RR:Τ->Ν->Result->Ψ->Prop}
  (fin:∀(D C:Ν)(f:Hp)(s':Ψ),Q (.ref D) f->ς X ν O f s'->(∃m,s'.heap.Ns C m)->f C=Β->C≠X.env.locals->X.s₀.heap.objs.size<=C->(∀x c,X.env.cells.lookup x=Α c->c≠C)->(∀p∈X.pn++ν,p.1≠C)->
   RR (.ref D) C (.ok .next) s'):
  ϣ (Ϣ X.prog X.w) X.A (newList []) (λacc s3=>ϣ (Ϣ X.prog X.w) X.A (newFunctionEnv scope X.env.globals (c8 X.env.cells scope.names []) [] X.env.qual Β .none (Α X.env)) (λQa s4 =>
   ū (Ϣ X.prog X.w) X.A (.compStart (.ListComp elt [⟨tg,iter,ifs,0⟩] scope pos) 0 (.ref it) acc {Qa with scope:=relabel scope X.env}) (RR acc Qa.locals) s4) X.xe s3) X.xe s:=by
 refine Ő (WM B.FQ (by intro y hy;simp at hy) (λh1 O6 JY=>?_) B.kind)
 dsimp only at O6 JY⊢
 generalize JI:s.heap.push {cls:=.type "list",dict:=Β,data:=.seq ([]:List Τ).toArray}=j at O6 JY⊢
 have hCs:j.objs.size=s.heap.objs.size+1:=by rw[←JI,size_push]
 have R:s.heap.objs.size<=j.objs.size:=by omega
 have Lj:∀b∈a,b<s.heap.objs.size:=λb d=>by
  obtain⟨o,e,_⟩:=T.obj 0 s.heap st b d
  exact lt_size e
 have S:=λb o e =>
  JY.extBut b o (Ã (ϛ (lt_size e) R)) (Ο _ (JI▸Ο _ e))
 have TM:s.heap.objs.size≠j.objs.size:=by omega
 have GY:=JY.extBut _ _ TM (Ο _ (JI▸ϡ _ Λ))
 have I4:ς (c3 X scope (own++capN) j.objs.size s H a) [] (j7 own.length cap O) H {s with heap:=h1,toks:=s.toks+([]:List (Str×Τ)).length}:=I.blk (own:=own) B R S O6 P Lj
 have Wj:∀b∈a,b∉ki X.stack:=λb d z=>by
  obtain⟨_,f1,f2,_⟩:=P b d
  rcases ϥ.mp (I.Fq b z) with e|e
  ·exact f1 e
  ·exact f2 e
 have Lk:∀b∈ki X.stack,b<s.heap.objs.size:=λb d=>by
  obtain⟨_,o,ho,_⟩:=I.stack.mem d
  exact lt_size ho
 have IT:∀x c,X.env.cells.lookup x=Α c->c<s.heap.objs.size:=λx c e=>by
  obtain⟨v,q⟩:=I.cell x c e
  exact q.lt
 have LW:∀(f:Hp)(h':Ü)(h:List Τ)(k:Nat),f s.heap.objs.size=Β->h'.get? s.heap.objs.size=Α (oA h k)->
   ∀p∈[(s.heap.objs.size,oA h k)],h'.get? p.1=Α p.2/\f p.1=Β/\p.1≠(c3 X scope (own++capN) j.objs.size s H a).env.locals/\p.1∉(c3 X scope (own++capN) j.objs.size s H a).fs/\∀v,p.2.data≠.cell v:=λf h' h k hn he p l=>by
  have e:p=(s.heap.objs.size,oA h k):=by simpa using l
  subst e
  exact⟨he,hn,TM,λz=>Κ (Lk _ z) (Ĺ _),λv z=>by cases z⟩
 have F:∀(f:Hp)(h:List Τ)(k:Nat),(∀b∈a,f b=Β)->∀b∈a,ik (c3 X scope (own++capN) j.objs.size s H a) [(s.heap.objs.size,oA h k)] f b:=λf h k hn b d =>
  ⟨hn b d,Ã (ϛ (Lj b d) R),Wj b d,.inl d,λx c e=>(P b d).2.2.2.2.1 x c (B.cell I.ok e),λp l=>by
   have e:p=(s.heap.objs.size,oA h k):=by simpa using l
   subst e
   exact Ĩ (Lj b d)⟩
 have M:∀s3:Ψ,s3={s with heap:=h1,toks:=s.toks+([]:List (Str×Τ)).length}->
   ū (Ϣ X.prog X.w) X.A (.compLoop (.ListComp elt [⟨tg,iter,ifs,0⟩] scope pos) 0 (.ref it) (.ref s.heap.objs.size) (compEnvC scope (c8 X.env.cells scope.names []) j.objs.size X.env))
    (RR (.ref s.heap.objs.size) j.objs.size) s3:=by
  rintro s3 rfl
  refine qy (λn s'=>∃i acc h k f,ς (c3 X scope (own++capN) j.objs.size s H a) [(s.heap.objs.size,oA h k)] (j7 own.length cap O) f s'/\tn i s'.heap/\(∀b∈a,f b=Β)/\τ acc h/\W i n acc f) ?_ m0
   ⟨0,[],[],0,H,I4.E6 (LW _ _ _ _ (I.DY.fresh (Ρ _)) GY),T.keep 0 s.heap h1 st λb _ o e=>S b o e,λb d=>(P b d).1,.nil,w0⟩
  rintro n s5 ⟨i,acc,h,k,U,I5,O3,T8,rv,w5⟩
  obtain⟨hsz,Qb⟩:=turn i n acc U w5
  obtain⟨hgt,K7,hte⟩:=d j.objs.size s H a
  rcases Qb with ⟨stop,q⟩|⟨go,N,hN,step⟩
  ·refine b8 (T.done (c3 X scope (own++capN) j.objs.size s H a) Λ Λ Λ hc i _ s5 _ U _ I5 (F U h k T8) O3 stop) λr s6 G=>?_
   obtain⟨hr,Y⟩:=G
   subst hr
   obtain⟨hD,Qc,_⟩:=Y.pin (s.heap.objs.size,oA h k) (by simp)
   have J1:=I.LV (s':=s6) (ch:=a) Y.os Y.μ Y.DY Y.bare λb d=>by
    obtain⟨_,f1,_,f3,f4,f5⟩:=P b d
    exact⟨f3,f1,f4,f5⟩
   have J2:ς X ν O (ο U s.heap.objs.size (.π acc)) s6:=J1.adopt Qc I.sz (Ĩ I.lt) (λx c e=>Ã (IT x c e)) (λp l=>Ã (lt_size (I.pin p l).1)) ⟨ê hsz,h,k,rv,hD⟩
   obtain⟨mC,Qd,_⟩:=Y.loc
   refine fin _ _ _ s6 (q _ Qc) J2 ⟨mC,Qd⟩ (by rw[ag (Ϟ TM)];exact Y.free) (Ĩ (ϛ I.lt R)) (À I.sz R) (λx c e=>Ã (ϛ (IT x c e) R)) λp l =>
    Ã (ϛ (lt_size (I.pin p l).1) R)
  ·refine b8 (T.item (c3 X scope (own++capN) j.objs.size s H a) Λ Λ Λ hc i _ s5 _ U _ I5 (F U h k T8) O3 go) λr s6 G=>?_
   obtain⟨u,hr,h6⟩:=G
   subst hr
   refine b8 h6 λ_ s7 G=>?_
   obtain⟨x,H7,I7,r7,y7,Wk,fr7⟩:=G
   have I7':=I7.pinned (F H7 h k fr7) (T.obj _ _ Wk)
   refine b8 (hgt _ s7 _ H7 x u _ I7' r7 (step x H7 y7)) λ_ s8 G=>?_
   obtain⟨t,H8,I8,q8⟩:=G
   refine b8 (K7 _ s8 t H8 _ I8 q8) λb s9 G=>?_
   obtain⟨H9,I9,q9⟩:=G
   have itk:∀{f:Hp}{s':Ψ}{σ':St},ς (c3 X scope (own++capN) j.objs.size s H a) (fE a s7.heap) σ' f s'->tn (i+1) s'.heap/\∀b∈a,f b=Β:=λ{f s' σ'} K=>by
    refine⟨T.keep _ _ _ Wk λb d o e=>(K.pin (b,o) (fF d e)).1,λb d=>?_⟩
    obtain⟨o,e,_⟩:=T.obj _ _ Wk b d
    exact(K.pin (b,o) (fF d e)).2.1
   cases b with
   | false =>
    rw[Θ ϝ]
    obtain⟨Z,hm,w9⟩:=hN acc H9 (by simpa using q9)
    have K9:=I9.E6 λp l=>I9.pin p (ϫ _ (ϫ _ l))
    obtain⟨t9,f9⟩:=itk K9
    exact⟨Z,hm,_,_,h,k,_,I.reset B P I9.FG,t9,f9,rv,w9⟩
   | true =>
    rw[Ι Λ]
    have q9':te t H9 λy H4=>N (acc++[y]) H4:=by simpa using q9
    refine b8 (hte _ s9 t H9 _ I9 q9') λyv Wl G=>?_
    obtain⟨y,J7,Wm,r10,q10⟩:=G
    obtain⟨hD,Qc,_⟩:=Wm.pin (s.heap.objs.size,oA h k) (by simp)
    have hlen:=rv.length
    refine wpAny_list_append_plain ⟨k,hD⟩ (λh' FH Nf=>?_) (by rw[Ϩ];omega)
    obtain⟨k',hD'⟩:=FH
    obtain⟨Z,hm,w10⟩:=hN (acc++[y]) J7 q10
    have K10:=Wm.E6 λp l=>Wm.pin p (ϫ _ (ϫ _ l))
    have K11:=K10.turned (t':=Wl.toks) (it:=s.heap.objs.size) (λb o d e=>(Nf.2 b d).trans e) Qc TM (.inr (Ρ _))
     (λx c e=>Ã (IT x c (B.cell I.ok e))) λp l=>by
      obtain⟨d,_⟩:=mG (l)
      exact Ã (Lj p.1 d)
    obtain⟨t11,TN⟩:=itk K11
    refine⟨Z,hm,_,_,_,k',_,?_,t11,TN,rv.append (.cons r10 .nil),w10⟩
    refine I.reset B P (K11.E6 (LW _ _ _ _ Qc ?_))
    show h'.get? s.heap.objs.size=Α {cls:=.type "list",data:=.seq (h++[yv]).toArray k'}
    rw[show(h++[yv]).toArray=h.toArray.push yv by simp]
    exact hD'
 exact codeAny_compStart_list (M _ Λ) (T.self X.A 0 _ _ _ (T.keep 0 s.heap h1 st λb _ o e=>S b o e) (M _ Λ))
theorem bv(B:ES X.N X.env.scope scope capN cap)(j:X.calm=Δ)(l:PI X tg iter wi)
  (f:∀(C:Ν)(s:Ψ)(H:Hp)(d:List Ν),PG (c3 X scope (own++capN) C s H d) tg g/\PZ (c3 X scope (own++capN) C s H d) ifs tt/\PE (c3 X scope (own++capN) C s H d) elt te)
  (m:autoParam (∀x,GV iter X.env x=pure x) ψ):PE X (.ListComp elt [⟨tg,iter,ifs,0⟩] scope pos) (AW wi g tt te own.length cap):=by
 intro a s i H Q I h
 rw[eval_ListComp]
 refine PB (use:=Β) Λ m (iq (B.clos I.ok)) B.kind B.loc (b8 (l a s i H _ I h) λv U n=>b8 n λY Z p=>?_)
 obtain⟨it,d,tn,J,H2,e,r,T,t,u,W,⟨m0,y⟩,c⟩:=p
 subst e
 refine qw (own:=own) B j f r T t u y c (RR:=λacc C=>compPost (Ϣ X.prog X.w) X.A X.xe Β (EP X a i Q) acc C) λD C z E q F ⟨G,K⟩ L M O P R=>?_
 refine⟨G,K,λh' S=>⟨.ref D,z,?_,Λ,q⟩⟩
 exact F.turned (t':=E.toks) (it:=C) (λb o f e=>(S.2 b f).trans e) L M (.inr O) P R
theorem dF(B:ES X.N X.env.scope scope capN cap)(E:X.calm=Δ)(F:X.N.Nodup)(G:X.N[i]?=Α x)(r:X.env.scope.names.lookup x=Α .local)(K:PI X tg iter wi)
  (l:∀(C:Ν)(s:Ψ)(H:Hp)(j:List Ν),PG (c3 X scope (own++capN) C s H j) tg g/\PZ (c3 X scope (own++capN) C s H j) ifs tt/\PE (c3 X scope (own++capN) C s H j) elt te)
  (m:autoParam (Ř (.ListComp elt [⟨tg,iter,ifs,0⟩] scope pos) (Α (.Name x px)) Qe.line X.env=pure Δ) η)
  (L:autoParam (∀x,GV iter X.env x=pure x) ψ):PS X (.Assign [.Name x px] (.ListComp elt [⟨tg,iter,ifs,0⟩] scope pos) Qe) (BK (AW wi g tt te own.length cap) (cY i)):=by
 intro c s t H n I h
 rw[exec_Assign_Name_used _ _ _ _ m]
 refine Ξ (Ī (Ξ ?_))
 show ϣ _ X.A (do
  let _ ← comprehension (.ListComp elt [⟨tg,iter,ifs,0⟩] scope pos) scope X.env _ (newList []) Ε (eval iter X.env) (Α (assign (.Name x px) X.env))) _ _ s
 refine Ξ (Ò (PB (use:=Α (assign (.Name x px) X.env)) (Q:=λ_ d=>SP X c n .next d) Λ L (iq (B.clos I.ok)) B.kind B.loc
  (b8 (K c s t H _ I h) λv s1 M=>b8 M λT6 s2 O=>?_)) (λ_ d P=>Ϡ (Ϡ P)) λ_ _ e=>e)
 obtain⟨it,j,tn,J,H2,e,R,T,S,U,W,⟨m0,Y⟩,f⟩:=O
 subst e
 refine qw (own:=own) (Q:=λx Z=>cY i x t Z n.nx) B E l R T S U Y f (RR:=λacc C=>compPost (Ϣ X.prog X.w) X.A X.xe (Α (assign (.Name x px) X.env)) (λ_ d=>SP X c n .next d) acc C) λD C H' d q J2 ⟨mC,Qd⟩ fC u n2 y n4=>?_
 refine za8 (lY J2 F G (.inl r) (show RelV (.ref D) (.ref D) from Λ) (λIg J3 DS=>?_) (.inr r))
 obtain⟨a,JY,ha⟩:=DS
 have p:C≠a:=by
  rcases ha with z|z
  ·rw[z];exact u
  ·exact(y x a z).symm
 refine⟨_,Qd.sameBut JY p,λh' Nf=>⟨_,H',?_,q⟩⟩
 exact J3.turned (t':=Ig.toks) (it:=C) (λb o l e=>(Nf.2 b l).trans e) fC u (.inr n2) y n4
end
mutual
inductive pe(K:ϧ)(H:Hp):V->ġ->Prop
 |Eh:pe K H .Eh .none
 |bl (b:Bool):pe K H (.bl b) (.bool b)
 |int (i:Int):pe K H (.int i) (.int i)
 |str (x:Str):pe K H (.str x) (.str x)
 |π {a:Ν} {xs:List V} {ds:List ġ}:DT K H a xs->lU K H xs ds->pe K H (.ref a) (.list ds)
 |tup {a:Ν} {xs:List V} {ds:List ġ}:Ec K H a xs->lU K H xs ds->pe K H (.ref a) (.tuple ds)
inductive lU(K:ϧ)(H:Hp):List V->List ġ->Prop
 |nil:lU K H [] []
 |cons {x:V} {d:ġ} {xs:List V} {ds:List ġ}:pe K H x d->lU K H xs ds->lU K H (x:: xs) (d:: ds)
end
section
variable {X:Cx}{ν:List (Ν×Obj)}{σ:St}{H:Hp}{s:Ψ}
mutual
theorem ς.den(I:ς X ν σ H s):∀{x:V}{d:ġ}{u:Τ},pe X.K H x d->RelV x u->∃as,Reads s.heap u d as
 |_,_,_,.Eh,r=>by cases r;exact⟨_,.none⟩
 |_,_,_,.bl b,r=>by cases r;exact⟨_,.bool b⟩
 |_,_,_,.int i,r=>by obtain⟨t,rfl⟩:=r;exact⟨_,.int i t⟩
 |_,_,_,.str x,r=>by obtain⟨t,rfl⟩:=r;exact⟨_,.str x t⟩
 | _,_,_,.π hq hd,r=>by
  cases r
  obtain⟨DW,rv,⟨o,n,e,hc,_,Wo⟩,_⟩:=I.list hq
  obtain⟨as,q⟩:=I.Ng hd rv
  exact⟨_,.list e hc Wo (by simpa using q)⟩
 | _,_,_,.tup hq hd,r=>by
  cases r
  obtain⟨DW,rv,⟨o,e,hc,n,Wo⟩,_⟩:=I.tuple hq
  obtain⟨as,q⟩:=I.Ng hd rv
  exact⟨_,.tuple e hc Wo (by simpa using q)⟩
theorem ς.Ng(I:ς X ν σ H s):∀{xs:List V}{ds:List ġ}{us:List Τ},lU X.K H xs ds->τ xs us->∃as,ReadsAll s.heap us ds as
 |_,_,_,.nil,.nil=>⟨_,.nil⟩
 | _,_,_,.cons hd hr,.cons r rr=>by
  obtain⟨as,q⟩:=I.den hd r
  obtain⟨bs,q'⟩:=I.Ng hr rr
  exact⟨_,.cons q q'⟩
end
inductive Wq(K:ϧ)(x:V)(y:V)(H:Hp)(Q:VK):Prop
 |mk (da db)(_:pe K H x da)(_:pe K H y db)(_:Ś da=Δ)(_:Ś db=Δ)(_:Q (.bl (Ō da db)) H)
inductive Cp(K:ϧ)(x:V)(y:V)(H:Hp)(Q:VK):Prop
 |mk (da db)(_:pe K H x da)(_:pe K H y db)(_:Ś da=Δ)(_:Ś db=Δ)(_:Q (.bl (!Ō da db)) H)
end
section
variable {X:Cx}
theorem C1(b:X.A.units+64<ŋ):eU X (compareOp .Eq) (Wq X.K):=by
 intro a s m H x y v u Q I c d h
 obtain⟨n,o,e,f,g,i,q⟩:=h
 obtain⟨as,j⟩:=I.den e c
 obtain⟨bs,l⟩:=I.den f d
 exact SeqAt.compareEq_shaped j l g i b ⟨.bl _,H,I,Λ,q⟩
theorem kZ(b:X.A.units+64<ŋ):eU X (compareOp .NotEq) (Cp X.K):=by
 intro a s m H x y v u Q I c d h
 obtain⟨n,o,e,f,g,i,q⟩:=h
 obtain⟨as,j⟩:=I.den e c
 obtain⟨bs,l⟩:=I.den f d
 exact SeqAt.compareNe_shaped j l g i b ⟨.bl _,H,I,Λ,q⟩
theorem mY{K:ϧ}:∀a:List Int,lU K H (a.map V.int) (a.map ġ.int)
 |[] =>.nil
 |n:: r =>.cons (.int n) (mY r)
theorem jb{K:ϧ}{b:List Int}(h:DT K H a (b.map V.int)):pe K H (.ref a) (.list (b.map ġ.int)):=.π h (mY b)
inductive Wr(K:ϧ)(x:V)(y:V)(H:Hp)(Q:VK):Prop
 |mk (p q:Ν)(ns ms:List Int)(_:x=.ref p)(_:y=.ref q)(_:DT K H p (ns.map V.int))(_:DT K H q (ms.map V.int))(_:Q (.bl (decide (ns=ms))) H)
inductive Qf(K:ϧ)(x:V)(y:V)(H:Hp)(Q:VK):Prop
 |mk (p q:Ν)(ns ms:List Int)(_:x=.ref p)(_:y=.ref q)(_:DT K H p (ns.map V.int))(_:DT K H q (ms.map V.int))(_:Q (.bl (!decide (ns=ms))) H)
theorem C0(b:X.A.units+64<ŋ):eU X (compareOp .Eq) (Wr X.K):=by
 intro a s c H x y v u Q I d e h
 obtain⟨p,q,f,g,rfl,rfl,i,j,q⟩:=h
 refine C1 b a s c H _ _ v u Q I d e ⟨_,_,jb i,jb j,PySem.W.shaped_ints f,PySem.W.shaped_ints g,?_⟩
 simp only[Ō,PySem.W.ked_eqvAll]
 exact q
theorem kY(b:X.A.units+64<ŋ):eU X (compareOp .NotEq) (Qf X.K):=by
 intro a s c H x y v u Q I d e h
 obtain⟨p,q,f,g,rfl,rfl,i,j,q⟩:=h
 refine kZ b a s c H _ _ v u Q I d e ⟨_,_,jb i,jb j,PySem.W.shaped_ints f,PySem.W.shaped_ints g,?_⟩
 simp only[Ō,PySem.W.ked_eqvAll]
 exact q
def Ws(K:ϧ):List V->Hp->VK->Prop:=λxs H Q =>
 (∃i,xs=[.int i,.ty "int"]/\Q (.bl Δ) H)∨(∃i,xs=[.int i,.ty "bool"]/\Q (.bl Ε) H)∨(∃p ys,xs=[.ref p,.ty "list"]/\DT K H p ys/\Q (.bl Δ) H)∨(∃p ys,xs=[.ref p,.ty "tuple"]/\Ec K H p ys/\Q (.bl Δ) H)
theorem qD:cZ X (.builtin "isinstance") (Ws X.K):=by
 intro g s u H xs us Q I r h
 rcases h with ⟨i,rfl,q⟩|⟨i,rfl,q⟩|⟨p,j,rfl,d,q⟩|⟨p,j,rfl,d,q⟩
 ·cases r with
  | cons b a =>
   cases a with
   | cons a c =>
    cases c
    obtain⟨t,rfl⟩:=b
    cases a
    exact IsiPair.int_int ⟨.bl Δ,H,I,Λ,q⟩
 ·cases r with
  | cons b a =>
   cases a with
   | cons a c =>
    cases c
    obtain⟨t,rfl⟩:=b
    cases a
    exact IsiPair.int_bool ⟨.bl Ε,H,I.tok _,Λ,q⟩
 ·cases r with
  | cons b a =>
   cases a with
   | cons a c =>
    cases c
    cases b
    cases a
    obtain⟨l,m,⟨o,n,e,f,_⟩,_⟩:=I.list d
    exact IsiPair.list_list e f ⟨.bl Δ,H,I,Λ,q⟩
 ·cases r with
  | cons b a =>
   cases a with
   | cons a c =>
    cases c
    cases b
    cases a
    obtain⟨l,m,⟨o,e,f,_⟩,_⟩:=I.tuple d
    exact IsiPair.tuple_tuple e f ⟨.bl Δ,H,I,Λ,q⟩
theorem Ak:TH X "int.bit_length" (λx xs H Q=>∃i,x=.int i/\xs=[]/\Q (.int (Ó i:Nat)) H):=by
 intro a s d H x xs v us Q I b c h
 obtain⟨i,rfl,rfl,q⟩:=h
 obtain⟨t,rfl⟩:=b
 cases c
 exact call_int_bit_length ⟨.int _,H,I.tok _,⟨_,Λ⟩,q⟩
theorem ς.same{a:St}(I:ς X ν a H s)(k:∀b o,s.heap.get? b=Α o->s'.heap.get? b=Α o)(g:s'.gens=s.gens)(c:s'.os=s.os):ς X ν a H s':=by
 obtain⟨e,h,i,f,j⟩:=s'
 simp only at k g c
 subst g
 subst c
 have J:ς X ν a H {s with heap:=e,toks:=f}:=I.kept k
 exact⟨J.ok,J.os,J.bare,J.μ,J.loc,J.cell,J.free,J.Ew,J.pin,J.DY,J.len⟩
theorem jd(E:X.calm=Δ):cZ X (.builtin "all") (λxs H Q=>∃(p:Ν)(bs:List Bool),xs=[.ref p]/\DT X.K H p (bs.map V.bl)/\Q (.bl (bs.all id)) H):=by
 intro f s F H xs us Q I r h
 obtain⟨p,bs,rfl,y,q⟩:=h
 obtain⟨u,rfl,G⟩:=lW r
 cases G
 obtain⟨d,j,l,R⟩:=I.list y
 have c:=j.length
 rw[ϊ]at c
 have J:p<s.heap.objs.size:=by obtain⟨o,n,e,_⟩:=l;exact lt_size e
 have g:∀(i:Nat)(v:Τ),d.toArray[i]?=Α v->v=PV (bs.getD i Ε):=λi v m=>by
  have z:d[i]?=Α v:=by simpa using m
  have B:i<bs.length:=by rw[c];exact(gQ0 z)
  obtain⟨u,C,L⟩:=j.get (i:=i) (x:=.bl bs[i]) (by simp[B])
  rw[z]at C
  cases C
  rw[Χ,Μ B]
  exact L
 have t:X.A.in1.handled=Β:=I.ok.hd E
 refine call_all_walkS (za7 l.isList ⟨s.heap.objs.size,[s.heap.objs.size,p],[s.heap.objs.size],λa b=>b=a,d.toArray.size,λi v=>d.toArray[i]?=Α v,_,λi=>bs.getD i Ε,Λ,
  (Walks.list t _ p (Ã J) d.toArray).toS,⟨⟨_,ϡ _ Λ,Λ,Λ⟩,l.isList.push _⟩,λi v S T U m M=>?_,λY w=>?_⟩)
 ·rw[g i v m]
  exact ì M
 ·have Z:ς X f F H {s with heap:=s.heap.push {cls:=.type "list_iterator",data:=.fields #[.ref p,.int 0 0]}}:=I.kept (t':=s.toks) λb o e=>Ο _ e
  refine⟨.bl _,H,I.same (λb o e=>w.heap b o (λN=>?_) (Ο _ e)) w.gens w.os,Λ,?_⟩
  ·have O:b=s.heap.objs.size:=by simpa using N
   exact Κ (lt_size e) (by rw[O];exact Ĺ _)
  ·have e:((ϋ d.toArray.size).all λi=>bs.getD i Ε)=bs.all id:=by
    rw[Ϩ,←c]
    clear g c y j q
    have:(ϋ bs.length).map (λi=>bs.getD i Ε)=bs:=by
     apply Ya
     ·simp
     ·intro i h1 P
      simp[P]
    conv=>rhs;rw[←this]
    rw[all_map]
    rfl
   rw[e]
   exact q
end
theorem l9(b:o.data=.fields vs)(f:Array Τ->Array Τ):(ò f o).dict=o.dict:=by
 obtain⟨c,d,a,e⟩:=o
 cases a<;>rfl
def J8(h:Ü)(e:Ν)(cls:Τ)(dd:Option Ν)(ch:List Ν):Prop:=
 ∃oe vs,h.get? e=Α oe/\oe.cls=cls/\oe.dict=dd/\oe.data=.fields vs/\
  ((vs[1]?=Α .none/\ch=[e])∨∃T oT ts,vs[1]?=Α (.ref T)/\T≠e/\h.get? T=Α oT/\oT.data=.fields ts/\ts[3]?=Α .none/\ch=[e,T])
theorem J8.rec(x:J8 h e cls dd ch):∀b∈ch,∃o c,h.get? b=Α o/\o.data=.fields c:=by
 obtain⟨d,c,f,_,_,g,i|⟨T,j,l,_,_,m,n,_,rfl⟩⟩:=x
 ·obtain⟨_,rfl⟩:=i
  intro b a
  simp only[ϙ]at a
  subst a
  exact⟨d,c,f,g⟩
 ·intro b a
  simp only[ϥ,Õ,or_false]at a
  rcases a with rfl|rfl
  ·exact⟨d,c,f,g⟩
  ·exact⟨j,l,m,n⟩
theorem J8.mem(x:J8 h e cls dd ch):e∈ch:=by
 obtain⟨a,b,c,_,_,d,⟨_,rfl⟩|⟨T,f,g,_,_,i,j,_,rfl⟩⟩:=x<;>simp
structure qQ(fs ch:List Ν)(h h':Ü):Prop where
 keep:∀b o,h.get? b=Α o->b∉ch->b∉fs->h'.get? b=Α o
 slot:∀b o,h.get? b=Α o->b∉ch->∃sl,h'.get? b=Α {o with slots:=sl}
 there:∀b o,h.get? b=Α o->∃o',h'.get? b=Α o'
section
variable {M:Model}{A:Ø}{E:Τ->Ψ->Prop}{s:Ψ}
theorem mJ 
  (I:A.frames=Α (d:: outer)) (y:s.heap.FunFrames μ (d:: outer)) (J:d.frame=Α L)
  (z:s.heap.get? e=Α oe) (m:oe.data=.fields vs) (j:1<vs.size)
  (h:∀r,J8 r e oe.cls oe.dict [e,s.heap.objs.size]->qQ (ki (d:: outer)) [e] s.heap r->Q () {s with heap:=r}):
  ϣ M A (do let a ← frameOf d;let g ← entryPlaceOf L hadNext;let b ← Lf head a .none (ą L) .none g;setField (.ref e) 1 b) (λ_ K=>ϣ M A (setFlight (.ref e) Β) Q E K) E s:=by
 have N:e∉(d:: outer).filterMap (·.frame):=λO=>by
  obtain⟨_,o,n,P⟩:=y.mem O
  rw[z]at n;injection n with n;subst n;exact P vs m
 refine Ξ (wpAny_frameOf_fun I y J λc l=>?_)
 refine Ξ (wpAny_entryPlaceOf λg C=>?_)
 unfold Lf newFields
 refine Ξ (Ő ?_ (C.sizeOk5 _ _ _ _ _))
 have D:=(l.2.1 e N).trans z
 have F:=Ο (h:=c) {cls:=.type "traceback",dict:=Β,data:=.fields ([head,.ref L,.none,ą L,.none]++(if g.isEmpty then Ϛ 6 Ú else g)).toArray} D
 refine ŏ F m j ?_
 have p:=Ĩ (lt_size D)
 have t:=ð m (·.setIfInBounds 1 (ϭ c.objs.size))
 have u:=í (ò (·.setIfInBounds 1 (ϭ c.objs.size))) F (Ģ t)
 have G:=(Û (c.push {cls:=.type "traceback",dict:=Β,data:=.fields ([head,.ref L,.none,ą L,.none]++(if g.isEmpty then Ϛ 6 Ú else g)).toArray})
  (ò (·.setIfInBounds 1 (ϭ c.objs.size))) (Ϟ p)).trans (ϡ c Λ)
 unfold setFlight
 refine Ξ (ğ u t (x:=.ref c.objs.size) (by simp[j]) ?_)
 rw[Ι (show(ϭ c.objs.size != Ú)=Δ from by simp)]
 refine ŏ G Λ (by simp only[Ϩ,ϗ,ï,za6]<;>omega) (h _ ?_ ?_)
 ·refine⟨_,_,?_,Ww _ _,l9 m _,t,.inr ⟨c.objs.size,_,_,by simp[j],p,í _ G (Ģ (ð Λ _)),ð Λ _,by first|(simp;done)|(rcases C with rfl|⟨_,_,_,_,_,_,_,rfl⟩<;>simp),by rw[l.1]⟩⟩
  rw[Û _ _ p];exact u
 ·have keep:∀b o,b≠e->c.get? b=Α o->
    (((c.push {cls:=.type "traceback",dict:=Β,data:=.fields ([head,.ref L,.none,ą L,.none]++(if g.isEmpty then Ϛ 6 Ú else g)).toArray}).update e (ò (·.setIfInBounds 1 (ϭ c.objs.size)))).update c.objs.size
     (ò (·.setIfInBounds 3 ((Β:Option Ν).elim Ú λf=>ą f)))).get? b=Α o:=λb o q i=>by
   have R:=Ĩ (lt_size i)
   rw[Û _ _ R,Û _ _ (Ϟ q)]
   exact Ο _ i
  refine⟨λb o i v S=>keep b o (by simpa using v) ((l.2.1 b S).trans i),λb o i v=>?_,λb o i=>?_⟩
  ·obtain⟨H,w⟩:=l.2.2 b o i
   exact⟨H,keep b _ (by simpa using v) w⟩
  ·by_cases q:b=e
   ·subst q
    exact⟨_,by rw[Û _ _ p];exact u⟩
   ·obtain⟨H,w⟩:=l.2.2 b o i
    exact⟨_,keep b _ q w⟩
theorem mH 
  (v:A.frames=Α (c:: outer)) (w:s.heap.FunFrames μ (c:: outer)) (l:c.frame=Α L) (x:J8 s.heap e cls dd ch)
  (h:∀d y,J8 d e cls dd y->qQ (ki (c:: outer)) ch s.heap d->(∀b∈y,b∈ch∨s.heap.objs.size<=b)->Q () {s with heap:=d}):
  ϣ M A (noteFrame (.ref e) c) (λ_ D=>ϣ M A (setFlight (.ref e) Β) Q E D) E s:=by
 obtain⟨K,z,n,rfl,rfl,p,⟨j,rfl⟩|⟨T,N,F,j,G,r,t,B,rfl⟩⟩:=x
 ·unfold noteFrame
  simp only[l]
  refine Ξ (ğ n p j ?_)
  rw[Θ (by decide)]
  refine mJ v w l n p (ĩ.mp j).1 λd f m=>h d _ f m λb a=>?_
  simp only[ϥ,Õ,or_false]at a
  rcases a with rfl|rfl
  ·exact .inl (by simp)
  ·exact .inr (Ρ _)
 ·unfold noteFrame
  simp only[l]
  refine Ξ (ğ n p j ?_)
  rw[Ι (show(ϭ T != Ú)=Δ from by simp)]
  refine Ξ (ğ r t B ?_)
  rw[Θ (by simp[ą])]
  refine Ξ (ŏ r t (ĩ.mp B).1 ?_)
  have other:∀b,b≠T->(s.heap.update T (ò (·.setIfInBounds 3 Ú))).get? b=s.heap.get? b:=λb a=>Û _ _ (Ϟ a)
  have H:=í (ò (·.setIfInBounds 3 Ú)) r (Ģ (ð t _))
  have noRecord:∀b o,s.heap.get? b=Α o->(∀z,o.data≠.fields z)->b≠T:=λb o a u q=>by
   rw[q,r]at a;injection a with a;subst a;exact u F t
  have I:(s.heap.update T (ò (·.setIfInBounds 3 Ú))).objs.size=s.heap.objs.size:=Ü.size_after_update _ _ _
  refine mJ (s:={s with heap:=s.heap.update T (ò (·.setIfInBounds 3 Ú))}) v (w.of_keeps λb o a u=>⟨o,(other b (noRecord b o a u)).trans a,Λ⟩) l ((other e (Ϟ G)).trans n) p (ĩ.mp j).1
   λd f m=>h d _ f ⟨λb o a g J=>?_,λb o a g=>?_,λb o a=>?_⟩ λb a=>?_
  ·simp only[ϥ,Õ,or_false,not_or]at g
   exact m.keep b o ((other b g.2).trans a) (by simpa using g.1) J
  ·simp only[ϥ,Õ,or_false,not_or]at g
   exact m.slot b o ((other b g.2).trans a) (by simpa using g.1)
  ·by_cases C:b=T
   ·subst C
    exact m.there b _ H
   ·exact m.there b o ((other b C).trans a)
  ·simp only[ϥ,Õ,or_false]at a
   rcases a with rfl|rfl
   ·exact .inl (by simp)
   ·exact .inr (ń I.symm)
theorem sy 
  (g:A.frames=Α (a:: outer)) (i:s.heap.FunFrames μ (a:: outer)) (j:a.frame=Α L) (x:J8 s.heap e cls dd ch)
  (h:∀c d,J8 c e cls dd d->qQ (ki (a:: outer)) ch s.heap c->(∀b∈d,b∈ch∨s.heap.objs.size<=b)->Q () {s with heap:=c}):
  ϣ M A (leaving a (.ref e)) Q E s:=by
 unfold leaving
 exact Ξ (mH g i j x h)
end
section
variable {X:Cx}{ν:List (Ν×Obj)}{σ:St}{H:Hp}{s:Ψ}
theorem ς.HE(I:ς X ν σ H s)(m:qQ (ki X.stack) ch s.heap h')
  (l:∀b∈ch,X.s₀.heap.get? b=Β/\H b=Β/\(∀p∈X.pn++ν,p.1≠b)/\∃o h,s.heap.get? b=Α o/\o.data=.fields h):
  ς X ν σ H {s with heap:=h'}:=by
 have D:∀b o,s.heap.get? b=Α o->(∀h,o.data≠.fields h)->b∉ch:=λb o K L f=>by
  obtain⟨_,_,_,E,h,F,j⟩:=l b f
  rw[K]at F;cases F
  exact L h j
 have g:∀c v,s.heap.IsCell c v->h'.IsCell c v:=λc v ⟨o,t,j⟩=>by
  obtain⟨G,e⟩:=m.slot c o t (D c o t λh q=>by rw[j]at q;cases q)
  exact⟨_,e,j⟩
 refine⟨I.ok,I.os,I.bare,⟨λb o e n A w=>?_,λb o e n A w=>?_,I.μ.free,λb o e w=>?_,I.μ.FN,I.μ.FE,I.μ.FF⟩,?_,λx c f=>?_,I.free,I.Ew,λp J=>?_,λb u e=>?_,I.len⟩
 ·have y:=I.μ.keep b o e n A w
  refine m.keep b o y (λf=>?_) λB=>?_
  ·rw[(l b f).1]at e;cases e
  ·rcases ϥ.mp (I.Fq b B) with z|z
   ·rw[z]at e
    exact Κ (lt_size e) (not_lt.mpr I.ok.above)
   ·exact A z
 ·obtain⟨G,y⟩:=I.μ.slot b o e n A w
  obtain⟨M,N⟩:=m.slot b _ y λf=>by rw[(l b f).1]at e;cases e
  exact⟨M,N⟩
 ·obtain⟨E,y⟩:=I.μ.there b o e w
  exact m.there b E y
 ·obtain⟨O,⟨o,P,Q,t,j,r⟩,R⟩:=I.loc
  obtain⟨G,e⟩:=m.slot _ o t (D _ o t λh q=>by rw[j]at q;cases q)
  refine⟨O,⟨_,P,Q,e,j,r⟩,λi x v S T U=>?_⟩
  obtain⟨u,Y,lk⟩:=R i x v S T U
  refine⟨u,Y,?_⟩
  rcases lk with ⟨a,b⟩|⟨a,c,f,Z⟩
  ·exact .inl ⟨a,b⟩
  ·exact .inr ⟨a,c,f,g c _ Z⟩
 ·obtain⟨v,hv⟩:=I.cell x c f
  exact⟨v,g c v hv⟩
 ·obtain⟨a,b,c,d,e⟩:=I.pin p J
  refine⟨m.keep _ _ a (λf=>(l _ f).2.2.1 p J Λ) λB=>?_,b,c,d,e⟩
  rcases ϥ.mp (I.Fq _ B) with z|z
  ·exact c z
  ·exact d z
 ·refine(I.DY b u e).EM (λc v f q=>m.keep c v q (λz=>?_) λz=>?_) (λ_ q=>q) λ_ _ q=>q
  ·have n:=(l c z).2.1
   rcases f with rfl|f
   ·rw[e]at n;cases n
   ·rw[f]at n;cases n
  ·have n:=I.G8 c z
   rcases f with rfl|f
   ·rw[e]at n;cases n
   ·rw[f]at n;cases n
noncomputable def AV(P:Program)(w:Î):qU:=λouter H s E ev s'=>∃e cls dd ch H',ev=.ref e/\s'.os=s.os/\c1 s'.gens/\Un (ki outer) [] H H' s.heap s'.heap/\Fx P w H' s'.heap/\
 J8 s'.heap e cls dd ch/\(∀b∈ch,s.heap.get? b=Β/\H' b=Β)/\E cls dd H'
def XP(X:Cx)(ν:List (Ν×Obj))(σ:St)(E:XK)(ev:Τ)(s':Ψ):Prop:=∃e cls dd ch H',ev=.ref e/\ς X ν σ H' s'/\J8 s'.heap e cls dd ch/\
 (∀b∈ch,X.s₀.heap.get? b=Β/\H' b=Β/\∀p∈X.pn++ν,p.1≠b)/\E cls dd H'
theorem ς.Nj(I:ς X ν σ H s)(a:X.ex=[])(c:s.heap.get? b=Β):X.s₀.heap.get? b=Β:=by
 cases q:X.s₀.heap.get? b with
 |none=>rfl
 | some o =>
  obtain⟨d,e⟩:=I.μ.there b o q (by rw[a];simp)
  rw[e]at c;cases c
theorem XP.Qi(I:ς X ν σ H s)(c:X.ex=[])(x:AV X.prog X.w X.stack H s E ev s'):XP X ν σ E ev s':=by
 obtain⟨e,d,h,ch,i,rfl,j,a,un,l,m,new,q⟩:=x
 refine⟨e,d,h,_,i,Λ,I.LV (ch:=[]) j un l a (λb z=>Κ z (by simp)),m,λb f=>⟨I.Nj c (new b f).1,(new b f).2,λp n z=>?_⟩,q⟩
 have:=(I.pin p n).1
 rw[z,(new b f).1]at this
 cases this
def Bv(X:Cx)(E:XK):Prop:=∀(ν:List (Ν×Obj))(σ:St)(ev:Τ)(s':Ψ),XP X ν σ E ev s'->X.xe ev s'
theorem uU{K:ϧ}:
  Bv (lS (AV P w) P w K mg μ N qual scope f cd A outer s H E) E:=by
 intro ν σ o p x
 obtain⟨e,g,i,r,j,rfl,I,h,c,q⟩:=x
 refine sy (μ:=μ) (outer:=outer) I.ok.frames I.stack Λ h λt l n m new=>?_
 have d:=I.HE m λb a=>⟨(c b a).1,(c b a).2.1,(c b a).2.2,h.rec b a⟩
 refine⟨e,g,i,l,j,Λ,d.os,d.bare,d.μ,d.DY,n,λb a=>?_,q⟩
 rcases new b a with z|z
 ·exact⟨(c b z).1,(c b z).2.1⟩
 ·exact⟨ŕ (À I.sz z),I.DY.fresh z⟩
end
noncomputable def eG:List Τ:=[.type "ValueError",.type "Exception",.type "BaseException",.type "object"]
noncomputable def oN:List Τ->Bool
 |[]=>Ε
 |.ref _:: r=>oN r
 |l=>l == eG
theorem kT(self:Τ):∀{l:List Τ},oN l=Δ->refuseLoop self "__setattr__" l=pure ()
 |.ref c:: r,e=>by rw[refuseLoop_ref];exact kT self e
 | .type a:: r,e=>by
  have b:=beq_iff_eq.mp e
  rw[b];exact PySem.F.store_ValueError.passes self
 |.none:: r,e=>by have:=beq_iff_eq.mp (show(_ == eG)=Δ from e);cases this
 |.bool _:: r,e=>by have:=beq_iff_eq.mp (show(_ == eG)=Δ from e);cases this
 |.int _ _:: r,e=>by have:=beq_iff_eq.mp (show(_ == eG)=Δ from e);cases this
 |.float _ _:: r,e=>by have:=beq_iff_eq.mp (show(_ == eG)=Δ from e);cases this
 |.str _ _:: r,e=>by have:=beq_iff_eq.mp (show(_ == eG)=Δ from e);cases this
 |.bytes _ _:: r,e=>by have:=beq_iff_eq.mp (show(_ == eG)=Δ from e);cases this
 |.builtin _:: r,e=>by have:=beq_iff_eq.mp (show(_ == eG)=Δ from e);cases this
theorem iA:∀{l:List Τ},oN l=Δ->l.contains (.type "object")=Δ/\l.contains (.type "BaseException")=Δ/\l.isEmpty=Ε
 | .ref c:: r,e=>by
  obtain⟨a,b,_⟩:=iA (l:=r) e
  exact⟨by rw[Q6,a,ew],by rw[Q6,b,ew],Λ⟩
 | .type a:: r,e=>by
  have d:=beq_iff_eq.mp e
  rw[d];exact⟨by decide,by decide,Λ⟩
 |.none:: r,e=>by have:=beq_iff_eq.mp (show(_ == eG)=Δ from e);cases this
 |.bool _:: r,e=>by have:=beq_iff_eq.mp (show(_ == eG)=Δ from e);cases this
 |.int _ _:: r,e=>by have:=beq_iff_eq.mp (show(_ == eG)=Δ from e);cases this
 |.float _ _:: r,e=>by have:=beq_iff_eq.mp (show(_ == eG)=Δ from e);cases this
 |.str _ _:: r,e=>by have:=beq_iff_eq.mp (show(_ == eG)=Δ from e);cases this
 |.bytes _ _:: r,e=>by have:=beq_iff_eq.mp (show(_ == eG)=Δ from e);cases this
 |.builtin _:: r,e=>by have:=beq_iff_eq.mp (show(_ == eG)=Δ from e);cases this
noncomputable def sK(K:ϧ)(C:Ν):Bool:=(PySem.W.clsIn K C).any λcd=>oN cd.mro
structure qO(K:ϧ)(C:Ν):Prop where
 mro:sK K C=Δ
 hd:ī K C=Δ
 sa:Ë K (.ref C) "__setattr__"=Α (Α (.builtin "object.__setattr__"))
 ga:Ë K (.ref C) "__getattribute__"=Α (Α (.builtin "BaseException.__getattribute__"))
 gn:Ë K (.ref C) "__getattr__"=Α Β
section
variable {prog:Program}{w:Î}{A:Ø}{E:Τ->Ψ->Prop}{s:Ψ}{K:ϧ}{x C:Ν}{ox:Obj}{name:Str}{v:Τ}
open PySem.W in
theorem tZ{R:Result->Ψ->Prop}{od:Option Obj}{tk:Tok}(X:K.In s.heap)(I:PySem.W.InstAt s.heap x ox C od)(hp:sK K C=Δ)(ht:Ë K (.ref C) name=Α Β)
  (h:∀b,ϣ (Ϣ prog w) A.in1 (Builtin.ObjectAttr.storeInOwnDict (.ref x) (.ref C) (.str name tk) name v b)
   (λfin s'=>match fin with|.done f=>R (.ok f) s'|.again c'=>c'.quiet=Δ/\ū (Ϣ prog w) A c' R s') (λe s'=>R (.error e) s') s):
  ū (Ϣ prog w) A (.call (.builtin "object.__setattr__") ⟨[.ref x,.str name tk,v],[]⟩) R s:=by
 have SF:=PySem.F.store_object
 obtain⟨cd,hc,ho⟩:=any_some hp
 obtain⟨h1,h2,ne⟩:=iA ho
 have sub:Looks (Ϣ prog w) s.heap (za3 (.ref x) (.type "object")) Δ:=I.type.andThen (looks_mroIn X (by unfold mroIn;rw[hc,Option.bind_some,Θ (by rw[ne];decide),h1]))
 refine Xg SF.slot.plain SF.entry (@check_slot (Ϣ prog w) _ _ s "object.__setattr__" "object" "__setattr__" (.ref x) [.str name tk,v] [] _ SF.kind SF.split sub (SF.args (.ref x) (.str name tk) v) ?_)
 have hm:Looks (Ϣ prog w) s.heap (mroOf (.ref C)) cd.mro:=(looks_clsIn X hc).andThen .now
 have L3:Looks (Ϣ prog w) s.heap (Builtin.ObjectAttr.storeTaker? Β) Β:=.now
 rw[osa_eq,refuse_eq]
 refine Ξ (Ξ (I.type.here (Ξ (hm.here ?_))))
 rw[kT _ ho]
 refine Ϡ (Ξ (I.type.here (Ξ ((Ue X ht).here (Ξ (L3.here ?_))))))
 exact h _
theorem wL(X:K.In s.heap)(i:s.heap.get? x=Α ⟨.ref C,Β,.fields vs,#[]⟩)(c:qO K C)(B:Ë K (.ref C) name=Α Β)
  (h:∀f D,f.get? x=Α ⟨.ref C,Α s.heap.objs.size,.fields vs,#[]⟩->f.Ns1 s.heap.objs.size (λy=>if y=name then Α v else Β)->
   (∀b o,b≠x->s.heap.get? b=Α o->f.get? b=Α o)->Q () {s with heap:=f,toks:=D}):
  ϣ (Ϣ prog w) A (setAttr (.ref x) name v) Q E s:=by
 have I:PySem.W.InstAt s.heap x ⟨.ref C,Β,.fields vs,#[]⟩ C Β:=⟨i,Λ,Λ,Ê⟩
 refine PySem.W.set_plain X I c.sa (tZ (s:={s with toks:=s.toks+1}) X I c.mro B λb=>?_)
 obtain⟨R,F,G⟩:=PySem.W.any_some c.hd
 obtain⟨a,g,d,t,H⟩:=s
 dsimp only at X i h I⊢
 refine Ξ (Ϡ (Ξ (Ξ (ND i (Ξ (PySem.W.Looks.here (s:=⟨a,g,d,t+1,H⟩) (PySem.W.looks_clsIn X F) ?_))))))
 rw[G]
 have q:(a.push {cls:=.type "dict",data:=.dict #[]}).get? x=Α ⟨.ref C,Β,.fields vs,#[]⟩:=Ο _ i
 have j:=Ã (lt_size i)
 rw[Θ (by decide)]
 dsimp only
 rw[Θ (by simp[typeHasDict])]
 refine Ξ (wpAny_alloc' ?_)
 refine Ξ (wpAny_update' q ?_)
 refine Ϡ ?_
 have l:((a.push {cls:=.type "dict",data:=.dict #[]}).update x λo=>{cls:=o.cls,dict:=Α a.objs.size,data:=o.data,slots:=o.slots}).get? a.objs.size
   =Α {cls:=.type "dict",data:=.dict #[]}:=
  (û _ _ _ _ j.symm).trans (Ü.get?_push_at Λ Λ)
 have m:((a.push {cls:=.type "dict",data:=.dict #[]}).update x λo=>{cls:=o.cls,dict:=Α a.objs.size,data:=o.data,slots:=o.slots}).Ns a.objs.size (λ_=>Β):=
  ⟨_,#[],_,l,Λ,λe J=>Κ J (by simp),λ_=>rfl⟩
 unfold ŷ Ÿ
 refine Ξ (Ϡ (Ξ (TQ (O1 m) λf r u=>?_)))
 obtain⟨S,L,M,N,O,P⟩:=r.count (Within.cons name v Within.nil)
 refine Ξ (JZ N (by rw[O];exact Kr (À P (by rw[ï,za6,Ω];exact ť _))) ?_)
 refine Ϡ (h f _ ?_ r λb o n z=>?_)
 ·exact(u.2 x j).trans (í _ q Λ)
 ·exact(u.2 b (Ã (lt_size z))).trans ((û _ _ _ _ n).trans (Ο _ z))
open PySem.W in
theorem Aw(FA:ExcAttrFacts "ValueError"){d:Ν}{vs:Array Τ}{sl:Array (Option Τ)}{mA:Str->Option Τ}{expr:Bool}{Q:Τ->Ψ->Prop}(X:K.In s.heap)(hx:s.heap.get? x=Α ⟨.ref C,Α d,.fields vs,sl⟩)(hn:s.heap.Ns1 d mA)
  (c:qO K C) (ht:Ë K (.ref C) name=Α Β) (hv:mA name=Α v) (hh:handedIn v=Δ) (h:Q v {s with toks:=s.toks+1}):ϣ (Ϣ prog w) A (getAttr (.ref x) name expr) Q E s:=by
 obtain⟨od,K8,hl⟩:=mO hn
 have I:PySem.W.InstAt s.heap x ⟨.ref C,Α d,.fields vs,sl⟩ C (Α od):=⟨hx,Λ,Λ,K8⟩
 have hf:findObj K C (Α od) name=Α (.value v):=findObj_own c.hd ht Λ (by rw[hl,hv])
 obtain⟨cd,hc,ho⟩:=any_some c.mro
 obtain⟨h1,h2,ne⟩:=iA ho
 have sub:Looks (Ϣ prog w) s.heap (za3 (.ref x) (.type "BaseException")) Δ:=I.type.andThen (looks_mroIn X (by unfold mroIn;rw[hc,Option.bind_some,Θ (by rw[ne];decide),h2]))
 have GA:=FA.ga
 have hk:builtinKind "BaseException.__getattribute__"=Α .slot:=by decide +kernel
 have Nl:splitId "BaseException.__getattribute__"=Α ("BaseException","__getattribute__"):=by decide +kernel
 have O7:(expr&& onTheHeap (Ŭ "BaseException.__getattribute__"))=Ε:=by cases expr<;>rfl
 have JJ:(Ŭ "BaseException.__getattribute__"== Ŭ "object.__getattribute__")=Ε:=by decide +kernel
 have F9:(onTheHeap (ϭ C)&& Ŭ "BaseException.__getattribute__"== Ŭ "object.__getattribute__")=Ε:=by rw[JJ];rfl
 have L0:=I.type (M:=Ϣ prog w)
 have L1:=Ue (M:=Ϣ prog w) X c.ga
 have L2:=Ue (M:=Ϣ prog w) X c.gn
 have L3:=looks_find (M:=Ϣ prog w) X I hf
 obtain⟨hp,g,dr,t,os⟩:=s
 unfold getAttr getAttrBy
 refine Ξ (wpAny_mkText (ď (Ξ (L0.at (Ξ (L1.at ?_))))))
 dsimp only
 rw[F9,Θ ϝ]
 unfold getAttrByItsOwn
 refine Ξ (L2.at ?_)
 refine Ξ (wpAny_attempt (ď ?_))
 unfold callGetattribute
 rw[O7,Θ ϝ]
 unfold boundAndCalled
 rw[GA.bind]
 refine Ξ (Ϡ (Ų ?_))
 refine Xg GA.plain F.entry_bexc_ga (@check_slot (Ϣ prog w) _ _ ⟨hp,g,dr,t+1,os⟩ "BaseException.__getattribute__" "BaseException" "__getattribute__" (.ref x) [.str name t] [] _ hk Nl sub (F.args_bexc_ga (.ref x) (.str name t)) ?_)
 unfold Builtin.«object.__getattribute__»
 refine Ξ (Ϡ ?_)
 dsimp only
 refine Ξ (Ϡ (Ξ (L0.at (Ξ (L3.at ?_)))))
 refine Ϡ ?_
 show ϣ _ _ (handedOut v) _ _ _
 rw[handedOut_of hh]
 exact Ϡ h
end
end L2
namespace PySem
section
variable {prog:Program}{w:Î}{A:Ø}{E:Τ->Ψ->Prop}{h:Ü}{g:Array O5}{d:Drawn}{t:Nat}{os:OsState}
variable {nm q:Str}{C N:Ν}{bs bm TU:List Τ}{FR:Bool}{sn:List Str}{sub:List Τ}{ab:Bool}{col:Option Bool}{dd:Option Ν}{k0 k1 k2 k3 k5:Option Τ}{B newId Kc:String}
theorem iC(F:ExcBaseFacts B newId Kc TU)(T:OwnTail h TU bm)
  (c:h.get? C=Α (rg nm q C N bs bm FR sn sub ab col dd k0 k1 k2 k3 k5 newId)) (m:h.Ns N mN) (n:mN "__init__"=Α (.ref fI))
  (p:h.get? fI=Α oI) (s:oI.cls=.type "function")
  (u:ϣ (Ϣ prog w) A (call (.ref fI) (.ref (h.objs.size+1):: rest)) (λr j=>r=.none/\Q (.done (.ret (.ref (h.objs.size+1)))) j) E
   ⟨(h.push {cls:=.type "tuple",data:=.seq rest.toArray}).push {cls:=.ref C,data:=.fields #[.ref h.objs.size,.none,.none,.none,.bool Ε,.none]},g,d,t,os⟩) (hrest:rest.length<=ό:=by size_fits):
  ϣ (Ϣ prog w) A (Builtin.«type.__call__» ⟨.ref C:: rest,[]⟩) Q E ⟨h,g,d,t,os⟩:=by
 repeat (first|with_reducible refine ő c ?_|with_reducible refine wpAny_madeBy_exc c ?_|wp_step)
 refine codeAny_call_builtin_code (R3 _ F.quiet) (wpAny_check_new_subT F T c ?_)
 refine codeAny_exc_new_subT F T c ?_ hrest
 show ϣ _ _ _ _ _ _
 have l:=Ο {cls:=.ref C,data:=.fields #[.ref h.objs.size,.none,.none,.none,.bool Ε,.none]}
  (Ο {cls:=.type "tuple",data:=.seq rest.toArray} c)
 have v:=Ο {cls:=.ref C,data:=.fields #[.ref h.objs.size,.none,.none,.none,.bool Ε,.none]}
  (Ο {cls:=.type "tuple",data:=.seq rest.toArray} p)
 have y:((h.push {cls:=.type "tuple",data:=.seq rest.toArray}).push {cls:=.ref C,data:=.fields #[.ref h.objs.size,.none,.none,.none,.bool Ε,.none]}).Ns N mN:=
  let ⟨o,es,ep,e,r⟩:=m;⟨o,es,ep,Ο _ (Ο _ e),r⟩
 have z:((h.push {cls:=.type "tuple",data:=.seq rest.toArray}).push
   {cls:=.ref C,data:=.fields #[.ref h.objs.size,.none,.none,.none,.bool Ε,.none]}).get? (h.objs.size+1)=Α
   {cls:=.ref C,data:=.fields #[.ref h.objs.size,.none,.none,.none,.bool Ε,.none]}:=by heap_get
 have i:(ϭ C:: bm).contains (.ref C)=Δ:=by simp
 have f:=T.keeps (h':=(h.push {cls:=.type "tuple",data:=.seq rest.toArray}).push {cls:=.ref C,data:=.fields #[.ref h.objs.size,.none,.none,.none,.bool Ε,.none]})
  λb o e=>Ο _ (Ο _ e)
 unfold za3
 repeat (first|with_reducible refine ő z ?_|(with_reducible refine Yo l ?_;rw[i])|wp_step)
 show ϣ _ _ (za2 (.ref C) _) _ _ _
 refine wpAny_typeLookup_tail l y f F.mroIs F.init.lookup ?_
 rw[n]
 refine ď (Ξ ?_)
 unfold bindSpecial
 refine Ξ (wpAny_typeOf (T:="function") ⟨_,v,s⟩ ?_)
 rw[Ι (by decide)]
 refine Ϡ (Ξ (Ò u (λr j D=>?_) λ_ _ x=>x))
 obtain⟨rfl,G⟩:=D
 wp_walk
 exact G
theorem n9(F:ExcBaseFacts B newId Kc TU)(T:OwnTail h TU bm)
  (hC:h.get? C=Α (rg nm q C N bs bm FR sn sub ab col dd k0 k1 k2 k3 k5 newId)) (hn:h.Ns N mN) (hi:mN "__init__"=Α (.ref fI))
  (Wx:h.get? fI=Α oI) (Wz:oI.cls=.type "function")
  (hq:ϣ (Ϣ prog w) (A.under (.builtin "type.__call__" ⟨.ref C:: rest,[]⟩)) (call (.ref fI) (.ref (h.objs.size+1):: rest)) (λr s'=>r=.none/\Q (.ref (h.objs.size+1)) s') E
   ⟨(h.push {cls:=.type "tuple",data:=.seq rest.toArray}).push {cls:=.ref C,data:=.fields #[.ref h.objs.size,.none,.none,.none,.bool Ε,.none]},g,d,t,os⟩) (hrest:rest.length<=ό:=by size_fits):
  ϣ (Ϣ prog w) A (call (.ref C) rest) Q E ⟨h,g,d,t,os⟩:=by
 have f1:=tc_lookup
 have f2:=tc_bind (.ref C)
 have hT:(⟨h,g,d,t,os⟩:Ψ).TypeIs (.ref C) "type":=⟨_,hC,Λ⟩
 refine Ų (codeAny_of_tree ?_)
 show ϣ _ _ (callAny (.ref C) _) _ _ _
 repeat (any_goals (first|assumption|with_reducible refine ő hC ?_|wp_step))
 refine⟨Λ,?_⟩
 refine codeAny_call_builtin_at (R3 _ (by decide +kernel)) entry_typeCall (wpAny_check_type_call_sub hC (iC (hrest:=hrest) F T hC hn hi Wx Wz ?_))
 exact hq
end
section
variable {M:Model}{A:Ø}{E:Τ->Ψ->Prop}{env:Env}
variable {nm q:Str}{C N:Ν}{bs bm:List Τ}{FR:Bool}{sn:List Str}{sub:List Τ}{ab:Bool}{col:Option Bool}{dd:Option Ν}{k0 k1 k2 k3 k5:Option Τ}{newId:String}
theorem iD(j:A.handled=Β)
  (h:ϣ M A x (λv a=>∃e t f nm q N bs bm FR sn sub ab col dd k0 k1 k2 k3 k5 newId,v=.ref e/\bm.contains (.type "BaseException")=Δ/\a.heap.get? C=Α (rg nm q C N bs bm FR sn sub ab col dd k0 k1 k2 k3 k5 newId)/\
   a.heap.get? e=Α {cls:=.ref C,dict:=f,data:=.fields #[.ref t,.none,.none,.none,.bool Ε,.none]}/\E (.ref e) a) E s):
  ϣ M A (raiseStmt env (Α x) Β) Q E s:=by
 unfold raiseStmt
 refine Ξ (Ò h (λv a b=>?_) λ_ _ x=>x)
 obtain⟨e,t,f,nm,q,N,bs,bm,FR,sn,sub,ab,col,dd,k0,k1,k2,k3,k5,newId,rfl,l,i,m,n⟩:=b
 have c:(ϭ C:: bm).contains (.type "BaseException")=Δ:=by rw[Q6,l,ew]
 obtain⟨o,g,d,p,r⟩:=a
 repeat (first|with_reducible refine ő m ?_|with_reducible refine ő i ?_|(with_reducible refine Yo i ?_;rw[c])|wp_step)
 exact wpAny_raiseNew_none j n
end
end PySem
namespace L2
open PySem PySem.Spec PyProof.Rows
noncomputable def j5(K:ϧ)(C:Ν)(init:Option Τ):Bool:=match K.lookup C with
 | some ⟨.type "type",_,.cls cd,sl⟩=>(match cd.mro,sl.toList with
  |.ref C':: bm,[_,_,_,_,Α (.builtin n),_]=>C' == C&& n =="ValueError.__new__" && !cd.hasDel&& PySem.W.tailIn K eG bm&& PySem.W.nsOkIn K cd.ns&& ł K cd.ns "__init__"== Α init
  |_,_=>Ε)
 |_=>Ε
theorem jx{K:ϧ}(X:K.In h)(e:PySem.W.nsOkIn K N=Δ)(q:ł K N x=Α (Α v)):h.nsMap N x=Α v:=by
 have G:h.Ns N (h.nsMap N):=.of_isNs (PySem.W.isNs_of_in X e)
 generalize h.nsMap N=m at G⊢
 obtain⟨o,g,i,a,b,_,f⟩:=G
 unfold ł at q
 split at q
 ·rename_i c d T1 n' sl z
  have:=X _ _ z
  rw[a]at this
  cases this
  cases b
  split at q
  ·rename_i en he
   cases q
   rw[←f]
   unfold nsFind findBy
   rw[←Ry,he]
   rfl
  ·split at q<;>cases q
 ·cases q
theorem uA{K:ϧ}(X:K.In h)(q:j5 K C init=Δ):∃b N j m bs t o sub ab a p c d e f g mN,
  h.get? C=Α (rg j m C N bs b t o sub ab a p c d e f g "ValueError.__new__")/\h.Ns N mN/\mN "__init__"=init/\OwnTail h eG b:=by
 unfold j5 at q
 split at q
 ·rename_i p cd sl ho
  split at q
  ·rename_i C' b c d e f n g hm hs
   simp only[É,beq_iff_eq,ö]at q
   obtain⟨⟨⟨⟨⟨rfl,rfl⟩,s⟩,u⟩,i⟩,r⟩:=q
   obtain⟨j,bs,w,x,m,y,o,sub,ab,a,Bt⟩:=cd
   dsimp only at hm s i r
   subst hm s
   have z:sl=#[c,d,e,f,Α (.builtin "ValueError.__new__"),g]:=by
    obtain⟨l⟩:=sl
    simp only at hs
    rw[hs]
   subst z
   refine⟨b,x,j,m,_,y,o,_,_,a,p,c,d,e,f,g,_,X _ _ ho,.of_isNs (PySem.W.isNs_of_in X i),?_,PySem.W.tail_of_in X u⟩
   cases init with
   |none=>exact PySem.W.nsMap_none_of_in X i r
   |some v=>exact jx X i r
  ·cases q
 ·cases q
theorem uJ(T:OwnTail h eG bm):bm.contains (.type "BaseException")=Δ:=T.hasType (by decide)
noncomputable def e9(C t:Ν)(dd:Option Ν):Obj:={cls:=.ref C,dict:=dd,data:=.fields #[.ref t,.none,.none,.none,.bool Ε,.none]}
abbrev TX:=St->Hp->(Option Ν->Hp->Prop)->Prop
def PX(X:Cx)(e:Expr)(C:Ν)(t:TX):Prop:=
 ∀(ν:List (Ν×Obj))(s:Ψ)(σ:St)(H:Hp)(R:Option Ν->Hp->Prop),ς X ν σ H s->t σ H R->ϣ (Ϣ X.prog X.w) X.A (eval e X.env)
  (λu s'=>∃ea dd tt H',u=.ref ea/\ς X ν σ H' s'/\s'.heap.get? ea=Α (e9 C tt dd)/\X.s₀.heap.get? ea=Β/\H' ea=Β/\(∀p∈X.pn++ν,p.1≠ea)/\R dd H') X.xe s
noncomputable def Bt(H:Hp)(a:Ν):Hp:=λb=>if b=a then Β else H b
theorem qu:Bt H a a=Β:=Ι Λ
theorem gJ(h:b≠a):Bt H a b=H b:=Θ h
theorem ς.drop{m:St}(I:ς X ν m H s)(e:H a=Α (.ext d)):ς X ν m (Bt H a) s:=by
 have f:∀b u,H b=Α u->(∀d,u≠.ext d)->b≠a:=λb u q n z=>by rw[z,e]at q;cases q;exact n d Λ
 have g:∀b,H b=Β->Bt H a b=Β:=λb q=>by unfold Bt;split<;>first|rfl|exact q
 refine⟨I.ok,I.os,I.bare,⟨I.μ.keep,I.μ.slot,λb o i j l=>g b (I.μ.free b o i j l),I.μ.there,λb xs q=>?_,λb o u q=>?_,λb r q=>?_⟩,I.loc,I.cell,g _ I.free,λx c h=>g _ (I.Ew x c h),λp t=>?_,λb u q=>?_,I.len⟩
 ·have z:=I.μ.FN b xs q
  rw[gJ (f b _ z λd h=>by cases h)];exact z
 ·have z:=I.μ.FE b o u q
  rw[gJ (f b _ z λd h=>by cases h)];exact z
 ·obtain⟨more,z⟩:=I.μ.FF b r q
  exact⟨_,by rw[gJ (f b _ z λd h=>by cases h)];exact z⟩
 ·obtain⟨i,j,l⟩:=I.pin p t
  exact⟨i,g _ j,l⟩
 ·have w:b≠a:=λz=>by rw[z,qu]at q;cases q
  rw[gJ w]at q
  refine(I.DY b u q).EM (λc v _ z=>z) (λc z=>?_) λc xs z=>?_
  ·rw[gJ (f c _ z λd h=>by cases h)];exact z
  ·rw[gJ (f c _ z λd h=>by cases h)];exact z
section
variable {X:Cx}{C f:Ν}{x:Str}{p pos apos:Pos}{e:Expr}{es:List Expr}{t:TA}
noncomputable def jk(e C t:Ν)(dd:Option Ν):HO:=.ext λh=>h.get? e=Α (e9 C t dd)
theorem qm{e C t:Ν}(q:h.get? e=Α (e9 C t dd)):Ek P w H h e (jk e C t dd):=
 ⟨q,⟨_,q⟩,λc d a b=>b _ a⟩
noncomputable def B5(C:Ν)(sp:Sp)(t:TA):TX:=λσ H R=>t σ H λvs H1=>vs.length<=ό/\∀e tt,H1 e=Β->sp (.ref e:: vs) (ο H1 e (jk e C tt Β)) (λv H2=>v=.Eh/\∃dd,H2 e=Α (jk e C tt dd)/\R dd (Bt H2 e)) E0
theorem zu(S:j5 X.K C (Α (.ref f))=Δ)(U:isFn X.K (.ref f)=Δ)(Y:Ϯ X.K (.ref C)=Δ)(F:DQ X.prog X.w X.K X.mg X.μ aF k f fd ps sp)(Z:Ea (k+1) X.A)(hb:Binds X.K fd ps [])
  (hg:Gl X x) (hm:X.mg x=Α (.ref C)) (ha:PA X (e:: es) t)
  (JU:autoParam ((x == ("__debug__":Str))=Ε) θ) (he:autoParam (Á (e:: es) X.env=(Ε,eval e X.env):: Á es X.env) η) (FH:autoParam ((Đ pos (Á es X.env)).any (·.1)=Ε) η):
  PX X (.Call (.Name x p) (e:: es) [] pos) C (B5 C sp t):=by
 intro c s B H R I h
 refine Ġ (iZ I hg hm ?_ JU)
 refine PySem.W.callWith_K (h₀:=X.μ) I.ok.mod.HZ Y (b8 (ha pos c s B H _ I h) λus D ⟨vs,H1,i,r,hl,q⟩=>⟨i.EY,?_⟩) he FH
 obtain⟨bm,N,nm,qn,bs,FR,sn,sub,ab,col,dd,k0,k1,k2,k3,k5,mN,E,G,O8,T⟩:=uA i.EY S
 obtain⟨m,hoI,hcI⟩:∃m,D.heap.get? f=Α m/\m.cls=.type "function":=by
  have z:=beq_iff_eq.mp U
  obtain⟨o,ho,z⟩:=Md.mp (show(X.K.lookup f).map (·.cls)=Α (.type "function") from z)
  exact⟨o,i.EY _ _ ho,z⟩
 obtain⟨a,g,d,n,J⟩:=D
 dsimp only at E G T hoI
 refine n9 (hrest:=by show us.length<=_;rw[←r.length];exact hl) PySem.F.excBase_ValueError T E G O8 hoI hcI ?_
 have l:a.objs.size<=a.objs.size+1:=Ź _
 have L:=q (a.objs.size+1) a.objs.size (i.DY.fresh l)
 have Nn:((a.push {cls:=.type "tuple",data:=.seq us.toArray}).push (e9 C a.objs.size Β)).get? (a.objs.size+1)=Α (e9 C a.objs.size Β):=by
  have:=ϡ (a.push {cls:=.type "tuple",data:=.seq us.toArray}) (o:=e9 C a.objs.size Β) Λ
  rwa [size_push]at this
 have y:=
  i.laid (t':=n) (λb u z=>Ο _ (Ο _ z)) l (qm Nn)
 have M:τ (V.ref (a.objs.size+1):: vs) (ϭ (a.objs.size+1):: us):=.cons Λ r
 have Le:(ϭ (a.objs.size+1):: us++[]).length=ps.length:=by
  have e:=M.length
  rw[F.len _ _ _ _ L]at e
  rw[ĕ];exact e.symm
 have O:=hb ⟨(a.push {cls:=.type "tuple",data:=.seq us.toArray}).push (e9 C a.objs.size Β),g,d,n,J⟩ (ϭ (a.objs.size+1):: us) y.EY Le
 rw[ĕ]at O
 refine Ų (ķ (F.run _ X.stack _ _ ⟨ϭ (a.objs.size+1):: us,[]⟩ (ϭ (a.objs.size+1):: us) _ _ E0 (Z.make C us []) (y.La.make C us []) O M L) λrr s' j=>?_)
 cases rr with
 |error e=>exact j.elim
 | ok fl =>
  cases fl with
  | ret u =>
   obtain⟨v,H',P,rv,ev,de,Q,q3⟩:=y.after j
   subst ev
   refine⟨rv,a.objs.size+1,de,a.objs.size,Bt H' (a.objs.size+1),Λ,P.drop Q,(P.DY _ _ Q).1,ŕ (À i.sz l),qu,λp FX z=>?_,q3⟩
   have:=lt_size (i.pin p FX).1
   rw[z]at this
   exact Κ this (not_lt.mpr l)
  |next=>exact Ô j
  |brk=>exact Ô j
  |cont=>exact Ô j
def BB(C:Ν)(E:XK)(t:TX):TS:=λ_ σ H=>t σ H λdd H1=>E (.ref C) dd H1
theorem xr(O:X.calm=Δ)(U:j5 X.K C init=Δ)(Y:Bv X E)(h:PX X e C tx):PS X (.Raise (Α e) Β pos) (BB C E tx):=by
 intro d s P H D I Z
 rw[arm_exec_Raise]
 have l:ϣ (Ϣ X.prog X.w) X.A (eval e X.env) (λv a=>∃g t de r q N bs n y z sub ab i o B F G J L j,v=.ref g/\n.contains (.type "BaseException")=Δ/\a.heap.get? C=Α (rg r q C N bs n y z sub ab i o B F G J L j)/\
   a.heap.get? g=Α {cls:=.ref C,dict:=de,data:=.fields #[.ref t,.none,.none,.none,.bool Ε,.none]}/\X.xe (.ref g) a) X.xe s:=by
  refine b8 (h d s P H _ I Z) λu s1 DS=>?_
  obtain⟨g,o,tt,H',eu,Q,R,hn,hh,hp,q⟩:=DS
  obtain⟨n,N,r,qn,bs,y,z,sub,ab,i,M,B,F,G,J,L,mN,hC,O6,O8,T⟩:=uA Q.EY U
  refine⟨g,_,o,r,_,N,_,n,y,z,_,_,i,M,B,F,G,J,L,_,eu,uJ T,hC,R,Y d P _ _ ⟨g,.ref C,o,[g],H',Λ,Q,⟨_,_,R,Λ,Λ,Λ,.inl ⟨Λ,Λ⟩⟩,λb S=>?_,q⟩⟩
  simp only[ϙ]at S
  subst S
  exact⟨hn,hh,hp⟩
 first
  |refine Ξ (Ī (iD (C:=C) (I.ok.hd O) (Ξ (Ò l (λv m c=>Ξ (Ī (Ϡ c))) λ_ _ x=>x))))
  |(simp only[evalOpt,Option.map];refine Ξ (Ī (iD (C:=C) (I.ok.hd O) (Ξ (Ò l (λv m c=>Ξ (Ī (Ϡ c))) λ_ _ x=>x)))))
end
section
variable {prog:Program}{w:Î}{A:Ø}{E:Τ->Ψ->Prop}{s:Ψ}{K:ϧ}{x C:Ν}{ox:Obj}{od:Option Obj}{name:Str}{v:Τ}
open PySem.W in
open PySem.W in
end
abbrev Cx.hand(X:Cx)(ea:Ν)(oe:Obj):Cx:={X with A:=X.A.mark (Α (.ref ea)),calm:=Ε,pn:=(ea,oe):: X.pn,xe:=λ_ _=>False}
section
variable {X:Cx}{ν:List (Ν×Obj)}{σ:St}{H:Hp}{s:Ψ}{ea:Ν}{oe:Obj}
theorem ς.hand(I:ς X ν σ H s)(c:s.heap.get? ea=Α oe)(d:oe.data=.fields vs)(f:H ea=Β):ς (X.hand ea oe) ν σ H s:=by
 have ok:=I.ok
 refine⟨⟨ok.mod,ok.kind,ok.glob,ok.blt,ok.above,ok.inj,ok.has,ok.KU,(λz=>by cases z),ok.frames,ok.MU,ok.Po,ok.bs,ok.Jh,ok.Ia,ok.IK,ok.Fb,ok.JG⟩,I.os,I.bare,I.μ,I.loc,I.cell,I.free,I.Ew,λp e=>?_,I.DY,I.len⟩
 rcases ϥ.mp e with rfl|e
 ·refine⟨c,f,λz=>?_,λz=>?_,λv q=>by rw[d]at q;cases q⟩
  ·obtain⟨m,⟨o,i,j,a,b,_⟩,_⟩:=I.loc
   have g:=z
   rw[←g,c]at a
   cases a
   rw[d]at b
   cases b
  ·obtain⟨_,o,a,h⟩:=I.Fb.mem z
   rw[show(ea,oe).1=ea from Λ,c]at a
   cases a
   exact h vs d
 ·exact I.pin p e
theorem ς.HF(J:ς (X.hand ea oe) ν σ H s)(ok:X.Ok):ς X ν σ H s:=
 ⟨ok,J.os,J.bare,J.μ,J.loc,J.cell,J.free,J.Ew,λp a=>J.pin p (ϟ _ a),J.DY,J.len⟩
inductive Uao(X:Cx)(f:Str)(Q:VK)(x:V)(H1:Hp):Prop
 |mk (ea oe C vs d fs v)(_:x=.ref ea)(_:(ea,oe)∈X.pn)(_:oe.cls=.ref C)(_:oe.data=.fields vs)(_:oe.dict=Α d)(_:H1 d=Α (.xd fs))(_:qO X.K C)(_:Ë X.K (.ref C) f=Α Β)(_:fs.lookup f=Α v)(_:Q v H1)
def Qm(X:Cx)(ta:TE)(f:Str):TE:=λσ H Q=>ta σ H λx H1=>Uao X f Q x H1
theorem tU(j:PE X e ta)(l:ŝ e f X.env (eval e X.env)=eval e X.env):PE X (.Attribute e f pos) (Qm X ta f):=by
 intro ν s σ H Q I h
 refine uG l (b8 (j ν s σ H _ I h) λu L m=>?_)
 obtain⟨x,p,a,t,ea,oe,C,M,d,fs,v,w,y,b,c,g,z,A,B,D,q⟩:=m
 subst w
 obtain rfl:u=ϭ ea:=t
 obtain⟨E,n,r⟩:=a.DY d _ z
 obtain⟨N,G,i⟩:=EL.some_of (v:=v) (o:=E f) (by rw[←D];exact r f)
 have J:=(a.pin (ea,oe) (Í _ y)).1
 obtain⟨O,P,K,R⟩:=oe
 dsimp only at b c g
 subst b c g
 exact Aw F.attr_ValueError a.EY J n A B G (mR i) ⟨v,p,a.tok _,i,q⟩
end
section
variable {X:Cx}{o e value:Expr}{f:Str}{pos pos':Pos}{ta tv:TE}
end
section
variable {P:Program}{w:Î}{K:ϧ}{mg:Str->Option Τ}{μ:Ü}
end
def PEx(X:Cx)(e:Expr)(t:St->Hp->VK->XK->Prop):Prop:=
 ∀(ν:List (Ν×Obj))(s:Ψ)(σ:St)(H:Hp)(Q:VK)(E:XK),ς X ν σ H s->t σ H Q E->ϣ (Ϣ X.prog X.w) X.A (eval e X.env) (EP X ν σ Q) (XP X ν σ E) s
section
variable {X:Cx}{k:Nat}{f C:Ν}{fd:Ý}{ps:List Str}{sp:Sp}{EZ:List V}{ds:List Τ}{x m:Str}{p pos apos:Pos}{e o:Expr}{es:List Expr}{ta:TE}{t:TA}
theorem zl{b:St}(F:DQ X.prog X.w X.K X.mg X.μ (AV X.prog X.w) k f fd ps sp)(g:Ea k X.A)(i:Binds X.K fd ps ds)(j:τ EZ ds)(c:X.ex=[])
  (I:ς X ν b H s) (r:τ vs us) (h:sp (vs++EZ) H Q E):ϣ (Ϣ X.prog X.w) X.A (call (.ref f) us) (EP X ν b Q) (XP X ν b E) s:=by
 have d:=r.append j
 have l:(us++ds).length=ps.length:=by rw[←d.length];exact F.len _ _ _ _ h
 refine Ų (ķ (F.run X.A X.stack s H ⟨us,[]⟩ (us++ds) (vs++EZ) Q E g I.La (i s us I.EY l) d h) λr q a=>?_)
 cases r with
 |error e=>exact XP.Qi I c a
 | ok n =>
  cases n with
  |ret u=>exact I.after a
  |next=>exact Ô a
  |brk=>exact Ô a
  |cont=>exact Ô a
theorem PA.at{a:St}(b:PA X.JH es t)(I:ς X ν a H s)(h:t a H Q):
  ϣ (Ϣ X.prog X.w) X.A (spliced (Đ pos (Á es X.env))) (AP X ν a Q) E s:=
 Ò (b pos ν s a H Q (I.Gv _) h) (λ_ _ c=>by obtain⟨d,g,i,r,q⟩:=c;exact⟨d,g,i.EN,r,q⟩) λ_ _ z=>Ô z
theorem PE.at{a:St}(b:PE X.JH e te)(I:ς X ν a H s)(h:te a H Q):
  ϣ (Ϣ X.prog X.w) X.A (eval e X.env) (EP X ν a Q) E s:=
 Ò (b ν s a H Q (I.Gv _) h) (λ_ _ c=>by obtain⟨v,d,g,r,q⟩:=c;exact⟨v,d,g.EN,r,q⟩) λ_ _ z=>Ô z
theorem xx(z:PE X.JH o ta)(c:GK X.K C)(d:cb X.K C m f)(F:DQ X.prog X.w X.K X.mg X.μ (AV X.prog X.w) k f fd ps sp)(B:Ea k X.A)(D:Binds X.K fd ps ds)(G:τ EZ ds)(b:X.ex=[])(J:PA X.JH (e:: es) t)
  (L:autoParam (Á (e:: es) X.env=(Ε,eval e X.env):: Á es X.env) η) (M:autoParam ((Đ pos (Á es X.env)).any (·.1)=Ε) η)
  (N:eval (.Call (.Attribute o m apos) (e:: es) [] pos) X.env=(do
   let g ← eval o X.env
   GS apos.atName
   let (f,first) ← ic [g] (getMethod g m pl)
   callWith pos f first (Đ pos (Á (e:: es) X.env)) (Ii pos (ž [] X.env))):=by rfl):
  PEx X (.Call (.Attribute o m apos) (e:: es) [] pos) (λi H Q E=>vR C m sp EZ E ta t i H Q):=by
 intro j s i H Q E I h
 refine PySem.W.methodCall_KW (pl:=pl) (b8 (z.at I h) λu U O=>?_) N
 obtain⟨x,Y,n,P,a,Z,fs,R,S,l,q⟩:=O
 subst R
 obtain rfl:u=ϭ a:=P
 refine i8 n S c d l ?_
 refine PySem.W.callWith_K (first:=[.ref a]) (h₀:=X.μ) I.ok.mod.HZ d.kp (b8 (J.at n q) λus s2 ⟨vs,H2,y,r,T⟩=>⟨y.EY,?_⟩) L M
 exact zl (us:=.ref a:: us) (vs:=.ref a:: vs) F B D G b y (.cons Λ r) T
end
def PBx(X:Cx)(body:List Ç)(t:eV->St->Hp->(St->XK)->Prop):Prop:=
 ∀(ν:List (Ν×Obj))(s:Ψ)(σ:St)(H:Hp)(D:eV)(E:St->XK),ς X ν σ H s->t D σ H E->ϣ (Ϣ X.prog X.w) X.A (execs body X.env) (SP X ν D) (λev s'=>∃σ',XP X ν σ' (E σ') ev s') s
section
variable {X:Cx}{e:Expr}{t:St->Hp->VK->XK->Prop}{pos Ic:Pos}{n:Str}{i:Nat}
theorem AJ(d:PEx X e t)(g:autoParam (Ř e Β pos.line X.env=pure Ε) η):PBx X [.Expr e pos] (λD b H E=>t b H (λ_ c=>D.nx b c) (E b)):=by
 intro a s b H D E I h
 refine Ka (Ò (wpAny_Expr_any (Q:=SP X a D) (Ò (d a s b H _ _ I h) (λv j l=>by obtain⟨x,c,m,p,o⟩:=l;exact⟨b,c,m,o⟩) (λ_ _ z=>⟨b,z⟩)) I.quiet g) (λf j q=>?_) λ_ _ z=>z)
 cases f with
 |next=>exact Ņ q
 |ret v=>exact q
 |brk=>exact q
 |cont=>exact q
end
section
variable {M:Model}{A:Ø}{E:Τ->Ψ->Prop}{s:Ψ}
theorem vk(x:J8 s.heap e cls dd ch)
  (h:∀j,J8 j e cls dd ch->qQ fs ch s.heap j->Q () {s with heap:=j}):ϣ M A (setFlight (.ref e) Β) Q E s:=by
 obtain⟨n,p,d,rfl,rfl,g,⟨a,rfl⟩|⟨T,y,v,a,q,r,l,w,rfl⟩⟩:=x
 ·unfold setFlight
  refine Ξ (ğ d g a ?_)
  rw[Θ (by decide)]
  exact Ϡ (h s.heap ⟨n,p,d,Λ,Λ,g,.inl ⟨a,Λ⟩⟩ ⟨λ_ _ z _ _=>z,λ_ o z _=>⟨o.slots,z⟩,λ_ o z=>⟨o,z⟩⟩)
 ·unfold setFlight
  refine Ξ (ğ d g a ?_)
  rw[Ι (show(ϭ T != Ú)=Δ from by simp)]
  have t:=(ĩ.mp w).1
  have other:∀b,b≠T->(s.heap.update T (ò (·.setIfInBounds 3 ((Β:Option Ν).elim Ú λf=>ą f)))).get? b=s.heap.get? b:=λb i=>Û _ _ (Ϟ i)
  have u:=í (ò (·.setIfInBounds 3 ((Β:Option Ν).elim Ú λf=>ą f))) r (Ģ (ð l _))
  refine ŏ r l t (h _ ⟨n,p,(other e (Ϟ q)).trans d,Λ,Λ,g,.inr ⟨T,_,_,a,q,u,ð l _,by simp[t],Λ⟩⟩ ⟨λb o z c _=>?_,λb o z c=>?_,λb o z=>?_⟩)
  ·simp only[ϥ,Õ,or_false,not_or]at c
   exact(other b c.2).trans z
  ·simp only[ϥ,Õ,or_false,not_or]at c
   exact⟨_,(other b c.2).trans z⟩
  ·by_cases i:b=T
   ·subst i;exact⟨_,u⟩
   ·exact⟨o,(other b i).trans z⟩
end
theorem kg{u:St}(I:ς X ν u H s)(J:X.N.Nodup)(B:X.N[i]?=Α x)(K:X.env.kindOf x=Α .local)
  (h:∀C,ς X ν (u.set i Β) H C->Q () C):ϣ M A (do bindName X.env x .none;unbindBehindTheSuite X.env x pos) Q E s:=by
 obtain⟨m,D,L⟩:=id I.loc
 have O:(X.env.scope.kind == .class||(X.env.scope.kind == .module&& X.env.locals != X.env.globals))=Ε:=by rw[I.ok.kind];rfl
 have Ji:=I.Ji
 refine wpAny_nameGoes_keeps K D O λh' v P f=>?_
 obtain⟨oL,_,_,MX,_⟩:=id D
 have a:∀b o,X.s₀.heap.get? b=Α o->b≠X.env.locals:=λb o e=>Ã (ϛ (lt_size e) I.ok.above)
 refine h _ ⟨I.ok,I.os,I.bare,⟨λb o e n w l=>(f.2 b (a b o e)).trans (I.μ.keep b o e n w l),λb o e n w l=>?_,I.μ.free,λb o e l=>?_,I.μ.FN,I.μ.FE,I.μ.FF⟩,⟨_,P,λj y R g r S=>?_⟩,λy c e=>?_,I.free,I.Ew,λp T=>?_,λb U e=>?_,by simpa using I.len⟩
 ·obtain⟨Y,g⟩:=I.μ.slot b o e n w l
  exact⟨Y,(f.2 b (a b o e)).trans g⟩
 ·obtain⟨Z,g⟩:=I.μ.there b o e l
  exact⟨Z,(f.2 b (a b o e)).trans g⟩
 ·have F:j≠i:=λz=>by
   subst z
   have Eo:j<u.length:=by rw[I.len];exact(gQ0 B)
   rw[ę Eo]at r
   cases r
  rw[à (Ϟ F)]at r
  obtain⟨u',r',q⟩:=L j y R g r S
  refine⟨_,r',?_⟩
  rcases q with ⟨k,e⟩|⟨k,c,e,z⟩
  ·refine .inl ⟨k,?_⟩
   have:y≠x:=λe=>F (c9 J g (e▸B))
   simp[this,e]
  ·exact .inr ⟨k,c,e,z.sameBut f (Ji y c e)⟩
 ·obtain⟨G,z⟩:=I.cell y c e
  exact⟨G,z.sameBut f (Ji y c e)⟩
 ·obtain⟨e,n,ne,nf,d⟩:=I.pin p T
  exact⟨(f.2 p.1 ne).trans e,n,ne,nf,d⟩
 ·refine(I.DY b U e).EM (λc G t q=>(f.2 c ?_).trans q) (λ_ q=>q) λ_ _ q=>q
  rintro rfl
  rcases t with z|t
  ·rw[←z,I.free]at e;cases e
  ·rw[I.free]at t;cases t
def B7(K:ϧ)(c:Τ)(i:Nat)(tb:eV->St->Hp->(St->XK)->Prop)(th:Ν->Obj->TS):TS:=λD σ H =>
 tb D σ H λσ' cls dd H'=>PySem.W.exmOne K cls c=Α Δ/\∀ea oe vs,oe.cls=cls->oe.dict=dd->oe.data=.fields vs->H' ea=Β->
  th ea oe {nx:=λσ2 H2=>D.nx (σ2.set i Β) H2,rt:=D.rt,bk:=λσ2 H2=>D.bk (σ2.set i Β) H2,ct:=λσ2 H2=>D.ct (σ2.set i Β) H2} (σ'.set i (Α (.ref ea))) H'
theorem xq(O:X.stack=X.env:: X.outer)(Qo:X.env.frame=Α X.env.locals)
  (C:X.N.Nodup) (E:X.N[i]?=Α n) (t:X.env.kindOf n=Α .local) (hg:Gl X y) (hm:X.mg y=Α c) (a:PBx X body tb) (hh:∀ea oe,GF (X.hand ea oe) (F:: Mf) (th ea oe))
  (JU:autoParam ((y == ("__debug__":Str))=Ε) θ):
  PS X (.Try body [.ExceptHandler (Α (.Name y np)) (Α n) (F:: Mf) IU] [] [] pos) (B7 X.K c i tb th):=by
 intro g s σ H D I h
 refine wpAny_Try_except (Ò (a g s σ H D _ I h) (λf x q=>?_) λev x ⟨σ1,e,P,dd,ch,Q,ee,B,Nk,L,R,q⟩=>?_)
 ·cases f with
  |next=>exact Ņ q
  |ret v=>exact q
  |brk=>exact q
  |cont=>exact q
 subst ee
 have S:=O▸B.stack
 refine mH (μ:=X.μ) (O▸B.ok.frames) S Qo Nk λT U G Y W0=>?_
 have Z:=B.HE (h':=T) (O▸Y) λb a=>⟨(L b a).1,(L b a).2.1,(L b a).2.2,Nk.rec b a⟩
 have M:∀b∈U,X.s₀.heap.get? b=Β/\Q b=Β/\∀p∈X.pn++g,p.1≠b:=λb a=>by
  rcases W0 b a with z|z
  ·exact L b z
  ·refine⟨ŕ (À B.sz z),B.DY.fresh z,λp hp z2=>?_⟩
   have:=lt_size (B.pin p hp).1
   rw[z2]at this
   exact Κ this (not_lt.mpr z)
 have ty:PySem.W.Looks (Ϣ X.prog X.w) T (typeOf (.ref e)) P:=by
  obtain⟨oe,vs,he,hc,_⟩:=G
  exact hc▸(PySem.W.Looks.ld he).andThen .now
 refine wpAny_handleBy_cons (codeAny_handlers_test ?_) (by intro z;cases z)
 have eH:=(M e G.mem).2.1
 obtain⟨oe2,Mg,KA,GL,hd2,hf2,_⟩:=id G
 have J2:=Z.hand (ea:=e) (oe:=oe2) KA hf2 eH
 refine iZ J2 hg hm ?_ JU
 refine PySem.W.exm_one Z.EY ty R (X.A.mark (Α (.ref e))) _ _ ⟨T,x.gens,x.drawn,x.toks,x.os⟩ (λ_ _ z=>z) ?_
 refine codeAny_handlers_suite_as ?_
 refine vk (fs:=ki X.stack) G λh3 W3 mv3=>?_
 have I3:=Z.HE (h':=h3) mv3 λb a=>⟨(M b a).1,(M b a).2.1,(M b a).2.2,G.rec b a⟩
 obtain⟨oe,vs,he,hc,hd,hf,_⟩:=id W3
 have J3:=I3.hand (ea:=e) (oe:=oe) he hf eH
 refine iL (X:=X.hand e oe) J3 C E (.inl t) (v:=.ref e) Λ (λs4 J4=>?_) (.inr t)
 refine Ò (hh e oe g s4 _ Q _ J4 (q e oe vs hc hd hf eH)) (λf s5 d=>?_) λ_ _ z=>Ô z
 dsimp only
 cases f with
 | next =>
  obtain⟨l,m,o,d⟩:=d
  exact kg (o.HF I.ok) C E t λs6 r=>⟨_,m,r,d⟩
 | brk =>
  obtain⟨l,m,o,d⟩:=d
  exact kg (o.HF I.ok) C E t λs6 r=>⟨_,m,r,d⟩
 | cont =>
  obtain⟨l,m,o,d⟩:=d
  exact kg (o.HF I.ok) C E t λs6 r=>⟨_,m,r,d⟩
 | ret u =>
  obtain⟨v,l,m,o,rv,d⟩:=d
  exact kg (o.HF I.ok) C E t λs6 r=>⟨v,_,m,r,rv,d⟩
end L2
namespace PySem
open Sem (wp)
open AutoSeq1 (wpAny_loadPart')
theorem eX(l:Ν)(a:Array Τ)(n:Nat)(m:Option Ν)(o:Array (Option Τ)):
  Meets (Builtin.«enumerate.__new__» ⟨[.type "enumerate",.ref l],[]⟩) (λ_ R s=>s.heap.get? l=Α {cls:=.type "tuple",dict:=m,data:=.seq a n,slots:=o}/\
   R (.ok (.ret (.ref (s.heap.push {cls:=.type "tuple_iterator",data:=.fields #[.ref l,.int 0 0]}).objs.size)))
    {s with heap:=(s.heap.push {cls:=.type "tuple_iterator",data:=.fields #[.ref l,.int 0 0]}).push {cls:=.type "enumerate",data:=.fields #[.none,.bool Ε,.ref s.heap.objs.size,ą 0,.none,.none]}}):=
 .of_wp λi w A R s h=>by
  obtain⟨p,g,d,q,r⟩:=s;obtain⟨b,h⟩:=h
  have j:=sub_enumerate
  have e:Ü.IsTuple (Ψ.heap ⟨p,g,d,q,r⟩) l a:=⟨_,b,Λ,n,Λ⟩
  wp_walk using nE b
  refine wpAny_stack_any λt=>Ϡ ?_
  split
  ·rename_i c _ _ _ _ _
   cases (c == Τ.type "enumerate")
   ·wp_walk using nE b,ű e
    exact⟨_,Λ,h⟩
   ·wp_walk using nE b,ű e
    exact⟨_,Λ,h⟩
  ·wp_walk using nE b,ű e
   exact⟨_,Λ,h⟩
section
variable {prog:Program}{w:Î}{A:Ø}{E:Τ->Ψ->Prop}{s:Ψ}
theorem eY(m:s.heap.IsTuple l items)
  (h:∀a,Ul a (s.heap.objs.size+1) s.heap.objs.size 0 .none->a.IsTupleIter s.heap.objs.size l 0->a.objs.size=s.heap.objs.size+2->
   (∀b o,s.heap.get? b=Α o->a.get? b=Α o)->Q (.ref (s.heap.objs.size+1)) {s with heap:=a}):
  ϣ (Ϣ prog w) A (call (.type "enumerate") [.ref l]) Q E s:=by
 obtain⟨⟨c,p,q,r⟩,t,d,n,e⟩:=m
 replace d:c=.type "tuple":=d
 replace e:q=.seq items n:=e
 subst d e
 refine callType_new F.called_enumerate (by decide) (F.typeCall_enumerate_1 _) (F.newCall_enumerate_1 _) (λf=>F.args_object_init_2 f _) F.entry_enumerate_new
  (eX l items n p r) ⟨t,?_⟩
 have g:(s.heap.push {cls:=.type "tuple_iterator",data:=.fields #[.ref l,.int 0 0]}).objs.size=s.heap.objs.size+1:=size_push ..
 rw[g]
 have j:Ul ((s.heap.push {cls:=.type "tuple_iterator",data:=.fields #[.ref l,.int 0 0]}).push
   {cls:=.type "enumerate",data:=.fields #[.none,.bool Ε,.ref s.heap.objs.size,ą 0,.none,.none]}) (s.heap.objs.size+1) s.heap.objs.size 0 .none:=by
  have:=ϡ (s.heap.push {cls:=.type "tuple_iterator",data:=.fields #[.ref l,.int 0 0]})
   (o:={cls:=.type "enumerate",data:=.fields #[.none,.bool Ε,.ref s.heap.objs.size,ą 0,.none,.none]}) Λ
  rw[g]at this;exact this
 refine⟨⟨_,j,Λ⟩,h _ j ⟨_,Ο _ (ϡ _ Λ),Λ,Λ⟩ (by rw[size_push,g]) λb o x=>Ο _ (Ο _ x)⟩
theorem ia(a:s.heap.IsTupleIter it l i)
  (f:s.heap.IsTuple l items) (g:items[i]?=Α x)
  (h:∀d,d.IsTupleIter it l (i+1)->c0 it s.heap d->Q x {s with heap:=d}):
  ϣ (Ϣ prog w) A (đ (.ref it)) Q E s:=by
 obtain⟨o,c,j,b⟩:=id a
 obtain⟨p,m,_,q,n⟩:=f
 unfold đ
 refine Ξ (R0 (name:=Oc "__next__") a.typeIs ĭ
  (Kd ĭ a.typeIs Mb ?_ (KY _)))
 show ϣ _ _ (field (.ref it) 0 >>=_) _ _ s
 refine Ξ (ğ c b (x:=.ref l) Λ ?_)
 rw[Θ (show ¬((ϭ l == Ú)=Δ) from ϝ)]
 refine Ξ (ğ c b (x:=.int i 0) Λ ?_)
 refine Ξ (wpAny_seqItems m n ?_)
 simp only[Υ,g]
 refine Ξ (ŏ c b (by simp) (Ϡ ⟨x,Λ,Ϡ (h _ ?_ (Ŷ ..))⟩))
 exact⟨_,í _ c (Ģ (ð b _)),(Ww ..).trans j,by
  rw[ð b];simp[ą]⟩
theorem ir(g:A.handled=Β)
  (b:s.heap.IsTupleIter it l i) (j:s.heap.IsTuple l items) (n:items[i]?=Β)
  (p:∀c e,Ü.ExtBut it s.heap c->(∃o,c.get? e=Α o/\o.cls=.type "StopIteration")->E (.ref e) {s with heap:=c}):
  ϣ (Ϣ prog w) A (đ (.ref it)) Q E s:=by
 obtain⟨o,d,t,f⟩:=id b
 obtain⟨u,q,_,v,r⟩:=j
 unfold đ
 refine Ξ (R0 (name:=Oc "__next__") b.typeIs ĭ
  (Kd ĭ b.typeIs Mb ?_ (KY _)))
 show ϣ _ _ (field (.ref it) 0 >>=_) _ _ s
 refine Ξ (ğ d f (x:=.ref l) Λ ?_)
 rw[Θ (show ¬((ϭ l == Ú)=Δ) from ϝ)]
 refine Ξ (ğ d f (x:=.int i 0) Λ ?_)
 refine Ξ (wpAny_seqItems q r ?_)
 simp only[Υ,n]
 refine Ξ (za0 (Ξ (ŏ d f (by simp) ?_)))
 refine Ξ ?_
 simp only[newExc,newTuple]
 refine Ξ (Ő ?_ (by size_fits))
 refine Ξ (m:=firstArgMember _ _) (wpAny_of_eq (a:=Ú) (by first|rfl|(simp only[firstArgMember];rfl)) ?_)
 refine Ő ?_ (by size_fits)
 simp only[raiseNew]
 refine Ξ (wpAny_handled ?_)
 first|rw[show A.in1.handled=Β from g]|rw[g]
 refine Ξ (Ϡ (wpAny_throw ?_))
 exact p _ _ (((Ŷ ..).extBut.push _).push _) ⟨_,ϡ _ Λ,Λ⟩
end
theorem il(g:A.handled=Β)(it l:Ν)(j:l≠it)(a:Array Τ):
  Draws prog w A it [it,l] a.size (λi v=>a[i]?=Α v) (λi h=>h.IsTupleIter it l i/\h.IsTuple l a) where
 live:=λ_ _ b=>let ⟨o,ho,_⟩:=b.1;⟨o,ho⟩
 frame:=λ_ _ _ b c=>⟨b.1.at λo e=>c it (by simp) o e,let ⟨o,ho,r⟩:=b.2;⟨o,c l (by simp) o ho,r⟩⟩
 item:=λi s Q E d b m=>by
  refine ia b.1 b.2 (x:=a[i]) (by simp[d]) λn p f=>?_
  exact m _ n s.toks (by simp[d]) ⟨p,let ⟨o,ho,r⟩:=b.2;⟨o,f.extBut l o j ho,r⟩⟩ f
 done:=λs Q E b q=>ir g b.1 b.2 (by simp) q
end PySem
namespace L2
open PySem PySem.Spec PyProof.Rows
section
variable {X:Cx}{ν:List (Ν×Obj)}{σ:St}{H:Hp}{s:Ψ}
theorem ς.Nr{a b p:Ν}(I:ς X ν σ H s)(x:ik X ν H a)(y:ik X ν H b)(A:s.heap.objs.size<=p)
  (k:∀c o,c≠a->c≠b->s.heap.get? c=Α o->h'.get? c=Α o) (M:∃o,h'.get? a=Α o) (N:∃o,h'.get? b=Α o) (E:xs.length<=ό) (r:τ xs us) (F:Fp h' p us.toArray):
  ς X ν σ (ο H p (.tup xs)) {s with heap:=h',toks:=t'}:=by
 have G:=I.DY.fresh A
 have h:∀c u,H c=Α u->c≠p:=λc u q z=>by rw[z,G]at q;cases q
 have lt:∀c o,s.heap.get? c=Α o->c≠p:=λc o q=>Ã (ϛ (lt_size q) A)
 have ne:∀c,c∉[a,b]->c≠a/\c≠b:=λc g=>by simpa using g
 refine I.call (g':=s.gens) (d':=s.drawn) (ch:=[a,b]) ⟨λc o e n J f=>k c o (ne c f).1 (ne c f).2 e,λc o e n J f=>⟨o.slots,k c o (ne c f).1 (ne c f).2 e⟩,λc o e n f=>by rw[ag (lt c o e)];exact n,
  λc o e f=>⟨o,k c o (ne c f).1 (ne c f).2 e⟩,λc K q=>by rw[ag (h c _ q)];exact q,λc o u q=>by rw[ag (h c _ q)];exact q,λc O q=>⟨#[],by rw[ag (h c _ q),q];simp⟩⟩ (λc u q=>?_) I.bare λc g=>?_
 ·by_cases g:c=p
  ·subst g
   rw[ac]at q
   cases q
   exact⟨E,_,r,F⟩
  ·rw[ag g]at q
   refine(I.DY c u q).EM (λd v i z=>?_) (λd z=>by rw[ag (h d _ z)];exact z) λd K z=>by rw[ag (h d _ z)];exact z
   have C:∀e,H e=Β->d≠e:=λe D w=>by
    rcases i with rfl|i
    ·rw[w,D]at q;cases q
    ·rw[w,D]at i;cases i
   exact k d v (C a x.1) (C b y.1) z
 ·have L:c=a∨c=b:=by simpa using g
  rcases L with rfl|rfl
  ·obtain⟨_,j,_,l,m,t⟩:=x;exact⟨l,j,m,t⟩
  ·obtain⟨_,j,_,l,m,t⟩:=y;exact⟨l,j,m,t⟩
theorem ς.Jl(I:ς X ν σ H s)(p:ik X ν H a)(r:ik X ν H b)
  (k:∀c o,c≠a->c≠b->s.heap.get? c=Α o->h'.get? c=Α o):ς X ν σ H {s with heap:=h',toks:=t'}:=by
 have ne:∀c,c∉[a,b]->c≠a/\c≠b:=λc h=>by simpa using h
 refine I.call (g':=s.gens) (d':=s.drawn) (ch:=[a,b]) ⟨λc o e n A f=>k c o (ne c f).1 (ne c f).2 e,λc o e n A f=>⟨o.slots,k c o (ne c f).1 (ne c f).2 e⟩,λc o e n f=>n,
  λc o e f=>⟨o,k c o (ne c f).1 (ne c f).2 e⟩,λc B q=>q,λc o u q=>q,λc D q=>⟨#[],by rw[q];simp⟩⟩ (λc u q=>?_) I.bare λc h=>?_
 ·refine(I.DY c u q).EM (λd v g z=>?_) (λd z=>z) λd B z=>z
  have x:∀e,H e=Β->d≠e:=λe y w=>by
   rcases g with rfl|g
   ·rw[w,y]at q;cases q
   ·rw[w,y]at g;cases g
  exact k d v (x a p.1) (x b r.1) z
 ·have C:c=a∨c=b:=by simpa using h
  rcases C with rfl|rfl
  ·obtain⟨_,i,_,j,l,m⟩:=p;exact⟨j,i,l,m⟩
  ·obtain⟨_,i,_,j,l,m⟩:=r;exact⟨j,i,l,m⟩
theorem mV{n i:Nat}{xs:List V}
  (D:Draws X.prog X.w X.A.in1 it fp n P Sx) (I:ς X ν σ H s) (m:Ul s.heap e it i a) (t:Sx i s.heap) (K:i<n) (L:e≠it) (d:e∉fp) (M:ik X ν H e) (N:ik X ν H it)
  (O:∀v,P i v->∃x,xs[i]?=Α x/\RelV x v):
  ϣ (Ϣ X.prog X.w) X.A (pyNext (.ref e)) (λr Q=>∃u,r=Α u/\ϣ (Ϣ X.prog X.w) X.A (ţ (.Tuple elts kk pos) (.ref e) u) (λ_ f=>∃p x,xs[i]?=Α x/\H p=Β/\u=.ref p/\
   ς X ν σ (ο H p (.tup [.int i,x])) f/\(∃a,Ul f.heap e it ((i+1:Nat):Int) a)/\Sx (i+1) f.heap/\p≠e/\p≠it) E Q) E s:=by
 refine wpAny_pyNext_enum_itemD D m t K L d λx h' g S T U Y Z hk=>⟨_,Λ,?_⟩
 refine wpAny_letOwnedTupleGo_enum T λB C h=>?_
 obtain⟨y,hy,ry⟩:=O x S
 have F:=lt_size m
 have j:it<s.heap.objs.size:=by obtain⟨_,z⟩:=D.live _ _ t;exact lt_size z
 have G:=D.frame _ _ _ U λb hb o z=>(h.2 b λq=>d (q▸hb)).trans z
 refine⟨_,y,hy,I.DY.fresh (Ρ _),Λ,?_,⟨x,by simpa using C⟩,G,Ĩ F,Ĩ j⟩
 refine ς.Nr (s:=s) (h':=B) (t':=g+1) I M N (Ρ _) (λc o J l z=>(h.2 c J).trans (hk c o J l z)) ⟨_,C⟩ (let ⟨o,z⟩:=D.live _ _ G;⟨o,z⟩) (by show 2<=ό;decide) (us:=[.int i g,x]) (.cons ⟨g,Λ⟩ (.cons ry .nil)) ?_
 exact⟨_,(h.2 _ (Ĩ F)).trans Y,⟨Λ,_,Λ⟩,Λ⟩
end
noncomputable def DK(sq:Hp->List V->Prop):It:=
 ⟨λi H=>∃xs x,sq H xs/\xs[i]?=Α x,λi H v H'=>∃p,H p=Β/\v=.ref p/\∀xs,sq H xs->∃x,xs[i]?=Α x/\H'=ο H p (.tup [.int i,x]),λi H=>∃xs,sq H xs/\xs.length=i⟩
theorem rc{K:ϧ}(a e it:Ν)(Et:e≠it):qP P w K (.Tuple elts kk pos) (DK λH=>DT K H a) [e,it] e (λi h=>(∃f,Ul h e it (i:Int) f)/\h.IsListIter it a i) where
 mem:=by simp
 obj:=λi h j b M=>by
  obtain⟨⟨f,g⟩,o,l,c,d⟩:=j
  have N:b=e∨b=it:=by simpa using M
  rcases N with rfl|rfl
  ·exact⟨_,g,λv z=>by have z':=z;cases z'⟩
  ·exact⟨o,l,λv z=>by rw[d]at z;cases z⟩
 keep:=λi h h' j k=>by
  obtain⟨⟨f,g⟩,m⟩:=j
  exact⟨⟨f,k e (by simp) _ g⟩,m.at λo z=>k it (by simp) o z⟩
 item:=by
  intro X O Q R S i B s σ H E I n j T
  subst O Q R
  obtain⟨xs,x,G,J⟩:=T
  obtain⟨t,L,p,hz⟩:=I.list G
  obtain⟨⟨f,g⟩,m⟩:=j
  have U:i<t.toArray.size:=by
   have:=(gQ0 J)
   have l2:=L.length
   simp;omega
  have TY:e≠a:=by
   rintro rfl
   obtain⟨o,l,C,_⟩:=p.isList
   rw[g]at l;cases l
   injection C with z;exact Κ z (by decide)
  have Y:a≠it:=by
   rintro rfl
   obtain⟨o,l,C,_⟩:=p.isList
   obtain⟨o2,D,F,_⟩:=m
   rw[l]at D;cases D;rw[C]at F
   injection F with z;exact Κ z (by decide)
  refine b8 (mV (xs:=xs) (Draws.list (A:=X.A.in1) (I.ok.hd S) it a Y t.toArray) I g ⟨m,p.isList⟩ U Et (by simp only[ϥ,Õ,or_false,not_or];exact⟨Et,TY⟩) (n e (by simp)) (n it (by simp)) λv hv=>?_) λr s1 ⟨u,hr,h1⟩=>⟨u,hr,b8 h1 λ_ s2 ⟨q,y,hy,W6,Z,I2,KA,K6,n1,n2⟩=>?_⟩
  ·obtain⟨u,Z,ru⟩:=L.get J
   have e1:t[i]?=Α v:=by simpa using hv
   rw[Z]at e1;cases e1
   exact⟨x,J,ru⟩
  ·refine⟨.ref q,_,I2,Z,⟨q,W6,Λ,λzs Nt=>⟨y,by rw[I.Ib Nt G];exact hy,Λ⟩⟩,⟨KA,K6.1⟩,λb M=>?_⟩
   have N:b=e∨b=it:=by simpa using M
   rcases N with rfl|rfl
   ·rw[ag (Ϟ n1)];exact(n b (by simp)).1
   ·rw[ag (Ϟ n2)];exact(n b (by simp)).1
 done:=by
  intro X O Q R S i B s σ H E I n j T
  subst O Q R
  obtain⟨xs,G,J⟩:=T
  obtain⟨t,L,p,hz⟩:=I.list G
  obtain⟨⟨f,g⟩,m⟩:=j
  have U:i=t.toArray.size:=by have l2:=L.length;simp;omega
  have Y:a≠it:=by
   rintro rfl
   obtain⟨o,l,C,_⟩:=p.isList
   obtain⟨o2,D,F,_⟩:=m
   rw[l]at D;cases D;rw[C]at F
   injection F with z;exact Κ z (by decide)
  refine TL (Draws.list (A:=X.A.in1) (I.ok.hd S) it a Y t.toArray) g (by rw[←U];exact⟨m,p.isList⟩) λh' EO=>⟨Λ,?_⟩
  exact I.Jl (t':=s.toks) (n e (by simp)) (n it (by simp)) λc o h1 h2 z=>EO c o h2 z
 self:=λ_ _ _ _ _ j h=>by
  obtain⟨⟨f,g⟩,_⟩:=j
  exact Ž g h
theorem rb{K:ϧ}(a e it:Ν)(Et:e≠it):qP P w K (.Tuple elts kk pos) (DK λH=>Ec K H a) [e,it] e (λi h=>(∃f,Ul h e it (i:Int) f)/\h.IsTupleIter it a i) where
 mem:=by simp
 obj:=λi h j b M=>by
  obtain⟨⟨f,g⟩,o,l,c,d⟩:=j
  have N:b=e∨b=it:=by simpa using M
  rcases N with rfl|rfl
  ·exact⟨_,g,λv z=>by have z':=z;cases z'⟩
  ·exact⟨o,l,λv z=>by rw[d]at z;cases z⟩
 keep:=λi h h' j k=>by
  obtain⟨⟨f,g⟩,n⟩:=j
  exact⟨⟨f,k e (by simp) _ g⟩,n.at λo z=>k it (by simp) o z⟩
 item:=by
  intro X O Q R S i B s σ H E I t j T
  subst O Q R
  obtain⟨xs,x,G,J⟩:=T
  obtain⟨m,L,p,hz⟩:=I.tuple G
  have pt:=p
  obtain⟨⟨f,g⟩,n⟩:=j
  have U:i<m.toArray.size:=by
   have:=(gQ0 J)
   have l2:=L.length
   simp;omega
  have TY:e≠a:=by
   rintro rfl
   obtain⟨o,l,C,_⟩:=pt
   rw[g]at l;cases l
   injection C with z;exact Κ z (by decide)
  have Y:a≠it:=by
   rintro rfl
   obtain⟨o,l,C,_⟩:=pt
   obtain⟨o2,D,F,_⟩:=n
   rw[l]at D;cases D;rw[C]at F
   injection F with z;exact Κ z (by decide)
  refine b8 (mV (xs:=xs) (il (A:=X.A.in1) (I.ok.hd S) it a Y m.toArray) I g ⟨n,pt⟩ U Et (by simp only[ϥ,Õ,or_false,not_or];exact⟨Et,TY⟩) (t e (by simp)) (t it (by simp)) λv hv=>?_) λr s1 ⟨u,hr,h1⟩=>⟨u,hr,b8 h1 λ_ s2 ⟨q,y,hy,W6,Z,I2,KA,K6,n1,n2⟩=>?_⟩
  ·obtain⟨u,Z,ru⟩:=L.get J
   have e1:m[i]?=Α v:=by simpa using hv
   rw[Z]at e1;cases e1
   exact⟨x,J,ru⟩
  ·refine⟨.ref q,_,I2,Z,⟨q,W6,Λ,λzs Nt=>⟨y,by rw[I.Hl Nt G];exact hy,Λ⟩⟩,⟨KA,K6.1⟩,λb M=>?_⟩
   have N:b=e∨b=it:=by simpa using M
   rcases N with rfl|rfl
   ·rw[ag (Ϟ n1)];exact(t b (by simp)).1
   ·rw[ag (Ϟ n2)];exact(t b (by simp)).1
 done:=by
  intro X O Q R S i B s σ H E I t j T
  subst O Q R
  obtain⟨xs,G,J⟩:=T
  obtain⟨m,L,p,hz⟩:=I.tuple G
  have pt:=p
  obtain⟨⟨f,g⟩,n⟩:=j
  have U:i=m.toArray.size:=by have l2:=L.length;simp;omega
  have Y:a≠it:=by
   rintro rfl
   obtain⟨o,l,C,_⟩:=pt
   obtain⟨o2,D,F,_⟩:=n
   rw[l]at D;cases D;rw[C]at F
   injection F with z;exact Κ z (by decide)
  refine TL (il (A:=X.A.in1) (I.ok.hd S) it a Y m.toArray) g (by rw[←U];exact⟨n,pt⟩) λh' EO=>⟨Λ,?_⟩
  exact I.Jl (t':=s.toks) (t e (by simp)) (t it (by simp)) λc o h1 h2 z=>EO c o h2 z
 self:=λ_ _ _ _ _ j h=>by
  obtain⟨⟨f,g⟩,_⟩:=j
  exact Ž g h
section
variable {X:Cx}{elts:List Expr}{kk:Nat}{Ic p pos:Pos}{a:Expr}{ta:TE}
def W7(K:ϧ)(t:TA):TI:=λσ H R=>t σ H λvs H1=>∃a,vs=[.ref a]/\(∃xs,DT K H1 a xs)/\R (DK λH=>DT K H a) H1
def W8(K:ϧ)(t:TA):TI:=λσ H R=>t σ H λvs H1=>∃a,vs=[.ref a]/\(∃xs,Ec K H1 a xs)/\R (DK λH=>Ec K H a) H1
theorem pL(v:Gl X "enumerate")(w:X.mg "enumerate"=Β)(x:PA X [a] t)(y:autoParam (Á [a] X.env=[(Ε,eval a X.env)]) η):PI X (.Tuple elts kk Ic) (.Call (.Name "enumerate" p) [a] [] pos) (W7 X.K t):=by
 intro c s m H R I h
 refine Call_ (i7 I v w boot_enumerate (Ē (b8 (x pos c s m H _ I h) λus d z=>?_) y Λ))
 obtain⟨N,n,i,A,B⟩:=z
 obtain⟨l,e,⟨xs,C⟩,q⟩:=B
 subst e
 cases A with
 | cons r D =>
  cases D
  cases r
  obtain⟨O,P,E,Q⟩:=i.list C
  refine call_enumerate_list E.isList λo u j F G=>?_
  have J:=i.kept (t':=d.toks) G
  refine Ž (s:={d with heap:=o}) u ?_
  refine⟨_,_,_,_,n,Λ,J,rc l _ d.heap.objs.size (Nat.succ_ne_self _),⟨⟨_,u⟩,j⟩,λb L=>?_,q⟩
  have M:b=d.heap.objs.size+1∨b=d.heap.objs.size:=by simpa using L
  have g:d.heap.objs.size<=b:=by
   rcases M with e|e
   ·rw[e];exact Ź _
   ·rw[e];exact Ρ _
  exact i.J6 g (i.DY.fresh g)
theorem pK(v:Gl X "enumerate")(w:X.mg "enumerate"=Β)(x:PA X [a] t)(y:autoParam (Á [a] X.env=[(Ε,eval a X.env)]) η):PI X (.Tuple elts kk Ic) (.Call (.Name "enumerate" p) [a] [] pos) (W8 X.K t):=by
 intro c s m H R I h
 refine Call_ (i7 I v w boot_enumerate (Ē (b8 (x pos c s m H _ I h) λus d z=>?_) y Λ))
 obtain⟨O,n,i,A,B⟩:=z
 obtain⟨l,e,⟨xs,C⟩,q⟩:=B
 subst e
 cases A with
 | cons r D =>
  cases D
  cases r
  obtain⟨E,P,F,Q⟩:=i.tuple C
  refine eY (F) λo u j G J=>?_
  have L:=i.kept (t':=d.toks) J
  refine Ž (s:={d with heap:=o}) u ?_
  refine⟨_,_,_,_,n,Λ,L,rb l _ d.heap.objs.size (Nat.succ_ne_self _),⟨⟨_,u⟩,j⟩,λb M=>?_,q⟩
  have N:b=d.heap.objs.size+1∨b=d.heap.objs.size:=by simpa using M
  have g:d.heap.objs.size<=b:=by
   rcases N with e|e
   ·rw[e];exact Ź _
   ·rw[e];exact Ρ _
  exact i.J6 g (i.DY.fresh g)
end
theorem qi{g:TG}{j:TS}{D:eV}(b:Nat->St->Hp->Prop)(o:b 0 a H)(r:∀i a H,i<=xs.length->b i a H->sq H xs)
  (s:∀i x p a H,xs[i]?=Α x->b i a H->H p=Β->g (.ref p) a (ο H p (.tup [.int i,x])) λc h=>j {D with nx:=b (i+1),ct:=b (i+1),bk:=D.nx} c h) (u:∀a H,b xs.length a H->D.nx a H):
  ∃W:Nat->Nat->St->Hp->Prop,(∃m,W 0 m a H)/\∀i m a H,W i m a H->
   ((DK sq).stop i H/\D.nx a H)∨((DK sq).go i H/\∃N:St->Hp->Prop,(∀d f,N d f->∃l,l<m/\W (i+1) l d f)/\∀x f,(DK sq).K5 i H x f->g x a f λc h=>j {D with nx:=N,ct:=N,bk:=D.nx} c h):=by
 refine⟨λi m a H=>m=xs.length - i/\i<=xs.length/\b i a H,⟨xs.length,by simp,Ϧ _,o⟩,?_⟩
 rintro i m a H ⟨rfl,v,p⟩
 have q:=r i a H v p
 by_cases n:i<xs.length
 ·refine .inr ⟨⟨xs,xs[i],q,by simp[n]⟩,b (i+1),λd f w=>⟨xs.length - (i+1),by omega,Λ,n,w⟩,λx f y=>?_⟩
  obtain⟨z,A,rfl,B⟩:=y
  obtain⟨C,E,e⟩:=B xs q
  subst e
  exact s i C z a H E p A
 ·have e:i=xs.length:=by omega
  subst e
  exact .inl ⟨⟨xs,q,Λ⟩,u a H p⟩
def Ho(d:ġ)(m:Nat):Prop:=d.canLay0=Δ/\d.depth<=m
theorem Ho.shaped(h:Ho d m)(a:m<=64):Ś d=Δ:=by
 unfold Ś
 rw[h.1,Ζ (À h.2 a)];rfl
theorem fj(i:Int):Ho (.int i) 0:=⟨by simp[gS],by simp[q5]⟩
theorem nX:∀{ds:List ġ},(∀d∈ds,Ho d m)->q7 ds=Δ/\ź ds<=m
 |[],_=>⟨by simp[q7],by simp[ź]⟩
 | d:: r,h=>by
  obtain⟨a,b⟩:=nX (ds:=r) λz f=>h z (ϟ _ f)
  obtain⟨c,e⟩:=h d ώ
  exact⟨by simp[q7,c,a],by simp only[ź];omega⟩
theorem kJ(h:∀d∈ds,Ho d m):Ho (.list ds) (m+1):=by
 obtain⟨a,b⟩:=nX h
 exact⟨by simp[gS,a],by simp only[q5];exact Ð ‹_›⟩
theorem m6(h:∀d∈ds,Ho d m):Ho (.tuple ds) (m+1):=by
 obtain⟨a,b⟩:=nX h
 exact⟨by simp[gS,a],by simp only[q5];exact Ð ‹_›⟩
theorem neS{K:ϧ}(a:pe K H x d)(b:pe K H y d)(s:Ho d 64)(q:Q (.bl Ε) H):Cp K x y H Q:=
 ⟨d,d,a,b,s.shaped (Ρ _),s.shaped (Ρ _),by rw[SeqAt.eqv_refl d s.1];exact q⟩
theorem Ho.le(h:Ho d m)(l:m<=n):Ho d n:=⟨h.1,À h.2 l⟩
end L2
namespace L2
open PySem
theorem lA(p:Nat->Bool)(f:Nat->V)(z:n<ό)
  (q:∀(i:Nat)(acc:List V)(N:List V->Hp->Prop),i<n->N (if p i then acc++[f i] else acc) H->g (.int (lo+i)) σ0 H λc a=>tt c a λb d=>if b=Δ then te c d λy r=>N (acc++[y]) r else N acc d)
  (s:∀D,H D=Β->Q (.ref D) (ο H D (.π (((ϋ n).filter p).map f)))):
  dM (AT lo n) g tt te σ0 Q H:=by
 refine⟨λi m acc j=>m=n - i/\i<=n/\j=H/\acc=((ϋ i).filter p).map f,⟨n,by simp,Ϧ _,Λ,Λ⟩,?_⟩
 rintro i m acc j ⟨rfl,A,rfl,rfl⟩
 have t:(((ϋ i).filter p).map f).length<ό:=by
  rw[ϊ]
  have:=Æ p (ϋ i)
  rw[ã]at this
  omega
 refine⟨t,?_⟩
 by_cases l:i<n
 ·refine .inr ⟨l,λh a=>a=j/\h=((ϋ (i+1)).filter p).map f,λh a u=>by obtain⟨v,w⟩:=u;exact⟨_,by omega,Λ,l,v,w⟩,λx a y=>?_⟩
  obtain⟨e,y⟩:=y
  subst e y
  refine q i _ (λh d=>d=a/\h=((ϋ (i+1)).filter p).map f) l ⟨Λ,?_⟩
  rw[ē,ë]
  cases o:p i with
  |true=>simp[o]
  |false=>simp[o]
 ·have e:i=n:=by omega
  subst e
  exact .inl ⟨Ρ _,s⟩
theorem gK(p:V->Bool)(f:V->V)(B:xs.length<ό)(l:DT K H a xs)
  (u:∀(x:V)(acc:List V)(N:List V->Hp->Prop),x∈xs->N (if p x then acc++[f x] else acc) H->g x σ0 H λd c=>tt d c λb h=>if b=Δ then te d h λy v=>N (acc++[y]) v else N acc h)
  (w:∀D,H D=Β->Q (.ref D) (ο H D (.π ((xs.filter p).map f)))):
  dM (vJ K a) g tt te σ0 Q H:=by
 refine⟨λi m acc n=>m=xs.length - i/\i<=xs.length/\n=H/\acc=((xs.take i).filter p).map f,⟨xs.length,by simp,Ϧ _,Λ,Λ⟩,?_⟩
 rintro i m acc n ⟨rfl,C,rfl,rfl⟩
 have z:(((xs.take i).filter p).map f).length<ό:=by
  rw[ϊ]
  have o:=Æ p (xs.take i)
  have q:=ć i xs
  omega
 refine⟨z,?_⟩
 by_cases r:i<xs.length
 ·refine .inr ⟨⟨xs,xs[i],l,by simp[r]⟩,λj c=>c=n/\j=((xs.take (i+1)).filter p).map f,λj c A=>by obtain⟨o,q⟩:=A;exact⟨_,by omega,Λ,r,o,q⟩,λx c y=>?_⟩
  obtain⟨e,y⟩:=y
  subst e
  have s:=y xs l
  refine u x _ (λj h=>h=c/\j=((xs.take (i+1)).filter p).map f) (Ϙ s) ⟨Λ,?_⟩
  rw[ä,s,ë]
  cases t:p x with
  |true=>simp[t]
  |false=>simp[t]
 ·have e:i=xs.length:=by omega
  subst e
  rw[â]
  exact .inl ⟨⟨xs,l,Ρ _⟩,w⟩
theorem kd(k:Int):∀a:List Int,Bo (.int k) (a.map V.int)=decide (k∈a)
 |[]=>by simp[Bo]
 | n:: r=>by
  have b:=kd k r
  unfold Bo at b⊢
  rw[Ϭ,r4,b]
  show((n == k)||decide (k∈r))=decide (k∈n:: r)
  by_cases h:k=n
  ·subst h;simp
  ·have c:¬n=k:=λz=>h z.symm
   simp[h,c]
theorem hZ:∀a:List Int,(a.map V.int).all io=Δ
 |[]=>rfl
 |n:: r=>by rw[Ϭ,Ye,hZ r];rfl
open PySem.Spec PyProof.Rows
section
open PySem.W
variable {prog:Program}{w:Î}{A:Ø}{E:Τ->Ψ->Prop}{s:Ψ}{K:ϧ}{x C:Ν}{name:Str}{v:Τ}
theorem wK(X:K.In s.heap)(e:s.heap.get? x=Α ⟨.ref C,Α d,.fields vs,#[]⟩)(f:s.heap.Ns1 d mA)(m:PySem.Within mA ns)(N:ns.length<ό)(c:qO K C)(n:Ë K (.ref C) name=Α Β)
  (h:∀a o,a.Ns1 d (λy=>if y=name then Α v else mA y)->(∀b,b≠d->a.get? b=s.heap.get? b)->Q () {s with heap:=a,toks:=o}):
  ϣ (Ϣ prog w) A (setAttr (.ref x) name v) Q E s:=by
 obtain⟨p,O,P,j,R⟩:=id f
 have I:PySem.W.InstAt s.heap x ⟨.ref C,Α d,.fields vs,#[]⟩ C (Α p):=⟨e,Λ,Λ,j⟩
 refine PySem.W.set_plain X I c.sa (tZ (s:={s with toks:=s.toks+1}) X I c.mro n λb=>?_)
 obtain⟨S,q,r⟩:=PySem.W.any_some c.hd
 obtain⟨u,g,z,t,B⟩:=s
 dsimp only at X e h I f j⊢
 refine Ξ (Ϡ (Ξ (Ξ (ND e (Ξ (PySem.W.Looks.here (s:=⟨u,g,z,t+1,B⟩) (PySem.W.looks_clsIn X q) ?_))))))
 rw[r]
 rw[Θ (by decide)]
 dsimp only
 refine Ϡ ?_
 unfold ŷ Ÿ
 refine Ξ (Ϡ (Ξ (TQ f λa l D=>?_)))
 obtain⟨T,F,G,H,J,L⟩:=l.count (Within.cons name v m)
 refine Ξ (JZ H (by rw[J];exact Kr (À L (by rw[ï];exact ĥ ‹_›))) ?_)
 exact Ϡ (h a _ l λb M=>D.2 b M)
end
def Qr(d:Ν)(fs:List (Str×V)):Ü->Prop:=λh=>∃mA,h.Ns1 d mA/\∀f,EL (fs.lookup f) (mA f)
theorem Bz(x:Qr d fs h):Ek P w H h d (.ext (Qr d fs)):=by
 refine⟨x,?_,λi j ⟨b,⟨a,f,g,e,c⟩,r⟩ k=>⟨b,⟨a,f,g,k _ e,c⟩,r⟩⟩
 obtain⟨b,⟨a,f,g,e,c⟩,r⟩:=x
 exact⟨a,e⟩
inductive Uap(K:ϧ)(f:Str)(D:eV)(σ:St)(y:V)(x:V)(H2:Hp):Prop
 |mk (a C tt)(_:x=.ref a)(_:H2 a=Α (jk a C tt Β))(_:qO K C)(_:Ë K (.ref C) f=Α Β)(_:∀d,H2 d=Β->D.nx σ (ο (ο H2 d (.ext (Qr d [(f,y)]))) a (jk a C tt (Α d))))
def Ch(K:ϧ)(ta tv:TE)(f:Str):TS:=λD σ H=>tv σ H λy H1=>ta σ H1 λx H2=>Uap K f D σ y x H2
inductive Uaq(K:ϧ)(f:Str)(D:eV)(σ:St)(y:V)(x:V)(H2:Hp):Prop
 |mk (a C tt d fs)(_:x=.ref a)(_:H2 a=Α (jk a C tt (Α d)))(_:H2 d=Α (.ext (Qr d fs)))(_:fs.length<1000)(_:qO K C)(_:Ë K (.ref C) f=Α Β)(_:D.nx σ (ο H2 d (.xd (aS f y fs))))
def Cg(K:ϧ)(ta tv:TE)(f:Str):TS:=λD σ H=>tv σ H λy H1=>ta σ H1 λx H2=>Uaq K f D σ y x H2
section
variable {X:Cx}{o e value:Expr}{f:Str}{pos pos':Pos}{ta tv:TE}
theorem xv(O:PE X o ta)(P:PE X value tv)(Q:Ř value (Α (.Attribute o f pos')) pos.line X.env=pure Ε):PS X (.Assign [.Attribute o f pos'] value pos) (Ch X.K ta tv f):=by
 intro i s A H D I h
 refine Ŗ (b8 (P i s A H _ I h) λu R ⟨y,S,T,U,q⟩=>b8 (O i R A S _ T q) λY d Z=>?_) Q
 obtain⟨x,H2,p,rx,a,C,tt,ex,G,c,n,q2⟩:=Z
 subst ex
 obtain rfl:Y=ϭ a:=rx
 have J:=(p.DY a _ G).1
 have Eo:=lt_size J
 refine wL p.EY J c n λh' t' L M hk=>⟨A,_,?_,q2 d.heap.objs.size (p.DY.fresh (Ρ _))⟩
 obtain⟨j,es,ep,F,r⟩:=id M
 have J9:=(Ü.get?_some_iff.mp F).2
 have N:=ϡ d.heap J9
 have I3:=p.laid (a:=d.heap.objs.size) (o:=.ext (Qr d.heap.objs.size [(f,y)])) (h':=d.heap.push j) (t':=d.toks) (λb u z=>Ο _ z) (Ρ _)
  (Bz ⟨_,M.at (λo z=>by rw[F]at z;cases z;exact N),λg=>by
   by_cases t:g=f
   ·have l:=beq_iff_eq.mpr t
    simp only[Ę,l,Ι t]
    exact U
   ·have l:=beq_eq_false_iff_ne.mpr t
    simp only[Ę,l,Θ t]
    trivial⟩)
 have Et:=Ã Eo
 refine I3.write (x:=a) (e:=a) (h':=h') (t':=t') (by rw[ag Et,G];exact Ê) (.inl Λ) (λb u l z=>?_) ⟨_,L⟩ (qm L)
 by_cases m:b=d.heap.objs.size
 ·subst m
  have v:=z
  rw[N]at v
  cases v
  exact F
 ·have v:d.heap.get? b=Α u:=by
   have z0:=z
   exact(Ü.get?_push_cases z0).elim (λw=>Κ w.1 m) λw=>w
  exact hk b u l v
theorem xt(J:PE X o ta)(L:PE X value tv)(M:Ř value (Α (.Attribute o f pos')) pos.line X.env=pure Ε):PS X (.Assign [.Attribute o f pos'] value pos) (Cg X.K ta tv f):=by
 intro i s m H D I h
 refine Ŗ (b8 (L i s m H _ I h) λu N ⟨y,O,P,Q,q⟩=>b8 (J i N m O _ P q) λR S T=>?_) M
 obtain⟨x,H2,j,U,a,C,Y,d,fs,Z,ea,ed,Ln,c,n,q2⟩:=T
 subst Z
 obtain rfl:R=ϭ a:=U
 have ho:=(j.DY a _ ea).1
 obtain⟨⟨v,hn,w⟩,_⟩:=j.DY d _ ed
 have hw:=λg hg=>by
  have r:=w g
  cases A:fs.lookup g with
  | none=>rw[A]at r;cases B:v g with
   |none=>exact Κ B hg
   |some z=>rw[B]at r;exact r.elim
  | some z =>
   have:∀{l:List (Str×V)},l.lookup g=Α z->g∈l.map (·.1):=by
    intro l
    induction l with
    |nil=>intro h;cases h
    | cons p l ih =>
     intro h
     rw[Ϭ,ϥ]
     by_cases e:g=p.1
     ·exact .inl e
     ·have t:=beq_eq_false_iff_ne.mpr e
      obtain⟨p1,p2⟩:=p
      simp only[Ę,t]at h
      exact .inr (ih h)
   exact this A
 refine wK j.EY ho hn hw (by rw[ϊ,Ω];omega) c n λh' t' G hk=>⟨m,_,?_,q2⟩
 refine j.write (x:=d) (e:=d) (h':=h') (t':=t') (by rw[ed];exact Ê) (.inl Λ) (λb u t z=>?_) ?_ ⟨_,G,λg=>?_⟩
 ·exact(hk b t).trans z
 ·obtain⟨od,_,_,K8,_⟩:=G
  exact⟨_,K8⟩
 ·rw[gB]
  by_cases e:g=f
  ·rw[Ι e];simp only[Ι e];exact Q
  ·rw[Θ e];simp only[Θ e];exact w g
end
end L2
namespace L2
open PySem
noncomputable def uw:Option Int->Τ->Bool
 |none,v=>v == .none
 |some k,v=>Ė k v
noncomputable def zD:Option Int->Int
 |none=>4238894112
 |some k=>hashInt k
theorem cz(h:uw k v=Δ):(k=Β/\v=.none)∨∃i t,k=Α i/\v=.int i t:=by
 cases k with
 |none=>exact .inl ⟨Λ,TF h⟩
 |some i=>obtain⟨t,e⟩:=R1 h;exact .inr ⟨i,t,Λ,e⟩
section
variable {prog:Program}{w:Î}{A:Ø}{E:Τ->Ψ->Prop}{s:Ψ}
theorem vt(h:Q 4238894112 {s with toks:=s.toks+1}):ϣ (Ϣ prog w) A (pyHash .none) Q E s:=by
 have a:s.TypeIs .none "NoneType":=rfl
 unfold pyHash
 have c:[Ú].any Τ.onHeap=Ε:=rfl
 refine Ξ ?_
 rw[cRoomFor,Θ (by rw[c];exact ϝ)];refine Ϡ ?_
 refine Ξ (Mn a ś.lookup ?_)
 rw[Θ (by rw[beq_builtin_none];exact ϝ)]
 refine Ξ (Mn a ś.lookup ?_)
 refine Ξ (wpAny_callSpecialIfBoundUnlessNone?_slot a ś (Kd ś a F.entry_NoneType_hash
  (wpAny_ret_mkInt ?_) (F.args_NoneType_hash_1 _)))
 exact Ϡ h
theorem Dn(c:uw a u=Δ)(d:uw b v=Δ)(h:Q (decide (a=b)) s):ϣ (Ϣ prog w) A (PySem.eqBool u v) Q E s:=by
 rcases cz c with ⟨rfl,rfl⟩|⟨i,t,rfl,rfl⟩<;>rcases cz d with ⟨rfl,rfl⟩|⟨j,f,rfl,rfl⟩
 ·unfold eqBool
  refine ď ?_
  refine wpAny_ite_split (λ_=>Ξ (za0 (Ϡ (by simpa using h)))) (λn=>Κ Λ n)
 ·exact PySem.SeqAt.EqAt.none_int j f prog w E Q (by simpa using h)
 ·exact PySem.SeqAt.EqAt.int_none i t prog w E Q (by simpa using h)
 ·refine Kb ?_
  have e:(i == j)=decide (Α i=Α j):=by
   by_cases q:i=j
   ·simp[q]
   ·simp[q]
  rw[e];exact h
end
noncomputable def gQ(prog:Program)(w:Î):KeyKind prog w (Option Int) where
 is:=uw
 hash:=zD
 inj:=λv a b ha hb=>by
  rcases cz ha with ⟨rfl,rfl⟩|⟨i,t,rfl,rfl⟩<;>rcases cz hb with ⟨rfl,e⟩|⟨j,t',rfl,e⟩
  ·rfl
  ·cases e
  ·cases e
  ·cases e;rfl
 byValue:=λk v h=>by
  rcases cz h with ⟨_,rfl⟩|⟨i,t,_,rfl⟩<;>rfl
 pyHash:=λ{A E s k v Q} hv h=>by
  rcases cz hv with ⟨rfl,rfl⟩|⟨i,t,rfl,rfl⟩
  ·exact vt h
  ·exact wpAny_pyHash_int h
 eqBool:=λhu hv h=>Dn hu hv h
 «strs»:=λk x t v h=>by
  rcases cz h with ⟨_,e⟩|⟨i,t,_,e⟩<;>cases e
open PySem.Spec PyProof.Rows
abbrev bJ:=List (Option Int)
noncomputable def vG:Option Int->V
 |none =>.Eh
 |some i =>.int i
abbrev fT:=bJ×Ν×V
abbrev lJ(p:fT)(q:bJ×Ν×Τ):Prop:=p.1=q.1/\p.2.1=q.2.1/\RelV p.2.2 q.2.2
def DN(P:Program)(w:Î)(a:Ν)(kvs:List fT):Ü->Prop:=λh=>kvs.length<=ό/\(a == ü)=Ε/\∃xs,Paired lJ kvs xs/\
 ∃o es ep,h.get? a=Α o/\o.ExactDict/\o.data=.dict es ep/\es.toList=xs.map (entryOfKey (Ŋ (gQ P w)))/\(xs.map (·.1)).Nodup
noncomputable def lK(P:Program)(w:Î)(a:Ν)(kvs:List fT):HO:=.ext (DN P w a kvs)
def E4(P:Program)(w:Î)(H:Hp)(a:Ν)(kvs:List fT):Prop:=H a=Α (lK P w a kvs)/\∀x∈kvs,H x.2.1=Α (.tup (x.1.map vG))
theorem E4.same(h:E4 P w H a kvs)(s:DP H H'):E4 P w H' a kvs:=⟨s _ _ h.1,λx b=>s _ _ (h.2 x b)⟩
noncomputable def cG(kvs:List fT)(k:bJ):Option V:=(kvs.find? λx=>decide (x.1=k)).map (·.2.2)
noncomputable def uR(k:bJ)(v:V)(x:fT):fT:=if x.1=k then (x.1,x.2.1,v) else x
noncomputable def ig(kvs:List fT)(k:bJ)(b:Ν)(v:V):List fT:=if (cG kvs k).isSome then kvs.map (uR k v) else kvs++[(k,b,v)]
theorem kE:cG [] k=Β:=rfl
theorem cE:cG (x:: kvs) k=if x.1=k then Α x.2.2 else cG kvs k:=by
 unfold cG
 rw[Ĕ]
 by_cases h:x.1=k
 ·rw[Ζ h,Ι h];rfl
 ·rw[Η h,Θ h]
theorem vK:cG (a.map (uR k v)) k'=if k'=k then (cG a k).map (λ_=>v) else cG a k':=by
 induction a with
 |nil=>rw[map_nil,kE,kE];split<;>rfl
 | cons x a c =>
  rw[Ϭ,cE,c,cE,cE]
  unfold uR
  by_cases h:x.1=k<;>by_cases b:k'=k
  ·have:x.1=k':=h.trans b.symm
   simp[h,b]
  ·have:¬x.1=k':=λz=>b (z.symm.trans h)
   rw[Ι h,Θ b,Θ this,Θ this,Θ b]
  ·subst b
   simp[h]
  ·simp[h,b]
theorem pf(h:cG a k=Β):cG (a++[(k,b,v)]) k'=if k'=k then Α v else cG a k':=by
 induction a with
 | nil =>
  rw[List.nil_append,cE,kE]
  by_cases e:k'=k
  ·rw[Ι e,Ι e.symm]
  ·rw[Θ e,Θ (Ϟ e)]
 | cons x a d =>
  rw[cE]at h
  by_cases c:x.1=k
  ·rw[Ι c]at h;cases h
  ·rw[Θ c]at h
   rw[List.cons_append,cE,d h,cE]
   by_cases e:k'=k
   ·subst e;rw[Θ c,Ι Λ,Ι Λ]
   ·rw[Θ e,Θ e]
theorem kD:cG (ig kvs k b v) k'=if k'=k then Α v else cG kvs k':=by
 unfold ig
 cases h:cG kvs k with
 |none=>rw[Θ (by simp)];exact pf h
 | some u =>
  rw[Ι (by simp),vK,h];rfl
theorem gh:(ig kvs k b v).length<=kvs.length+1:=by
 unfold ig
 split
 ·rw[ϊ];exact Ź _
 ·rw[ϗ];exact Ρ _
theorem m8{F:bJ->Ν->Prop}(h:∀x∈kvs,F x.1 x.2.1)(d:F k b):∀x∈ig kvs k b v,F x.1 x.2.1:=by
 intro x a
 unfold ig at a
 split at a
 ·obtain⟨y,c,rfl⟩:=Ö.mp a
  unfold uR
  split
  ·exact h y c
  ·exact h y c
 ·rcases ϯ.mp a with q|q
  ·exact h x q
  ·rw[ϙ.mp q];exact d
theorem oO(r:Paired lJ kvs xs)(k:bJ):EL (cG kvs k) ((Io xs k).map (·.2)):=by
 induction r with
 |nil=>exact Ê
 | @cons p q _ _ h1 _ ih =>
  rw[cE]
  unfold Io at ih⊢
  rw[Ĕ]
  by_cases e:p.1=k
  ·rw[Ι e,Ζ (h1.1.symm.trans e)];exact h1.2.2
  ·rw[Θ e,Η (λz=>e (h1.1.trans z))];exact ih
theorem jD(r:EL o u):o.isSome=u.isSome:=by
 cases o<;>cases u<;>first|rfl|exact r.elim
theorem uQ(h:EL o u)(a:RelV d r):RelV (o.getD d) (u.getD r):=by
 cases o<;>cases u<;>first|exact a|exact h|exact h.elim
theorem AC(r:Paired lJ kvs xs)(a:RelV v u):Paired lJ (kvs.map (uR k v)) (xs.map (putAt k u)):=by
 induction r with
 |nil=>exact .nil
 | @cons p q _ _ h1 _ ih =>
  refine .cons ?_ ih
  unfold uR putAt
  by_cases e:p.1=k
  ·rw[Ι e,Ι (h1.1.symm.trans e)];exact⟨h1.1,h1.2.1,a⟩
  ·rw[Θ e,Θ (λz=>e (h1.1.trans z))];exact h1
theorem y1(r:Paired lJ kvs xs)(h:lJ p q):Paired lJ (kvs++[p]) (xs++[q]):=by
 induction r with
 |nil=>exact .cons h .nil
 |cons a _ b=>exact .cons a b
theorem AB(r:Paired lJ kvs xs)(a:RelV v u):Paired lJ (ig kvs k b v) (storedH xs k b u):=by
 have h:=jD (oO r k)
 rw[Ğ]at h
 unfold ig storedH
 rw[h]
 split
 ·exact AC r a
 ·exact y1 r ⟨Λ,Λ,a⟩
section
variable {P:Program}{w:Î}{H:Hp}{h:Ü}{a b:Ν}{kvs:List fT}{k:bJ}
theorem ju:∀{k:bJ}{us:List Τ},τ (k.map vG) us->ItemsAre (gQ P w) k us
 |[],_,.nil =>.nil
 |none:: _,_,.cons r t =>.cons (by have e:=r;subst e;rfl) (ju t)
 |some i:: _,_,.cons r t =>.cons (by obtain⟨c,e⟩:=(r);subst e;exact beq_self_eq_true i) (ju t)
theorem jS(ok:Fx P w H h)(e:H b=Α (.tup (k.map vG))):(Ŋ (gQ P w)).is h k b:=by
 obtain⟨_,c,r,o,d,⟨f,n,g⟩,_⟩:=ok _ _ e
 exact⟨o,_,n,d,f,g,ju r⟩
theorem k4(ok:Fx P w H h)(e:E4 P w H a kvs):kvs.length<=ό/\(a == ü)=Ε/\∃xs,Paired lJ kvs xs/\h.DictOfH (Ŋ (gQ P w)) a xs:=by
 obtain⟨e,g⟩:=e
 obtain⟨⟨z,i,xs,r,o,j,l,d,m,n,s,t⟩,_⟩:=ok _ _ e
 refine⟨z,i,_,r,o,j,l,d,m,n,s,?_,t⟩
 have all:∀{kvs:List fT}{xs:List (bJ×Ν×Τ)},Paired lJ kvs xs->(∀x∈kvs,H x.2.1=Α (.tup (x.1.map vG)))->∀x∈xs,(Ŋ (gQ P w)).is h x.1 x.2.1:=by
  intro kvs xs r
  induction r with
  |nil=>intro _ x c;cases c
  | @cons p q _ _ d _ ih =>
   intro f x c
   rcases ϥ.mp c with rfl|c
   ·have:=f p ώ
    rw[d.1,d.2.1]at this
    exact jS ok this
   ·exact ih (λy u=>f y (ϟ _ u)) x c
 exact all r g
theorem mX(d e:Ü)(p:DN P w a kvs d)(f:∀o,d.get? a=Α o->e.get? a=Α o):DN P w a kvs e:=by
 obtain⟨z,g,xs,r,o,i,j,q,c⟩:=p
 exact⟨z,g,_,r,o,i,j,f _ q,c⟩
theorem y4(c:ü<h.objs.size):Ek P w H (h.push {cls:=.type "dict",data:=.dict #[]}) h.objs.size (lK P w h.objs.size []):=
 ⟨⟨Ϧ _,beq_eq_false_iff_ne.mpr (Ϟ (Ã c)),[],.nil,_,#[],0,ϡ _ Λ,⟨Λ,Λ,Λ⟩,Λ,Λ,ĺ⟩,⟨_,ϡ _ Λ⟩,λ_ _=>mX _ _⟩
end
def AQ(P:Program)(w:Î)(H:Hp)(a:Ν)(y:V)(r:Option V):Prop:=∃kvs k b,E4 P w H a kvs/\y=.ref b/\H b=Α (.tup (k.map vG))/\r=cG kvs k
section
variable {X:Cx}{ν:List (Ν×Obj)}{σ:St}{H:Hp}{s:Ψ}{a b:Ν}{y v d:V}{u r:Τ}{o:Option V}{A:Ø}{E:Τ->Ψ->Prop}
theorem DA(I:ς X ν σ H s):ü<s.heap.objs.size:=
 hH (by decide) ((I.mod.glob.keeps I.bk).lt)
theorem W9(i:A.units+1<ŋ)(I:ς X ν σ H s)(g:AQ X.prog X.w H a y o)(j:RelV y u)(h:∀f,ς X ν σ H f->Q (.bool o.isSome) f):
  ϣ (Ϣ X.prog X.w) A (compareOp .In u (.ref a)) Q E s:=by
 obtain⟨l,k,b,e,rfl,m,rfl⟩:=g
 cases (j)
 obtain⟨_,n,xs,c,p⟩:=k4 I.DY e
 refine wpAny_in_heap (Ą i) (jS I.DY m) n p ?_
 have q:=jD (oO c k)
 rw[Ğ]at q
 rw[←q]
 exact h _ (I.tok _)
theorem CQ(l:A.units+1<ŋ)(I:ς X ν σ H s)(g:AQ X.prog X.w H a y o)(m:RelV y u)(rd:RelV d r)(h:∀f i,ς X ν σ H i->RelV (o.getD d) f->Q f i):
  ϣ (Ϣ X.prog X.w) A (call (.builtin "dict.get") [.ref a,u,r]) Q E s:=by
 obtain⟨n,k,b,e,rfl,p,rfl⟩:=g
 cases (m)
 obtain⟨_,q,xs,c,j⟩:=k4 I.DY e
 exact call_meetsIn PySem.F.slot_dict_get j.typeIs PySem.F.entry_dict_get (PySem.F.args_dict_get_3 _ _ _) (meetsH_dict_get_default (Ŋ (gQ X.prog X.w)) a b q r)
  ⟨Ą l,k,xs,jS I.DY p,j,h _ _ (I.tok _) (uQ (oO c k) rd)⟩
theorem Qs(j:A.units+1<ŋ)(I:ς X ν σ H s)(e:E4 X.prog X.w H a kvs)(l:H b=Α (.tup (k.map vG)))(m:kvs.length<ό)(n:RelV v r)
  (h:∀i,ς X ν σ (ο H a (lK X.prog X.w a (ig kvs k b v))) i->Q () i):ϣ (Ϣ X.prog X.w) A (setItem (.ref a) (.ref b) r) Q E s:=by
 obtain⟨z,p,xs,f,t⟩:=k4 I.DY e
 have B:xs.length<=ό:=by rw[←Paired.length f];exact z
 have C:(ig kvs k b v).length<=ό:=À gh m
 refine ZA (hsz:=B) (Ą j) (jS I.DY l) t λP D F=>h _ ?_
 obtain⟨q,G,J,g,K,L,M,_,N⟩:=D
 exact I.write (x:=a) (e:=a) (by rw[e.1];exact Ê) (.inl Λ) (λc q O z=>(F.2 c O).trans z) ⟨q,g⟩
  ⟨⟨C,p,_,AB f n,q,G,J,g,K,L,M,N⟩,⟨q,g⟩,λ_ _=>mX _ _⟩
theorem vy(I:ς X ν σ H s)(e:E4 X.prog X.w H a kvs):s.TypeIs (.ref a) "dict"/\∀b,ϭ a=.ref b->∃c,s.heap.get? b=Α c/\c.dict=Β:=by
 obtain⟨_,_,xs,_,f⟩:=k4 I.DY e
 refine⟨f.typeIs,λb q=>?_⟩
 cases q
 obtain⟨c,_,_,g,h,_⟩:=f
 exact⟨c,g,h.2.1⟩
end
def vQ(P:Program)(w:Î):TE:=λ_ H Q=>∀p,H p=Β->Q (.ref p) (ο H p (lK P w p []))
inductive Uar(P:Program)(w:Î)(Q:VK)(y:V)(x:V)(H2:Hp):Prop
 |mk (a o)(_:x=.ref a)(_:AQ P w H2 a y o)(_:Q (.bl o.isSome) H2)
def WA(P:Program)(w:Î)(ty td:TE):TE:=λσ H Q=>ty σ H λy H1=>td σ H1 λx H2=>Uar P w Q y x H2
inductive Uas(P:Program)(w:Î)(D:eV)(σ:St)(v:V)(x:V)(y:V)(H3:Hp):Prop
 |mk (a kvs k b)(_:x=.ref a)(_:E4 P w H3 a kvs)(_:y=.ref b)(_:H3 b=Α (.tup (k.map vG)))(_:kvs.length<ό)(_:D.nx σ (ο H3 a (lK P w a (ig kvs k b v))))
def Qt(P:Program)(w:Î)(td ty tv:TE):TS:=λD σ H=>tv σ H λv H1=>td σ H1 λx H2=>ty σ H2 λy H3=>Uas P w D σ v x y H3
inductive Uat(P:Program)(w:Î)(t:TA)(σ:St)(Q:VK)(x:V)(H1:Hp):Prop
 |mk (a kvs)(_:x=.ref a)(_:E4 P w H1 a kvs)(_:t σ H1 λxs H2=>∃y z o,xs=[y,z]/\AQ P w H2 a y o/\Q (o.getD z) H2)
def BE(P:Program)(w:Î)(td:TE)(t:TA):TE:=λσ H Q=>td σ H λx H1=>Uat P w t σ Q x H1
section
variable {X:Cx}{o i e f value:Expr}{pos pos' apos Fc:Pos}{td ty tv tx:TE}
theorem tW:PE X (.Dict [] [] pos) (vQ X.prog X.w):=λb s c H Q I h =>
 wpAny_Dict_empty ⟨.ref s.heap.objs.size,_,I.laid (a:=s.heap.objs.size) (o:=lK X.prog X.w s.heap.objs.size []) (t':=s.toks) (λ_ _ q=>Ο _ q) (Ρ _) (y4 (DA I)),Λ,h _ (I.DY.fresh (Ρ _))⟩
theorem Cw(d:X.A.units+1<ŋ)(j:PE X i ty)(l:PE X o td):PC X .In i o (WA X.prog X.w ty td):=by
 intro b s c H Q I h
 refine b8 (j b s c H _ I h) λG m ⟨y,n,p,q,r⟩=>b8 (l b m c n _ p r) λu J t=>?_
 obtain⟨x,v,z,B,a,C,D,g,E⟩:=t
 subst D
 obtain rfl:u=ϭ a:=B
 exact W9 d z g q λK F=>⟨.bl C.isSome,v,F,Λ,E⟩
theorem tT(g:X.A.units+1<ŋ)(j:PE X o td)(l:PE X i ty)(m:PE X value tv)(n:Ř value (Α (.Subscript o i pos')) pos.line X.env=pure Ε):
  PS X (.Assign [.Subscript o i pos'] value pos) (Qt X.prog X.w td ty tv):=by
 intro c s d H D I h
 refine Ub (b8 (m c s d H _ I h) λr p ⟨v,q,t,z,B⟩=>b8 (j c p d q _ t B) λu C ⟨x,E,F,G,J⟩=>b8 (l c C d E _ F J) λK Y L=>?_) n
 obtain⟨y,Z,M,N,a,O,k,b,P,e,Q,R,S,T⟩:=L
 subst P Q
 obtain rfl:u=ϭ a:=G
 obtain rfl:K=ϭ b:=N
 exact Qs g M e R S z λs4 U=>⟨d,_,U,T⟩
theorem pN(p:X.A.units+1<ŋ)(q:PE X o td)(r:PA X (e:: es) t)
  (u:autoParam (ŝ o "get" X.env (eval o X.env)=eval o X.env) η)
  (B:autoParam (((Đ Fc (Á (e:: es) X.env)).all (λx=>!x.1)&& (Ii Fc (ž [] X.env)).all (λx=>x.1.isSome)&& decide ((e:: es).length+([]:List Ug).length+(if ([]:List Ug).isEmpty then 0 else 1)<30))=Δ) η)
  (C:autoParam ((apos.endLine == Fc.line)=Δ) η) (D:autoParam (Á (e:: es) X.env=(Ε,eval e X.env):: Á es X.env) η) (E:autoParam ((Đ Fc (Á es X.env)).any (·.1)=Ε) η):
  PE X (.Call (.Attribute o "get" apos) (e:: es) [] Fc) (BE X.prog X.w td t):=by
 intro b s l H Q I h
 refine TR u B C Λ (b8 (q b s l H _ I h) λv G d=>?_)
 obtain⟨x,J,m,K,a,L,M,N,O⟩:=d
 subst M
 obtain rfl:v=ϭ a:=K
 obtain⟨P,R⟩:=vy m N
 refine⟨_,_,PySem.F.plainAttrs_dict,PySem.F.slot_dict_get,PySem.F.type_dict_get,P,R,?_⟩
 have n:=r Fc b G l J _ m O
 rw[D]at n⊢
 refine Ż (by show(Ε||(Đ Fc (Á es X.env)).any (·.1))=Ε;rw[E]<;>rfl) (OA ?_)
 refine b8 n λus s2 d=>?_
 obtain⟨vs,S,T,c,y,z,ov,j,g,U⟩:=d
 subst j
 cases c with
 | cons Y c=>cases c with
  | cons Z c=>cases c with
   |nil=>exact CQ p T g Y Z λw' s4 I4 IP=>⟨_,S,I4,IP,U⟩
end
structure By(K:ϧ)(C:Ν)(m:Str)(f:Ν):Prop where
 reads:PySem.W.readsIn K C (.type "type")=Δ
 found:PySem.W.findCls K (.ref C) (.type "type") m=Α (.val (.ref f))
 spec:PySem.W.specialIn K (.ref C) "__getattribute__"=Α (Α (.builtin "type.__getattribute__"))
 kp:Ϯ K (.ref f)=Δ
def BJ(C:Ν)(sp:Sp)(EZ:List V)(E:XK)(ta:TE)(t:TA):TE:=λσ H Q=>ta σ H λx H1=>x=.ref C/\t σ H1 λvs H2=>sp (vs++EZ) H2 Q E
section
variable {X:Cx}{CX:qU}{k:Nat}{f C:Ν}{fd:Ý}{ps:List Str}{sp:Sp}{EZ:List V}{ds:List Τ}{E:XK}{x m:Str}{p pos apos:Pos}{e o:Expr}{es:List Expr}{ta:TE}{t:TA}
theorem pO(j:PE X o ta)(b:By X.K C m f)(F:DQ X.prog X.w X.K X.mg X.μ CX k f fd ps sp)(l:Ea k X.A)(n:Binds X.K fd ps ds)(v:τ EZ ds)(y:gM CX X E)(z:PA X (e:: es) t)
  (B:autoParam (Á (e:: es) X.env=(Ε,eval e X.env):: Á es X.env) η) (D:autoParam ((Đ pos (Á es X.env)).any (·.1)=Ε) η)
  (G:eval (.Call (.Attribute o m apos) (e:: es) [] pos) X.env=(do
   let d ← eval o X.env
   GS apos.atName
   let (f,first) ← ic [d] (getMethod d m pl)
   callWith pos f first (Đ pos (Á (e:: es) X.env)) (Ii pos (ž [] X.env))):=by rfl):
  PE X (.Call (.Attribute o m apos) (e:: es) [] pos) (BJ C sp EZ E ta t):=by
 intro a s g H Q I h
 refine PySem.W.methodCall_KW (pl:=pl) (b8 (j a s g H _ I h) λu P J=>?_) G
 obtain⟨x,L,c,M,N,q⟩:=J
 subst N
 obtain rfl:u=ϭ C:=M
 refine PySem.W.method_cls c.EY b.spec (PySem.W.cls_value c.EY b.reads b.found Λ ?_)
 refine PySem.W.callWith_K (first:=[]) (h₀:=X.μ) I.ok.mod.HZ b.kp (b8 (z pos a _ g L _ (c.tok _) q) λus R ⟨S,T,i,r,O⟩=>⟨i.EY,?_⟩) B D
 exact oi F l n v y i r O
end
section
variable {X:Cx}
end
section
variable {X:Cx}{tg:Expr}
inductive WB(x:V)(vs:List V)(H:Hp)(Q:VK):Prop
 |mk (l:Ν)(ns:List Int)(k:Int)(_:x=.ref l)(_:vs=[.int k])(_:H l=Α (.π (ns.map V.int)))(_:k∈ns)(_:ns.length<=100000)(_:Q (.int (ns.idxOf k:Nat)) H)
theorem vd:TH X "list.index" WB:=by
 intro D s σ H x vs v us Q I M N h
 obtain⟨l,a,k,rfl,rfl,O,P,G,q⟩:=h
 cases M
 obtain⟨u,rfl,R⟩:=N.one
 obtain⟨t,rfl⟩:=R
 obtain⟨z,b,n,r,hl,e⟩:=I.IQ O
 have hi:=sG r
 have g:b.length=a.length:=by rw[←r.length,ϊ]
 have o:=JQ P
 have d:∀m (c:m<b.toArray.size),∃t,b.toArray[m]=Ĝ (a[m]'(by simpa [g] using c)) t:=λm c=>by
  have A:m<b.length:=by simpa using c
  have S:(a.map V.int)[m]?=Α (V.int (a[m]'(by omega))):=by simp[show m<a.length by omega]
  obtain⟨w',J,T⟩:=r.get S
  obtain⟨f,rfl⟩:=T
  refine⟨f,?_⟩
  have:b[m]?=Α b[m]:=Μ A
  rw[this]at J
  simpa using Ϝ J
 let U:Τ->Bool:=λy=>Ė k y
 refine NG PySem.F.slot_list_index ⟨_,e,Λ⟩ PySem.F.entry_list_index (PySem.F.args_list_index_2 _ _)
  (SeqAt.list_indexAt l b.toArray n Β #[] (.int k t) U (a.idxOf k) (by simpa [g] using o) (by omega) ?_ ?_) ⟨e,λy Y=>?_,?_⟩
 ·obtain⟨f,j⟩:=d (a.idxOf k) (by simpa [g] using o)
  show Ė k (b.toArray[a.idxOf k]'(by simpa [g] using o))=Δ
  rw[j,So]
  simp[Ė]
 ·intro m c B
  obtain⟨f,j⟩:=d m c
  show Ė k b.toArray[m]=Ε
  rw[j]
  have K:a[m]'(by simpa [g] using c)≠k:=λz=>by
   have:=List.not_of_lt_findIdx (p:=λx=>x == k) (xs:=a) (i:=m) B
   rw[z]at this
   simp at this
  simp only[Ė,beq_eq_false_iff_ne,ne_eq]
  first|exact K|exact λz=>K z.symm
 ·have c:y∈b:=by simpa using Y
  obtain⟨m,A,Z⟩:=ĵ c
  obtain⟨f,j⟩:=d m (by simpa using A)
  have ey:y=Ĝ (a[m]'(by omega)) f:=by rw[←Z];simpa using j
  subst ey
  intro L w E Q' C
  refine Kb ?_
  have:(a[m]'(by omega) == k)=Ė k (Ĝ (a[m]'(by omega)) f):=by simp[Ė,Bool.beq_comm]
  rw[this]
  exact C
 ·exact⟨.int (a.idxOf k:Nat),H,I.tok _,⟨_,Λ⟩,q⟩
inductive Qu(K:ϧ)(xs:List V)(H:Hp)(Q:VK):Prop
 |mk (v:V)(t:Τ)(c:String)(b:Bool)(_:xs=[v,.ty c])(_:jB K H v t)(_:Į K t (.type c)=Α b)(_:Q (.bl b) H)
theorem jc:cZ X (.builtin "isinstance") (Qu X.K):=by
 intro d s j H xs us Q I r h
 obtain⟨v,t,c,b,rfl,e,f,q⟩:=h
 cases r with
 | cons g a=>cases a with
  | cons a i =>
   cases i
   cases a
   exact vo I g e f λl=>⟨.bl b,H,I.tok _,Λ,q⟩
end
section
variable {κ:Type}[DecidableEq κ]
noncomputable def fU(kvs:List (κ×V))(k:κ):Option V:=(kvs.find? λkv=>decide (kv.1=k)).map (·.2)
noncomputable def fD(kvs:List (κ×V))(k:κ)(v:V):List (κ×V):=
 if (kvs.any λkv=>decide (kv.1=k))=Δ then kvs.map (λkv=>if kv.1=k then (kv.1,v) else kv) else kvs++[(k,v)]
theorem iF{k:κ}(e:p.1=k):fU (p:: r) k=Α p.2:=by simp[fU,Ĕ,e]
theorem iG{k:κ}(e:¬p.1=k):fU (p:: r) k=fU r k:=by simp[fU,Ĕ,e]
theorem iH(k:κ):∀a:List (κ×V),(a.any λb=>decide (b.1=k))=(fU a k).isSome
 |[]=>rfl
 | p:: r=>by
  rw[r4]
  by_cases e:p.1=k
  ·simp only[iF e,Ζ e,Bool.true_or,Option.isSome_some]
  ·rw[iG e,Η e,Ű];exact iH k r
theorem jG(a:List (κ×V))(k:κ)(v:V):(fD a k v).length<=a.length+1:=by
 unfold fD
 split
 ·rw[ϊ];exact Ź _
 ·rw[ϗ,ï,za6];exact Ρ _
theorem xp{k:κ}(v:V)(h:fU kvs k=Β):fD kvs k v=kvs++[(k,v)]:=by
 unfold fD
 rw[iH,h]
 exact Θ (by decide)
theorem EL.EW(r:EL o u):o.isSome=u.isSome:=by
 cases o with
 | none=>cases u with
  |none=>rfl
  |some _=>exact(r).elim
 | some _=>cases u with
  |none=>exact(r).elim
  |some _=>rfl
theorem KV.val(r:KV kvs vs)(k:κ):EL (fU kvs k) (FO vs k):=by
 unfold KV at r
 induction r with
 |nil=>exact Ê
 | @cons p q ps qs h t ih =>
  obtain⟨c,d⟩:=h
  by_cases e:p.1=k
  ·have a:=c.symm.trans e
   have b:FO (q:: qs) k=Α q.2:=by simp[FO,Ĕ,a]
   rw[iF e,b];exact d
  ·have a:¬q.1=k:=λz=>e (c.trans z)
   have b:FO (q:: qs) k=FO qs k:=by simp[FO,Ĕ,a]
   rw[iG e,b];exact ih
theorem KV.any(r:KV kvs vs)(k:κ):(kvs.any λa=>decide (a.1=k))=vs.any λa=>decide (a.1=k):=by
 unfold KV at r
 induction r with
 |nil=>rfl
 |cons h t b=>rw[r4,r4,b,h.1]
theorem KV.Nu(r:KV kvs vs)(k:κ)(c:RelV y u):
  KV (kvs.map λa=>if a.1=k then (a.1,y) else a) (vs.map λa=>if a.1=k then (a.1,u) else a):=by
 unfold KV at r⊢
 induction r with
 |nil=>exact .nil
 | @cons p q ps qs h t ih =>
  rw[Ϭ,Ϭ]
  refine .cons ?_ ih
  obtain⟨b,d⟩:=h
  by_cases e:p.1=k
  ·rw[Ι e,Ι (b.symm.trans e)];exact⟨b,c⟩
  ·rw[Θ e,Θ (λz=>e (b.trans z))];exact⟨b,d⟩
theorem KV.put(r:KV kvs vs)(k:κ)(a:RelV y u):KV (fD kvs k y) (stored vs k u):=by
 unfold fD stored
 rw[r.any k]
 by_cases e:(vs.any λb=>decide (b.1=k))=Δ
 ·rw[Ι e,Ι e];exact r.Nu k a
 ·rw[Θ e,Θ e];exact Paired.snoc r ⟨Λ,a⟩
theorem KV.keys{a:List (κ×Τ)}(r:KV kvs a):kvs.map (·.1)=a.map (·.1):=by
 unfold KV at r
 induction r with
 |nil=>rfl
 |cons h t b=>rw[Ϭ,Ϭ,b,h.1]
theorem KV.length{a:List (κ×Τ)}(r:KV kvs a):kvs.length=a.length:=Paired.length r
end
theorem qe(r:RelV (kV k) u):(bG P w).is k u=Δ:=by
 cases k with
 |inl i=>obtain⟨t,e⟩:=(r);subst e;exact pX P w i t
 |inr x=>obtain⟨t,e⟩:=(r);subst e;exact pW P w x t
theorem mQ:∀{a:List Key}{us:List Τ},τ (a.map kV) us->ItemsAre (bG P w) a us
 |[],_,r=>by rw[map_nil]at r;cases r;exact .nil
 | k:: a,_,r=>by
  rw[Ϭ]at r
  cases r with
  |cons h t=>exact .cons (qe h) (mQ t)
abbrev KT(H:Hp):List (List Key×V)->List (List Key×Ν×Τ)->Prop:=Paired λp q=>p.1=q.1/\H q.2.1=Α (.tup (p.1.map kV))/\RelV p.2 q.2.2
theorem KT.val(r:KT H kvs xs)(k:List Key):EL (fU kvs k) ((Io xs k).map (·.2)):=by
 induction r with
 |nil=>exact Ê
 | @cons p q ps qs h t ih =>
  obtain⟨c,_,d⟩:=h
  by_cases e:p.1=k
  ·have a:=c.symm.trans e
   have b:Io (q:: qs) k=Α q.2:=by simp[Io,Ĕ,a]
   rw[iF e,b];exact d
  ·have a:¬q.1=k:=λz=>e (c.trans z)
   have b:Io (q:: qs) k=Io qs k:=by simp[Io,Ĕ,a]
   rw[iG e,b];exact ih
theorem KT.Nu(r:KT H kvs xs)(k:List Key)(d:RelV y u):
  KT H (kvs.map λb=>if b.1=k then (b.1,y) else b) (xs.map (putAt k u)):=by
 induction r with
 |nil=>exact .nil
 | @cons p q ps qs h t ih =>
  rw[Ϭ,Ϭ]
  refine .cons ?_ ih
  obtain⟨a,c,f⟩:=h
  unfold putAt
  by_cases e:p.1=k
  ·rw[Ι e,Ι (a.symm.trans e)];exact⟨a,c,d⟩
  ·rw[Θ e,Θ (λz=>e (a.trans z))];exact⟨a,c,f⟩
theorem KT.put(r:KT H kvs xs)(k:List Key)(c:H b=Α (.tup (k.map kV)))(a:RelV y u):
  KT H (fD kvs k y) (storedH xs k b u):=by
 have e:(kvs.any λd=>decide (d.1=k))=(Io xs k).isSome:=by
  rw[iH,(r.val k).EW,Ğ]
 unfold fD storedH
 rw[e]
 by_cases q:(Io xs k).isSome=Δ
 ·rw[Ι q,Ι q];exact r.Nu k a
 ·rw[Θ q,Θ q];exact Paired.snoc r ⟨Λ,c,a⟩
theorem KT.keeps(r:KT H kvs xs)(c:∀b a,H b=Α (.tup a)->H' b=Α (.tup a)):KT H' kvs xs:=
 Paired.MT r λ_ _ z=>⟨z.1,c _ _ z.2.1,z.2.2⟩
section
variable {P:Program}{w:Î}{H:Hp}{h:Ü}{a:Ν}
theorem Bi(ok:Fx P w H h)(e:Rd H a u):Ek P w H h a u:=e.ok ok
theorem mW(ok:Fx P w H h)(e:Rd H a (.dK kvs)):kvs.length<=ό/\(a == ü)=Ε/\∃b,KV kvs b/\h.DictOf (bG P w) a b:=
 show Ek P w H h a (.dK kvs) from Bi ok e
theorem Bs(ok:Fx P w H h)(e:H a=Α (.dK kvs)):kvs.length<=ό/\(a == ü)=Ε/\∃b,KV kvs b/\h.DictOf (bG P w) a b:=mW ok (.inl e)
theorem fJ(ok:Fx P w H h)(e:H a=Α (.tup (ks.map kV))):(Ŋ (bG P w)).is h ks a:=by
 obtain⟨_,b,r,o,c,⟨d,n,f⟩,_⟩:=(ok a _ e)
 exact⟨o,_,n,c,d,f,by simpa using mQ r⟩
theorem qr(ok:Fx P w H h)(e:Rd H a (.dT kvs)):kvs.length<=ό/\(a == ü)=Ε/\
  ∃xs,KT H kvs xs/\h.DictOfH (Ŋ (bG P w)) a xs:=by
 obtain⟨z,y,xs,r,o,c,d,f,g,i,j,n⟩:=(Bi ok e)
 refine⟨z,y,_,r,o,c,d,f,g,i,j,λx b=>?_,n⟩
 have all:∀{l:List (List Key×V)}{m:List (List Key×Ν×Τ)},KT H l m->∀x∈m,(Ŋ (bG P w)).is h x.1 x.2.1:=by
  intro l m q
  induction q with
  |nil=>intro x b;exact nomatch b
  | @cons p q ps qs hq t ih =>
   intro x b
   rcases ϥ.mp b with e|b
   ·subst e
    exact fJ ok (by rw[←hq.1];exact hq.2.1)
   ·exact ih x b
 exact all r x b
theorem Qv(ok:Fx P w H h)(e:H a=Α (.dT kvs)):kvs.length<=ό/\(a == ü)=Ε/\
  ∃xs,KT H kvs xs/\h.DictOfH (Ŋ (bG P w)) a xs:=qr ok (.inl e)
end
def FU(H:Hp)(a:Ν)(y:V)(r:Option V):Prop:=
 (∃kvs k,Rd H a (.dK kvs)/\y=kV k/\r=fU kvs k)∨∃kvs k b,Rd H a (.dT kvs)/\y=.ref b/\H b=Α (.tup (k.map kV))/\r=fU kvs k
def HH(H:Hp)(a:Ν)(y v:V)(H':Hp):Prop:=
 (∃kvs k,H a=Α (.dK kvs)/\y=kV k/\kvs.length<ό/\H'=ο H a (.dK (fD kvs k v)))∨
 ∃kvs k b,H a=Α (.dT kvs)/\y=.ref b/\H b=Α (.tup (k.map kV))/\kvs.length<ό/\H'=ο H a (.dT (fD kvs k v))
theorem FU.k{k:Key}(e:H a=Α (.dK kvs)):FU H a (kV k) (fU kvs k):=.inl ⟨kvs,k,.inl e,Λ,Λ⟩
theorem HH.k{k:Key}(e:H a=Α (.dK kvs))(b:kvs.length<ό):HH H a (kV k) v (ο H a (.dK (fD kvs k v))):=.inl ⟨kvs,k,e,Λ,b,Λ⟩
section
variable {X:Cx}{ν:List (Ν×Obj)}{σ:St}{H:Hp}{s:Ψ}{a:Ν}{y v:V}{u r:Τ}{o:Option V}{A:Ø}{E:Τ->Ψ->Prop}
theorem ς.big(I:ς X ν σ H s):ü<s.heap.objs.size:=by
 have h:=(I.mod.glob.keeps I.bk).lt
 exact hH (by decide) h
theorem v9(x:A.units+1<ŋ)(I:ς X ν σ H s)(g:FU H a y (Α v))(q:RelV y u)(h:∀d t,ς X ν σ H t->RelV v d->Q d t):
  ϣ (Ϣ X.prog X.w) A (getItem (.ref a) u) Q E s:=by
 rcases g with ⟨f,k,e,i,l⟩|⟨f,k,b,e,i,B,l⟩
 ·subst i
  obtain⟨z,C,D,c,j⟩:=mW I.DY e
  obtain⟨d,m,n⟩:=EL.some_of (v:=v) (o:=FO D k) (by rw[l];exact c.val k)
  exact wpAny_getItem_of (qe q) j.mapOf m (h d _ (I.tok _) n)
 ·subst i
  cases (q)
  obtain⟨z,C,xs,c,j⟩:=qr I.DY e
  obtain⟨d,m,n⟩:=EL.some_of (v:=v) (o:=(Io xs k).map (·.2)) (by rw[l];exact c.val k)
  obtain⟨p,F,G⟩:=Md.mp m
  refine wpAny_getItem_heap (Ą x) (fJ I.DY B) j F ?_
  rw[G]
  exact h d _ (I.tok _) n
theorem WC(p:A.units+1<ŋ)(I:ς X ν σ H s)(g:FU H a y o)(m:RelV y u)(h:∀n,ς X ν σ H n->Q (.bool o.isSome) n):
  ϣ (Ϣ X.prog X.w) A (compareOp .In u (.ref a)) Q E s:=by
 rcases g with ⟨d,k,e,f,l⟩|⟨d,k,b,e,f,t,l⟩
 ·subst f
  obtain⟨z,i,x,c,j⟩:=mW I.DY e
  refine wpAny_in_of (qe m) i j.mapOf ?_
  rw[←(c.val k).EW,←l]
  exact h _ (I.tok _)
 ·subst f
  cases (m)
  obtain⟨z,i,xs,c,j⟩:=qr I.DY e
  refine wpAny_in_heap (Ą p) (fJ I.DY t) i j ?_
  have q:=(c.val k).EW
  rw[Ğ]at q
  rw[←q,←l]
  exact h _ (I.tok _)
theorem AE(p:A.units+1<ŋ)(I:ς X ν σ H s)(g:FU H a y o)(m:RelV y u)(h:∀n,ς X ν σ H n->Q (.bool (!o.isSome)) n):
  ϣ (Ϣ X.prog X.w) A (compareOp .NotIn u (.ref a)) Q E s:=by
 rcases g with ⟨d,k,e,f,l⟩|⟨d,k,b,e,f,t,l⟩
 ·subst f
  obtain⟨z,i,x,c,j⟩:=mW I.DY e
  refine wpAny_notIn_of (qe m) i j.mapOf ?_
  rw[←(c.val k).EW,←l]
  exact h _ (I.tok _)
 ·subst f
  cases (m)
  obtain⟨z,i,xs,c,j⟩:=qr I.DY e
  refine wpAny_notIn_heap (Ą p) (fJ I.DY t) i j ?_
  have q:=(c.val k).EW
  rw[Ğ]at q
  rw[←q,←l]
  exact h _ (I.tok _)
theorem uE(I:ς X ν σ H s)(d:Pm (H a))(f:c0 a s.heap h')(g:∃q,h'.get? a=Α q)(new:Ek X.prog X.w (ο H a ob) h' a ob):
  ς X ν σ (ο H a ob) {s with heap:=h',toks:=t'}:=
 I.write (x:=a) (e:=a) d (.inl Λ) (λb q h z=>(f.2 b h).trans z) g new
theorem Dq(z:kvs.length<=ό)(c:(a == ü)=Ε)(b:KV kvs vs)(d:h'.DictOf (bG P w) a vs):
  Ek P w H' h' a (.dK kvs):=⟨z,c,vs,b,d⟩
theorem v8(M:A.units+1<ŋ)(I:ς X ν σ H s)(g:HH H a y v H')(D:RelV y u)(F:RelV v r)(h:∀G,ς X ν σ H' G->Q () G):
  ϣ (Ϣ X.prog X.w) A (setItem (.ref a) u r) Q E s:=by
 rcases g with ⟨d,k,e,m,l,n⟩|⟨d,k,b,e,m,J,l,n⟩
 ·subst m n
  obtain⟨z,p,N,f,t⟩:=Bs I.DY e
  have x:N.length<=ό:=by rw[←f.length];exact z
  have B:(fD d k v).length<=ό:=by have:=jG d k v;exact À ‹_› ‹_›
  refine wpAny_setItem_pairs (hsz:=x) (qe D) t λK i C=>h _ ?_
  have O:∃q,K.get? a=Α q:=let ⟨q,_,_,j,_⟩:=i;⟨q,j⟩
  exact uE I (by rw[e];exact Ê) C O (Dq B p (f.put k F) i)
 ·subst m n
  cases (D)
  obtain⟨z,p,xs,f,t⟩:=Qv I.DY e
  have x:xs.length<=ό:=by rw[←Paired.length f];exact z
  have B:(fD d k v).length<=ό:=by have:=jG d k v;exact À ‹_› ‹_›
  refine ZA (hsz:=x) (Ą M) (fJ I.DY J) t λK i C=>h _ ?_
  obtain⟨q,P,R,j,S,T,U,_,Y⟩:=i
  refine uE I (by rw[e];exact Ê) C ⟨q,j⟩ ⟨B,p,_,(f.put k J F).keeps λc Z L=>?_,q,P,R,j,S,T,U,Y⟩
  rw[ag (aQ L e (λz=>nomatch z))]
  exact L
end
section
variable {X:Cx}{ν:List (Ν×Obj)}{σ:St}{H:Hp}{s:Ψ}{a:Ν}{kvs:List (Key×V)}{k:Key}{u:Τ}{A:Ø}{E:Τ->Ψ->Prop}
end
def Qw(i:Expr):Prop:=∀ov iv,L8 i Ε ov iv=operate [ov,iv] (getItem ov iv)
theorem yZ{T j:String}
  (l:za2 (.type T) "__getitem__"=pure (Α (.builtin j))) (m:Qw slice)
  (h:ϣ (Ϣ prog w) A (eval value env) (λo c=>ϣ (Ϣ prog w) A (eval slice env) (λi a=>a.TypeIs o T/\ϣ (Ϣ prog w) A (getItem o i) Q E a) E c) E s):
  ϣ (Ϣ prog w) A (eval (.Subscript value slice pos) env) Q E s:=by
 refine za5 (Ò h (λo c e=>Ò e (λi a b=>?_) λ_ _ x=>x) λ_ _ x=>x)
 obtain⟨g,b⟩:=b
 unfold subscriptTail
 refine Ξ ?_
 rw[getitemInPython_of_ne g.not_modules]
 refine Ξ (Mn g l ?_)
 have fin:ϣ (Ϣ prog w) A (L8 slice Ε o i) (λr d=>ϣ (Ϣ prog w) A (letTemporaryGo value o r >>=λ_=>pure r) Q E d) E a:=by
  rw[m o i]
  exact wpAny_operating (Ò b (λr d f=>Ξ (wpAny_letTemporaryGo (Ϡ f))) λ_ _ x=>x)
 first
  |exact Ϡ (Ξ fin)
  |exact Ξ (Ϡ (Ξ fin))
  |exact Ξ fin
theorem qt{f:St}(I:ς X ν f H s)(g:FU H a y o):s.TypeIs (.ref a) "dict":=by
 rcases g with ⟨c,k,e,_,_⟩|⟨c,k,b,e,_,_,_⟩
 ·obtain⟨_,_,h,_,d⟩:=mW I.DY e
  exact d.typeIs
 ·obtain⟨_,_,xs,_,d⟩:=qr I.DY e
  exact d.typeIs
inductive Uau(Q:VK)(x:V)(y:V)(H2:Hp):Prop
 |mk (a v)(_:x=.ref a)(_:FU H2 a y (Α v))(_:Q v H2)
def Qx(td ty:TE):TE:=λσ H Q=>td σ H λx H1=>ty σ H1 λy H2=>Uau Q x y H2
inductive Uav(Q:VK)(y:V)(x:V)(H2:Hp):Prop
 |mk (a o)(_:x=.ref a)(_:FU H2 a y o)(_:Q (.bl o.isSome) H2)
def WD(ty td:TE):TE:=λσ H Q=>ty σ H λy H1=>td σ H1 λx H2=>Uav Q y x H2
inductive Uaw(Q:VK)(y:V)(x:V)(H2:Hp):Prop
 |mk (a o)(_:x=.ref a)(_:FU H2 a y o)(_:Q (.bl (!o.isSome)) H2)
def yY(ty td:TE):TE:=λσ H Q=>ty σ H λy H1=>td σ H1 λx H2=>Uaw Q y x H2
inductive Uax(D:eV)(σ:St)(v:V)(x:V)(y:V)(H3:Hp):Prop
 |mk (a H4)(_:x=.ref a)(_:HH H3 a y v H4)(_:D.nx σ H4)
def Qy(td ty tv:TE):TS:=λD σ H=>tv σ H λv H1=>td σ H1 λx H2=>ty σ H2 λy H3=>Uax D σ v x y H3
section
variable {X:Cx}{o i e value:Expr}{pos pos' Ic:Pos}{td ty tv:TE}
theorem zB(f:X.A.units+1<ŋ)(j:PE X o td)(l:PE X i ty)(m:Qw i):PE X (.Subscript o i pos) (Qx td ty):=by
 intro b s c H Q I h
 refine yZ PySem.F.slot_dict_getitem.lookup m (b8 (j b s c H _ I h) λu n ⟨x,p,q,r,t⟩=>b8 (l b n c p _ q t) λJ K w=>?_)
 obtain⟨y,z,d,B,a,v,C,g,D⟩:=w
 subst C
 obtain rfl:u=ϭ a:=r
 exact⟨qt d g,v9 f d g B λL M E G=>⟨v,z,E,G,D⟩⟩
theorem Cy(d:X.A.units+1<ŋ)(f:PE X i ty)(j:PE X o td):PC X .In i o (WD ty td):=by
 intro b s c H Q I h
 refine b8 (f b s c H _ I h) λE l ⟨y,m,n,p,q⟩=>b8 (j b l c m _ n q) λu F r=>?_
 obtain⟨x,t,v,w,a,z,B,g,C⟩:=r
 subst B
 obtain rfl:u=ϭ a:=w
 exact WC d v g p λG D=>⟨.bl z.isSome,t,D,Λ,C⟩
theorem m9(d:X.A.units+1<ŋ)(f:PE X i ty)(j:PE X o td):PC X .NotIn i o (yY ty td):=by
 intro b s c H Q I h
 refine b8 (f b s c H _ I h) λD l ⟨y,m,n,p,q⟩=>b8 (j b l c m _ n q) λu E r=>?_
 obtain⟨x,t,v,w,a,ov,z,g,B⟩:=r
 subst z
 obtain rfl:u=ϭ a:=w
 exact AE d v g p λG C=>⟨.bl (!ov.isSome),t,C,Λ,B⟩
theorem iV(d:X.A.units+1<ŋ)(f:PE X o td)(j:PE X i ty)(l:PE X value tv)(m:Ř value (Α (.Subscript o i pos')) pos.line X.env=pure Ε):
  PS X (.Assign [.Subscript o i pos'] value pos) (Qy td ty tv):=by
 intro b s c H D I h
 refine Ub (b8 (l b s c H _ I h) λr n ⟨v,p,q,t,w⟩=>b8 (f b n c p _ q w) λu z ⟨x,B,C,E,F⟩=>b8 (j b z c B _ C F) λP Q G=>?_) m
 obtain⟨y,R,J,K,a,L,M,g,N⟩:=G
 subst M
 obtain rfl:u=ϭ a:=E
 exact v8 d J g K t λS O=>⟨c,L,O,N⟩
end
theorem y3(h:Ü)(a:ü<h.objs.size):Ek P w H (h.push {cls:=.type "dict",data:=.dict #[]}) h.objs.size (.dK []):=
 ⟨Ϧ _,beq_eq_false_iff_ne.mpr (Ϟ (Ã a)),[],.nil,Ü.DictOf.new h⟩
def BH:TE:=λ_ H Q=>∀p,H p=Β->Q (.ref p) (ο H p (.dK []))
section
variable {X:Cx}{pos:Pos}
theorem kW:PE X (.Dict [] [] pos) BH:=λb s c H Q I h =>
 wpAny_Dict_empty ⟨.ref s.heap.objs.size,_,I.laid (a:=s.heap.objs.size) (o:=.dK []) (t':=s.toks) (λ_ _ q=>Ο _ q) (Ρ _) (y3 s.heap I.big),Λ,h _ (I.DY.fresh (Ρ _))⟩
end
section
variable {X:Cx}{ν:List (Ν×Obj)}{σ:St}{H:Hp}{s:Ψ}{a:Ν}{y d:V}{u r:Τ}{o:Option V}{A:Ø}{E:Τ->Ψ->Prop}
end
section
variable {X:Cx}{o e f:Expr}{apos Fc:Pos}{td ty tx:TE}
end
section
variable {X:Cx}{ν:List (Ν×Obj)}{σ:St}{H:Hp}{s:Ψ}{a:Ν}{kvs:List (Key×V)}{A:Ø}{E:Τ->Ψ->Prop}
end
section
variable {X:Cx}{ν:List (Ν×Obj)}{σ:St}{H:Hp}{s:Ψ}{a:Ν}{y:V}{u:Τ}{A:Ø}{E:Τ->Ψ->Prop}
end
section
variable {X:Cx}
end
section
variable {κ:Type}[DecidableEq κ]
end
theorem uq(h:(bG P w).is k u=Δ):RelV (kV k) u:=by
 rcases bU (h) with ⟨i,t,rfl,rfl⟩|⟨x,t,rfl,rfl⟩
 ·exact⟨t,Λ⟩
 ·exact⟨t,Λ⟩
def DcO(P:Program)(w:Î)(o:Obj)(kvs:List (Key×V))(ep:Nat):Prop:=∃vs es,KV kvs vs/\o.ExactDict/\o.data=.dict es ep/\KeysOf (bG P w) es/\Pairs (bG P w) es.toList vs/\(vs.map (·.1)).Nodup
noncomputable def Qz(a:Ν)(o:Obj)(kvs:List (Key×V)):It:=
 ⟨λi H=>H a=Α (.FZ o (.dK kvs))/\i<kvs.length,λi H x H'=>H'=H/\∃k,(kvs.map (·.1))[i]?=Α k/\x=kV k,λi H=>H a=Α (.FZ o (.dK kvs))/\i=kvs.length⟩
theorem ς.Mo{b:St}(I:ς X ν b H s)(c:H a=Α (.FZ o u)):s.heap.get? a=Α o:=(I.DY a _ c).1
theorem uL{K:ϧ}(a it:Ν)(o:Obj)(m:List (Key×V))(r:Nat)(Z:DcO P w o m r):qP P w K tg (Qz a o m) [it] it (λi h=>h.IsKeyIter it a i m.length r) where
 mem:=by simp
 obj:=λi h f b n=>by
  have e:b=it:=by simpa using n
  subst e
  obtain⟨p,e,c,d⟩:=f
  exact⟨p,e,λv z=>by rw[d]at z;cases z⟩
 keep:=λi h t f k=>by
  obtain⟨p,e,c,d⟩:=f
  exact⟨p,k it (by simp) p e,c,d⟩
 item:=by
  intro X y A B hc i j s σ H E I u f C
  subst y A B
  obtain⟨D,hi⟩:=C
  obtain⟨l,F,g,G,J,L,M,N⟩:=Z
  obtain⟨O,Q,f2,R,S,T⟩:=u it (by simp)
  have x:=g.length
  have hv:l[i]?=Α (l[i]'(by omega)):=Μ (by omega)
  have f:s.heap.IsKeyIter it a i l.length r:=by rw[←x];exact f
  refine wpAny_pyNext_dict_item (knd:=bG X.prog X.w) (k:=(l[i]'(by omega)).1) (v:=(l[i]'(by omega)).2) f ⟨o,F,I.Mo D,G,J,L,M,N⟩ hv λU t hk Y sb=>?_
  rw[←x]at Y
  have I1:=I.turned (t':=s.toks) (λb o n e=>(sb.2 b n).trans e) O Q R S T
  obtain⟨p,e,c,d⟩:=id Y
  exact⟨U,Λ,u8 (s:={s with heap:=t}) e c d (by decide) ⟨_,H,I1,uq hk,⟨Λ,_,by rw[g.keys,Å,hv];rfl,Λ⟩,Y,λb n=>(u b n).1⟩⟩
 done:=by
  intro X y A B hc i j s σ H E I u f C
  subst y A B
  obtain⟨D,rfl⟩:=C
  obtain⟨l,F,g,G,J,L,M,N⟩:=Z
  obtain⟨O,Q,f2,R,S,T⟩:=u it (by simp)
  have x:=g.length
  have f:s.heap.IsKeyIter it a l.length l.length r:=by rw[←x];exact f
  exact wpAny_pyNext_dict_end (knd:=bG X.prog X.w) (I.ok.hd hc) f ⟨o,F,I.Mo D,G,J,L,M,N⟩ (Ā (Ρ _)) λt eb=>⟨Λ,I.turned (t':=s.toks) (λb o n e=>eb b o n e) O Q R S T⟩
 self:=λ_ _ _ _ _ f h=>wpAny_pyIter_keyiter f h
theorem nG:∀{xs:List V}{us:List Τ},xs.length=us.length->(∀(i:Nat)(x:V)(u:Τ),xs[i]?=Α x->us[i]?=Α u->RelV x u)->τ xs us:=by
 intro xs;induction xs with
 |nil=>intro us a h;cases us with|nil=>exact .nil|cons=>cases a
 |cons x xs b=>intro us a h;cases us with|nil=>cases a|cons u us=>exact .cons (h 0 x u rfl rfl) (b (by simpa using a) λi x u c d=>h (i+1) x u c d)
section
variable {X:Cx}{tg:Expr}
inductive Uay(R:It->Hp->Prop)(x:V)(H1:Hp):Prop
 |mk (a kvs)(_:x=.ref a)(_:H1 a=Α (.dK kvs))(_:∀o,R (Qz a o kvs) (ο H1 a (.FZ o (.dK kvs))))
def Q0(tl:TE):TI:=λσ H R=>tl σ H λx H1=>Uay R x H1
theorem zA(G:PE X l tl):PI X tg l (Q0 tl):=by
 intro c s A H R I h
 refine b8 (G c s A H _ I h) λv d J=>?_
 obtain⟨x,K,B,L,M⟩:=J
 obtain⟨a,g,e,C,q⟩:=M
 subst e
 cases L
 obtain⟨z,D,E,f,o,j,F,i,m,n,p,r,t⟩:=Bs B.DY C
 have y:ς X c A (ο K a (.FZ o (.dK g))) d:=B.write (x:=a) (e:=a) (h':=d.heap) (t':=d.toks) (by rw[C];trivial) (.inl Λ) (λb u _ q=>q) ⟨_,i⟩ ⟨i,z,D,E,f,o,j,F,i,m,n,p,r,t⟩
 refine wpAny_pyIter_dict (knd:=bG X.prog X.w) D ⟨o,j,i,m,n,p,r,t⟩ ?_
 refine⟨_,_,_,_,_,Λ,y.kept (t':=d.toks) λb o e=>Ο _ e,uL a _ o g F ⟨E,j,f,m,n,p,r,t⟩,⟨_,ϡ _ Λ,Λ,by rw[f.length];rfl⟩,λb N=>?_,q o⟩
 have e:b=d.heap.objs.size:=by simpa using N
 subst e
 exact y.J6 (Ρ _) (y.DY.fresh (Ρ _))
theorem yw{g:TG}{l:TS}{D:eV}(c:Nat->St->Hp->Prop)(s:c 0 b H)(t:∀i b H,i<=kvs.length->c i b H->H a=Α (.FZ o (.dK kvs)))
  (u:∀i k b H,(kvs.map (·.1))[i]?=Α k->c i b H->g (kV k) b H λd j=>l {D with nx:=c (i+1),ct:=c (i+1),bk:=D.nx} d j) (w:∀b H,c kvs.length b H->D.nx b H):
  ∃W:Nat->Nat->St->Hp->Prop,(∃m,W 0 m b H)/\∀i m b H,W i m b H->
   ((Qz a o kvs).stop i H/\D.nx b H)∨((Qz a o kvs).go i H/\∃N:St->Hp->Prop,(∀f h,N f h->∃n,n<m/\W (i+1) n f h)/\∀x h,(Qz a o kvs).K5 i H x h->g x b h λd j=>l {D with nx:=N,ct:=N,bk:=D.nx} d j):=by
 refine⟨λi m b H=>m=kvs.length - i/\i<=kvs.length/\c i b H,⟨kvs.length,by simp,Ϧ _,s⟩,?_⟩
 rintro i m b H ⟨rfl,z,p⟩
 have q:=t i b H z p
 by_cases r:i<kvs.length
 ·refine .inr ⟨⟨q,r⟩,c (i+1),λf h A=>⟨kvs.length - (i+1),by omega,Λ,r,A⟩,λx h y=>?_⟩
  obtain⟨e,k,B,C⟩:=y
  subst e C
  exact u i k b _ B p
 ·have e:i=kvs.length:=by omega
  subst e
  exact .inl ⟨⟨q,Λ⟩,w b H p⟩
theorem lC(A:X.calm=Δ):cZ X (.type "list") (λxs H Q=>∃a kvs,xs=[.ref a]/\Rd H a (.dK kvs)/\∀l,H l=Β->Q (.ref l) (ο H l (.π (kvs.map λp=>kV p.1)))):=by
 intro t s Z H xs us Q I r h
 obtain⟨a,kvs,rfl,B,q⟩:=h
 obtain⟨u,rfl,C⟩:=r.one
 cases C
 obtain⟨z,D,v,e,o,E,ep,F,G,J,K,L,M⟩:=mW I.DY B
 have N:s.heap.DictAt (bG X.prog X.w) a v ep:=⟨o,E,F,G,J,K,L,M⟩
 refine PySem.W.kdl_call (PySem.W.kdl_dict (knd:=bG X.prog X.w) (kvs:=v) (ep:=ep) D) (I.ok.hd A) N (by rw[←e.length];exact z) λh' O acc c keep P it=>?_
 have R:τ (kvs.map λp=>kV p.1) acc.toList:=by
  refine nG (by rw[ϊ,e.length];exact it.1.symm) λi x u g S=>?_
  obtain⟨k,y,T,n⟩:=it.2 i u (by simpa using S)
  have f:(kvs.map (·.1))[i]?=Α k:=by rw[e.keys,Å,T];rfl
  have U:x=kV k:=by
   rw[Å]at g f
   cases j:kvs[i]? with
   |none=>rw[j]at f;cases f
   | some p =>
    rw[j]at g f
    have f:p.1=k:=Ϝ f
    have g:kV p.1=x:=Ϝ g
    rw[←g,f]
  rw[U]
  exact uq n
 refine⟨.ref _,_,I.laid (a:=s.heap.objs.size) (o:=.π (kvs.map λp=>kV p.1)) (t':=O) (λb q Y=>keep b q Y) (Ρ _) ⟨by rw[ϊ];exact z,acc.toList,c,R,by simpa using P⟩,Λ,q _ (I.DY.fresh (Ρ _))⟩
end
noncomputable def ij(p:Ν)(j:Int):HO:=.ext λh=>∃t u v,Uk h p 0 j 1 t u v
section
variable {X:Cx}
theorem qC:cZ X (.type "range") (λxs H Q=>∃j:Int,xs=[.int j]/\∀p,H p=Β->Q (.ref p) (ο H p (ij p j))):=by
 intro b s f H xs us Q I r h
 obtain⟨j,rfl,q⟩:=h
 obtain⟨u,rfl,c⟩:=r.one
 obtain⟨t,rfl⟩:=c
 refine call_range_1 ⟨.ref s.heap.objs.size,_,I.laid (a:=s.heap.objs.size) (o:=ij s.heap.objs.size j) (t':=s.toks+1+1) (λ_ _ q=>Ο _ q) (Ρ _) ?_,Λ,q _ (I.DY.fresh (Ρ _))⟩
 exact⟨⟨_,_,_,Uk.new ..⟩,⟨_,ϡ _ Λ⟩,λg i ⟨t,u,v,e⟩ d=>⟨t,u,v,d _ e⟩⟩
theorem lT(g:X.calm=Δ):cZ X (.type "list") (λxs H Q=>∃(p:Ν)(n:Nat),xs=[.ref p]/\H p=Α (ij p (n:Int))/\n<=10000/\∀l,H l=Β->Q (.ref l) (ο H l (.π ((ϋ n).map λk:Nat=>V.int (k:Int))))):=by
 intro f s D H xs us Q I r h
 obtain⟨p,n,rfl,j,E,q⟩:=h
 obtain⟨u,rfl,m⟩:=r.one
 cases m
 obtain⟨⟨t,u,v,w⟩,_⟩:=I.DY _ _ j
 refine call_list_range (n:=n) (I.ok.hd g) w (small_one (Φ _) (Φ _) (Φ _) (by omega)) (by rw[PM];split<;>omega) (by omega) λF e acc c keep y it=>?_
 have z:τ ((ϋ n).map λk:Nat=>V.int (k:Int)) acc.toList:=by
  refine nG (by rw[ϊ,ã];exact it.1.symm) λi x u d A=>?_
  obtain⟨e,rfl⟩:=it.2 i u (by simpa using A)
  have B:i<n:=by
   have:=(gQ0 d)
   simpa using this
  rw[Å,Qq B]at d
  have d:=Ϝ d
  subst d
  exact⟨e,by rw[mul_one,Þ]⟩
 refine⟨.ref _,_,I.laid (a:=s.heap.objs.size) (o:=.π ((ϋ n).map λk:Nat=>V.int (k:Int))) (t':=e) (λb q C=>keep b q C) (Ρ _) ⟨by rw[ϊ,ã,Ω];omega,acc.toList,c,z,by simpa using y⟩,Λ,q _ (I.DY.fresh (Ρ _))⟩
end
end L2
namespace L2
open PySem
section
variable {X:Cx}
inductive vP(t:TS)(D:eV)(σ:St)(H:Hp):Prop
 |mk (G6:St->Hp->Prop)(_:t {D with nx:=G6} σ H)(_:∀σ' H',G6 σ' H'->D.nx σ' H')
theorem tS(h:PS X st t):PS X st (vP t):=λa s c H D I ⟨g,q,k⟩ =>
 b8 (h a s c H _ I q) λf i z=>by
  cases f with
  |next=>obtain⟨b,d,e,p⟩:=z;exact⟨b,d,e,k _ _ p⟩
  |brk=>exact z
  |cont=>exact z
  |ret u=>exact z
inductive BD(t:TE)(σ:St)(H:Hp)(Q:VK):Prop
 |mk (G6:V->Hp->Prop)(_:t σ H G6)(_:∀v H',G6 v H'->Q v H')
theorem tV(h:PE X e t):PE X e (BD t):=λa s c H Q I ⟨g,q,k⟩ =>
 b8 (h a s c H _ I q) λu i d=>by obtain⟨v,b,f,r,p⟩:=d;exact⟨v,b,f,r,k v b p⟩
inductive BC(t:TT)(σ:St)(H:Hp)(Q:Bool->Hp->Prop):Prop
 |mk (G6:Bool->Hp->Prop)(_:t σ H G6)(_:∀b H',G6 b H'->Q b H')
theorem iT(h:PT X e t):PT X e (BC t):=λa s d H Q I ⟨i,q,k⟩ =>
 b8 (h a s d H _ I q) λb j f=>by obtain⟨c,g,p⟩:=f;exact⟨c,g,k b c p⟩
end
open PySem.Spec PyProof.Rows
theorem qg:∀{a:List Int}{us:List Τ},τ (a.map V.int) us->œ us a
 |[],_,.nil =>.nil
 | n:: a,_,.cons r t=>by
  obtain⟨b,e⟩:=(r)
  subst e
  exact .cons n b (qg t)
theorem qB(e:X.calm=Δ):cZ X (.builtin "sum") (λxs H Q=>∃(p:Ν)(a:List Int),xs=[.ref p]/\DT X.K H p (a.map V.int)/\Q (.int a.sum) H):=by
 intro b s v H xs us Q I r h
 obtain⟨p,a,rfl,f,q⟩:=h
 obtain⟨u,rfl,g⟩:=lW r
 cases g
 obtain⟨i,j,l,w⟩:=I.list f
 have c:=qg j
 obtain⟨xs,d⟩:=c.allInts.items
 have m:=d▸l.isList
 refine sum_intListG (I.ok.hd e) m λx y z n=>?_
 have o:a=xs.toList.map (·.1):=by
  rw[←nums_intItems,←d]
  exact(c.numsOf).symm
 have t:preSum (numAt xs) xs.size=a.sum:=by
  rw[preSum_eq,ec (by simp),o]
 rw[t]
 exact⟨.int a.sum,H,I.kept n,⟨_,Λ⟩,q⟩
structure HI(K:ϧ)(x qual:Str)(st:Ç)(f:Ν)(fd:Ý):Prop where
 ex:∃(oc:Τ)(od:Option Ν)(dV kV doc pm:Τ)(an:Option Ν)(cdv ct:Τ)(Hw:Array (Option Τ)),
  fd=v3 x qual (cf st) (aK st) (am st) dV kV doc pm an cdv ct/\K.lookup f=Α ⟨oc,od,.func fd,Hw⟩/\ri K cdv qual=Δ
 kp:Ϯ K (.ref f)=Δ
section
variable {P:Program}{w:Î}{K:ϧ}{mg:Str->Option Τ}{μ:Ü}
theorem HI.ok{d:Ç}(F:HI K x qual d f fd)(S:aw N ps (am d))
  (e:∀(b:Τ)(A:Ø)(a:List Env)(s:Ψ)(H:Hp)(c:List V)(Q:VK)(E:XK),Ea k (A.deeper (gc qual (am d) s.heap.objs.size f b))->sp c H Q E->
   ∃t,GF (lS aF P w K mg μ N qual (am d) f b A a s H E).JH (aK d) t/\t {nx:=λ_ g=>Q .Eh g,rt:=Q} (start N c) H)(len:∀c H Q E,sp c H Q E->c.length=ps.length:=by intro _ _ _ _ h;repeat first|(subst_vars;rfl)|obtain⟨_,h⟩:=h):DQ P w K mg μ aF (k+1) f fd ps sp:=by
 obtain⟨n,o,p,kV,i,r,an,b,u,v,rfl,lk,j⟩:=F.ex
 refine u9 lk j S len λA a s H c Q E l m=>?_
 obtain⟨t,h,q⟩:=e b A a s H c Q E l m
 exact⟨t,h.JH,q⟩
theorem HI.okX{d:Ç}(F:HI K x qual d f fd)(S:aw N ps (am d))
  (e:∀(b:Τ)(A:Ø)(a:List Env)(s:Ψ)(H:Hp)(c:List V)(Q:VK)(E:XK),Ea k (A.deeper (gc qual (am d) s.heap.objs.size f b))->sp c H Q E->
   ∃t,GF (lS (AV P w) P w K mg μ N qual (am d) f b A a s H E) (aK d) t/\t {nx:=λ_ g=>Q .Eh g,rt:=Q} (start N c) H)(len:∀c H Q E,sp c H Q E->c.length=ps.length:=by intro _ _ _ _ h;repeat first|(subst_vars;rfl)|obtain⟨_,h⟩:=h):DQ P w K mg μ (AV P w) (k+1) f fd ps sp:=by
 obtain⟨n,o,p,kV,i,q,an,b,r,u,rfl,lk,j⟩:=F.ex
 exact u9 lk j S len λA a s H c Q E l m=>e b A a s H c Q E l m
end
inductive zp(K:ϧ)(x:V)(y:V)(H:Hp)(Q:VK):Prop
 |mk (p:Ν)(vs:List V)(d:ġ)(ds:List ġ)(_:y=.ref p)(_:pe K H x d)(_:DT K H p vs)(_:lU K H vs ds)(_:Ho d 8)(_:(∀z∈ds,Ho z 8))(_:Q (.bl (!(ds.any λy=>Ō y d))) H)
theorem uV(o:X.A.units+64<ŋ):eU X (compareOp .NotIn) (zp X.K):=by
 intro a s r H x y v u Q I c e h
 obtain⟨p,t,d,f,rfl,g,i,j,b,l,q⟩:=h
 obtain⟨as,m⟩:=I.den (.π i j) e
 obtain⟨bs,n⟩:=I.den g c
 refine SeqAt.notIn_list_reads m n (nX l).1 b.1 ?_ ⟨.bl _,H,I,Λ,q⟩
 have:=b.2
 have:=Nat.min_le_right (ź f) d.depth
 omega
inductive Q2(K:ϧ)(x:V)(y:V)(H:Hp)(Q:VK):Prop
 |mk (a b xs ys)(_:x=.ref a)(_:y=.ref b)(_:Ec K H a xs)(_:Ec K H b ys)(_:ys≠[])(_:xs.length+ys.length<=ό)(_:(xs=[]->Q (.ref b) H)/\(xs≠[]->∀p,H p=Β->Q (.ref p) (ο H p (.tup (xs++ys)))))
theorem zF:eU X (binaryOp .Add) (Q2 X.K):=by
 intro c s w H x y v u Q I g i h
 obtain⟨a,b,xs,A,rfl,rfl,j,l,B,C,D,E⟩:=h
 by_cases e:xs=[]
 ·cases g
  cases i
  obtain⟨m,F,G,_⟩:=I.tuple j
  obtain⟨J,U,L,_⟩:=I.tuple l
  have M:=F.G9.mpr e
  obtain⟨⟨N,O,data,P⟩,o,p,n,q⟩:=id G
  obtain⟨⟨Y,R,f,S⟩,r,t,T,d⟩:=id L
  simp only at p q t d
  subst p q t d
  exact Uc ⟨_,o,Λ⟩ ⟨_,r,Λ⟩ KS PD slot_tuple_add entry_tuple_add (args_tuple_add_2 _ _)
   (tuple_addW0 a b m.toArray J.toArray n T O R P S (by simp[M])) ⟨o,r,⟨.ref b,H,I,Λ,D e⟩⟩
 ·exact zE c s w H _ _ v u Q I g i ⟨a,b,xs,A,Λ,Λ,j,l,e,C,λz=>Κ z B,λ_=>E e⟩
end L2
namespace L2
open PySem
theorem iE:∀{a:List Ç}{p:Pos}{s:Ψ},
  Sem.wp M Γ (execs a env) (λf d e=>match f with|.next=>Sem.wp M Γ (execs b env) Q E d e|f=>Q f d e) E p s->Sem.wp M Γ (execs (a++b) env) Q E p s
 |[],_,_,h=>h
 | st:: a,p,s,h=>by
  rw[execs_cons,Sem.wp_bind']at h
  rw[List.cons_append,execs_cons,Sem.wp_bind']
  refine Sem.wp_mono M Γ _ (λf d e c=>?_) (λ_ _ _ c=>c) _ _ h
  cases f with
  |next=>exact iE (a:=a) c
  |brk=>exact c
  |cont=>exact c
  |ret u=>exact c
section
variable {X:Cx}
theorem zx(g:GF X a t)(i:GF X b u):GF X (a++b) (BA (vP t) u):=by
 intro c s j H D I h
 obtain⟨r,q,k⟩:=h
 intro Γ p d
 refine iE ?_
 refine Sem.wp_mono _ Γ _ (λf l m z=>?_) (λ_ _ _ z=>z) _ _ (g c s j H _ I q Γ p d)
 cases f with
 |next=>obtain⟨e,n,o,z⟩:=z;exact i c m e n D o (k _ _ z) Γ l d
 |brk=>exact z
 |cont=>exact z
 |ret u=>exact z
theorem pJ(n:Nat)(a:GF X (ss.take n) t)(b:GF X (ss.drop n) u):GF X ss (BA (vP t) u):=by
 have h:=zx a b
 rwa [List.take_append_drop]at h
end
open PySem.Spec PyProof.Rows
section
variable {prog:Program}{w:Î}{A:Ø}{E:Τ->Ψ->Prop}{s:Ψ}
end
section
variable {X:Cx}{ν:List (Ν×Obj)}{σ:St}{H:Hp}{s:Ψ}{a:Ν}{o:Obj}{u:HO}
end
section
variable {X:Cx}
end
section
variable {X:Cx}{elts:List Expr}{kk:Nat}{Ic:Pos}
end
section
variable {prog:Program}{w:Î}{A:Ø}{E:Τ->Ψ->Prop}{s:Ψ}
end
section
variable {X:Cx}{tg:Expr}
end
section
variable {prog:Program}{w:Î}{A:Ø}{E:Τ->Ψ->Prop}{s:Ψ}{I:Ν}{fp wr:List Ν}{G:Array O5->Array O5->Prop}{n:Nat}{P:Nat->Τ->Prop}{St:Nat->Ψ->Prop}
end
section
variable {X:Cx}
end
section
variable {X:Cx}{o e f:Expr}{apos Fc:Pos}{td ty tx:TE}
end
section
variable {X:Cx}{ν:List (Ν×Obj)}{σ:St}{H:Hp}{s:Ψ}
end
section
variable {X:Cx}{elts:List Expr}{kk:Nat}{Ic p pos:Pos}{e1 e2:Expr}
end
section
variable {X:Cx}
end
section
variable {prog:Program}{w:Î}{A:Ø}{E:Τ->Ψ->Prop}{s:Ψ}{I:Ν}{fp wr:List Ν}{G:Array O5->Array O5->Prop}{n:Nat}{P:Nat->Τ->Prop}{St:Nat->Ψ->Prop}
end
section
variable {X:Cx}
end
abbrev Cx.pinned(X:Cx)(q:List (Ν×Obj)):Cx:={X with pn:=X.pn++q}
theorem Cx.Ok.pinned{X:Cx}(o:X.Ok)(q:List (Ν×Obj)):(X.pinned q).Ok:=⟨o.mod,o.kind,o.glob,o.blt,o.above,o.inj,o.has,o.KU,o.hd,o.frames,o.MU,o.Po,o.bs,o.Jh,o.Ia,o.IK,o.Fb,o.JG⟩
theorem Cx.Ok.Kh{X:Cx}(o:(X.pinned q).Ok):X.Ok:=⟨o.mod,o.kind,o.glob,o.blt,o.above,o.inj,o.has,o.KU,o.hd,o.frames,o.MU,o.Po,o.bs,o.Jh,o.Ia,o.IK,o.Fb,o.JG⟩
section
variable {X:Cx}{ν q:List (Ν×Obj)}{σ:St}{H:Hp}{s:Ψ}
theorem ς.WE(I:ς X (q++ν) σ H s):ς (X.pinned q) ν σ H s:=
 ⟨I.ok.pinned q,I.os,I.bare,I.μ,I.loc,I.cell,I.free,I.Ew,λp a=>I.pin p (by rw[Ļ]at a;exact a),I.DY,I.len⟩
theorem ς.Kh(I:ς (X.pinned q) ν σ H s):ς X ν σ H s:=
 ⟨I.ok.Kh,I.os,I.bare,I.μ,I.loc,I.cell,I.free,I.Ew,λp a=>I.pin p (by
  rcases ϯ.mp a with h|h
  ·exact Í _ (Í _ h)
  ·exact ϫ _ h),I.DY,I.len⟩
end
structure KC(mg:Str->Option Τ)(μ:Ü)(c P:Ν):Prop where
 bm:μ.BuiltinsAt mg P
 cd:PySem.W.CodeHd μ c P
 gP:Ϥ≠P
def sR(oc:Obj)(qual:Str):Prop:=∃vs t,oc.data=.fields vs/\vs[1]?=Α (.str qual t)
theorem KC.keep(N:KC mg μ c P)(k:∀b o,μ.get? b=Α o->E5.get? b=Α o):KC mg E5 c P:=by
 obtain⟨a,o,d,e,f,g,h,i⟩:=N.bm
 exact⟨⟨a,o,d,e,f,g,k _ _ h,i⟩,N.cd.keeps k,N.gP⟩
structure TZ(X:Cx)(cs:List (Nat×Str))(EF:List V)(E5:Ü):Prop where
 HZ:X.K.In E5
 ns:E5.Ns Ϥ X.mg
 μ:∀b o,X.μ.get? b=Α o->E5.get? b=Α o
 pn:∀p∈X.pn,E5.get? p.1=Α p.2
 cell:Paired (λ(q:Nat×Str)(v:V)=>∃c u,X.env.cells.lookup q.2=Α c/\RelV v u/\E5.IsCell c (Α u)) cs EF
 inj:∀x y c,X.env.cells.lookup x=Α c->X.env.cells.lookup y=Α c->x=y
theorem qh{h μ a:Ü}:∀{l:List Env},(∀b∈ki l,a.get? b=Β)->h.FunFrames μ l->h.FunFrames a l
 |[],_,_=>trivial
 |env:: r,k,⟨hk,⟨L,o,hf,hn,ho,hd⟩,hr⟩=>⟨hk,⟨L,o,hf,k L (by unfold ki;rw[ŵ,hf];exact ώ),ho,hd⟩,qh (λb c=>k b (by unfold ki;rw[ŵ,hf];exact ϟ _ c)) hr⟩
noncomputable def gG(X:Cx)(cs:List (Nat×Str))(b:Ν):Bool:=(X.μ.get? b).isSome||(X.pn.map (·.1)).contains b||cs.any λq=>X.env.cells.lookup q.2 == Α b
noncomputable def jJ(X:Cx)(cs:List (Nat×Str))(h:Ü):Ü:=PySem.W.hideAll h ((ϋ h.objs.size).filter λb=>!gG X cs b)
theorem oY(e:h.get? b=Α o)(k:gG X cs b=Δ):(jJ X cs h).get? b=Α o:=
 PySem.W.hideAll_get _ e λa=>by
  have q:=(ϩ.mp a).2
  rw[k]at q;cases q
theorem xV(e:(jJ X cs h).get? b=Α o):h.get? b=Α o/\gG X cs b=Δ:=by
 have a:=PySem.W.of_hideAll _ e
 refine⟨a,?_⟩
 cases q:gG X cs b with
 |true=>rfl
 | false =>
  have c:b∈(ϋ h.objs.size).filter λb=>!gG X cs b:=ϩ.mpr ⟨È.mpr (lt_size a),by rw[q];rfl⟩
  have z:(jJ X cs h).get? b=Β:=PySem.W.hideAll_none _ c
  rw[z]at e;cases e
theorem qd(h:gG X cs b=Δ):(∃o,X.μ.get? b=Α o)∨(∃p∈X.pn,p.1=b)∨∃q∈cs,X.env.cells.lookup q.2=Α b:=by
 unfold gG at h
 rcases (ļ _ _).mp h with h|h
 ·rcases (ļ _ _).mp h with h|h
  ·exact .inl (ŧ.mp h)
  ·obtain⟨p,a,e⟩:=Ö.mp (Pc.mp h)
   exact .inr (.inl ⟨p,a,e⟩)
 ·obtain⟨q,c,e⟩:=ō.mp h
  exact .inr (.inr ⟨q,c,TF e⟩)
theorem D9{x:St}(I:ς X ν x H s)(E:∀q∈cs,X.N[q.1]?=Α q.2/\X.env.scope.names.lookup q.2=Α .cell/\X.fn q.2=Δ)
  (M:Paired (λ(q:Nat×Str)(v:V)=>x[q.1]?=Α (Α v)) cs EF):TZ X cs EF (jJ X cs s.heap)/\Ie X.prog X.w X.K X.mg (jJ X cs s.heap) X.A X.stack s H:=by
 have g:∀b o,X.μ.get? b=Α o->(jJ X cs s.heap).get? b=Α o:=λb o e=>oY (I.bk b o e) (by unfold gG;rw[e];rfl)
 have cell:∀(j:List (Nat×Str))(y:List V),(∀q∈j,q∈cs)->Paired (λ(q:Nat×Str)(v:V)=>x[q.1]?=Α (Α v)) j y->
   Paired (λ(q:Nat×Str)(v:V)=>∃c u,X.env.cells.lookup q.2=Α c/\RelV v u/\(jJ X cs s.heap).IsCell c (Α u)) j y:=by
  intro j y F d
  induction d with
  |nil=>exact .nil
  | @cons q v _ _ r _ ih =>
   refine .cons ?_ (ih λq f=>F q (ϟ _ f))
   have f:=F q ώ
   obtain⟨B,t,Y⟩:=E q f
   obtain⟨m,Z,O⟩:=I.loc
   obtain⟨u,P,l⟩:=O q.1 q.2 v B r (.inr (.inl t))
   rcases l with ⟨k,_⟩|⟨_,c,G,o,C,Q⟩
   ·have k:X.env.scope.names.lookup q.2=Α .local:=k
    rw[t]at k;cases k
   ·exact⟨c,u,G,P,o,oY C (by
     unfold gG
     rw[show(cs.any λq=>X.env.cells.lookup q.2 == Α c)=Δ from ō.mpr ⟨q,f,by rw[G];simp⟩,ew]),Q⟩
 have J:=I.ok.mod.HZ.keeps g
 have L:=I.ok.mod.glob.keeps g
 have i:∀b,gG X cs b=Δ->H b=Β/\b∉ki X.stack:=λb D=>by
  rcases qd D with ⟨o,e⟩|⟨p,d,rfl⟩|⟨q,f,e⟩
  ·refine⟨(I.bs b o e).2,λz=>?_⟩
   have:=(I.stack.mem z).1
   rw[e]at this;cases this
  ·obtain⟨_,n,R,S,_⟩:=I.pin p (Í _ d)
   exact⟨n,λz=>(ϥ.mp (I.Fq _ z)).elim R S⟩
  ·refine⟨I.Ew _ _ e,λz=>?_⟩
   rcases ϥ.mp (I.Fq _ z) with z|z
   ·exact I.Ji _ _ e z
   ·obtain⟨_,o,C,_⟩:=I.ok.Fb.mem z
    exact Κ (ϛ (lt_size C) (I.ok.KU _ _ (E q f).2.2 e)) (Ĺ _)
 refine⟨⟨J,L,g,λp d=>?_,cell cs EF (λ_ h=>h) M,I.ok.inj⟩,I.ok.frames,⟨J,L,?_,I.ok.mod.nolimit.keeps g⟩,λb o e=>?_,?_,?_,I.G8,I.DY,I.bare⟩
 ·refine oY (I.pin p (Í _ d)).1 ?_
  unfold gG
  rw[show(X.pn.map (·.1)).contains p.1=Δ from Pc.mpr (İ d),ew,Bool.true_or]
 ·obtain⟨T,B,t⟩:=I.ok.mod.blt
  exact⟨T,B.keeps g,t⟩
 ·obtain⟨U,k⟩:=xV e
  exact⟨U,(i b k).1⟩
 ·exact ń (PySem.W.hideAll_size _ _)
 ·refine qh (λb D=>?_) I.stack
  cases q:(jJ X cs s.heap).get? b with
  |none=>rfl
  |some o=>exact Κ D (i b (xV q).2).2
section
variable {X:Cx}{CX:qU}{k:Nat}{f:Ν}{fd:Ý}{ps:List Str}{EZ:List V}{ds:List Τ}{E:XK}{x:Str}{p pos:Pos}{e:Expr}{es:List Expr}{t:TA}{cs:List (Nat×Str)}{sps:List V->Sp}
end
structure qS(N P fr:List Str)(sc:Scope):Prop where
 kind:sc.kind=.function
 co:sc.isCoroutine=Ε
 gen:sc.isGenerator=Ε
 nd:N.Nodup
 pre:N=P++fr
 par:∀x∈P,sc.names.lookup x=Α .local
 FQ:∀y∈sc.names,y.2≠.cell
 free:∀x∈fr,sc.names.lookup x=Α .free
 all:∀y∈sc.names,y.2=.free->y.1∈fr
structure WG(μ:Ü)(clos:List (Str×Ν))(fr:List Str)(EF:List V):Prop where
 at':Paired (λ(x:Str)(v:V)=>∃c u,clos.lookup x=Α c/\RelV v u/\μ.IsCell c (Α u)) fr EF
 only:∀x c,clos.lookup x=Α c->x∈fr
 inj:∀x y c,clos.lookup x=Α c->clos.lookup y=Α c->x=y
noncomputable def WH(CX:qU)(P:Program)(w:Î)(K:ϧ)(mg:Str->Option Τ)(μ:Ü)(N:List Str)(qual:Str)(scope:Scope)(f:Ν)(cd:Τ)(cl:List (Str×Ν))(A:Ø)(outer:List Env)(s:Ψ)(H:Hp)(E:XK):Cx where
 prog:=P
 w:=w
 K:=K
 mg:=mg
 μ:=μ
 A:=A.deeper (PySem.W.envX qual scope s.heap.objs.size f cd cl)
 N:=N
 s₀:=s
 H₀:=H
 env:=PySem.W.envX qual scope s.heap.objs.size f cd cl
 outer:=outer
 stack:=PySem.W.envX qual scope s.heap.objs.size f cd cl:: outer
 ex:=[]
 calm:=Δ
 fn:=λ_=>Ε
 pn:=[]
 xe:=λe s'=>ϣ (Ϣ P w) (A.deeper (PySem.W.envX qual scope s.heap.objs.size f cd cl)) (leaving (PySem.W.envX qual scope s.heap.objs.size f cd cl) e) (λ_ Ig=>CX outer H s E e Ig) (λe' Ig=>CX outer H s E e' Ig) s'
theorem rR:∀{P:List Str}{us:List Τ}{i:Nat},P.Nodup->P[i]?=Α x->us[i]?=Α v->(P.zip us).reverse.lookup x=Α v:=by
 intro P us i g j m
 have a:(x,v)∈(P.zip us).reverse:=rz.mpr (Ϙ (i:=i) (by rw[Lu];exact⟨j,m⟩))
 have b:∀(l:List (Str×Τ)),(l.map (·.1)).Nodup->(x,v)∈l->l.lookup x=Α v:=by
  intro l
  induction l with
  |nil=>intro _ h;cases h
  | cons p r c =>
   intro d a
   obtain⟨y,z⟩:=p
   rw[Ϭ,Ć]at d
   rw[é]
   rcases ϥ.mp a with e|a
   ·cases e;simp
   ·have:(x == y)=Ε:=by
     cases q:x == y with
     |false=>rfl
     |true=>exact Κ (İ (f:=(·.1)) a) (by rw[TF q];exact d.1)
    rw[this]
    exact c d.2 a
 refine b _ ?_ a
 have e:((P.zip us).map (·.1))=P.take us.length:=by
  have:∀(P:List Str)(us:List Τ),(P.zip us).map (·.1)=P.take us.length:=by
   intro P
   induction P with
   |nil=>intro us;simp
   | cons p r c=>intro us;cases us with
    |nil=>rfl
    |cons u t=>simp[c]
  exact this P us
 rw[List.map_reverse,e,List.nodup_iff_pairwise_ne,List.pairwise_reverse]
 exact(g.sublist (VX _ _)).imp λh=>Ϟ h
theorem TZ.cap(B:TZ X f i E5)(s:f.map (·.2)=clos.map (·.1))(g:∀q∈clos,X.env.cells.lookup q.1=Α q.2):WG E5 clos (clos.map (·.1)) i:=by
 have look:∀(l:List (Str×Ν))(x:Str)(c:Ν),(∀q∈l,X.env.cells.lookup q.1=Α q.2)->l.lookup x=Α c->X.env.cells.lookup x=Α c/\x∈l.map (·.1):=by
  intro l
  induction l with
  |nil=>intro x c _ h;cases h
  | cons p r j =>
   intro x c g h
   rw[é]at h
   cases q:x == p.1 with
   |true=>rw[q]at h;cases h;rw[TF q];exact⟨g p ώ,ώ⟩
   | false =>
    rw[q]at h
    obtain⟨a,b⟩:=j x c (λz n=>g z (ϟ _ n)) h
    exact⟨a,ϟ _ b⟩
 have has:∀(l:List (Str×Ν))(x:Str),x∈l.map (·.1)->∃c,l.lookup x=Α c:=by
  intro l
  induction l with
  |nil=>intro x h;cases h
  | cons p r j =>
   intro x h
   rw[é]
   cases q:x == p.1 with
   |true=>exact⟨_,Λ⟩
   | false =>
    rcases ϥ.mp h with e|h
    ·rw[e]at q;simp at q
    ·exact j x h
 refine⟨?_,λx c h=>(look clos x c g h).2,λx y c w A=>B.inj x y c (look clos x c g w).1 (look clos y c g A).1⟩
 rw[←s]
 have m:∀q∈f,q.2∈clos.map (·.1):=λq C=>s▸İ C
 have o:∀(f:List (Nat×Str))(i:List V),(∀q∈f,q.2∈clos.map (·.1))->Paired (λ(q:Nat×Str)(v:V)=>∃c u,X.env.cells.lookup q.2=Α c/\RelV v u/\E5.IsCell c (Α u)) f i->Paired (λ(x:Str)(v:V)=>∃c u,clos.lookup x=Α c/\RelV v u/\E5.IsCell c (Α u)) (f.map (·.2)) i:=by
  intro f i m D
  induction D with
  |nil=>exact .nil
  | @cons q v _ _ r _ j =>
   refine .cons ?_ (j λz n=>m z (ϟ _ n))
   obtain⟨c,u,e,E,z⟩:=r
   obtain⟨F,t⟩:=has clos q.2 (m q ώ)
   have:=(look clos q.2 F g t).1
   rw[e]at this;cases this
   exact⟨c,u,t,E,z⟩
 exact o f i m B.cell
theorem En.okC{K:ϧ}{d:Ç}(F:En K x qual d f fd)(S:aw N ps (am d))(len:∀c H Q E,sp c H Q E->c.length=ps.length)
  (e:∀(b:Τ)(A:Ø)(a:List Env)(s:Ψ)(H:Hp)(c:List V)(Q:VK)(E:XK),fd.code=b->Ea k (A.deeper (gc qual (am d) s.heap.objs.size f b))->sp c H Q E->
   ∃t,GF (lS aF P w K mg μ N qual (am d) f b A a s H E).JH (aK d) t/\t {nx:=λ_ g=>Q .Eh g,rt:=Q} (start N c) H):DQ P w K mg μ aF (k+1) f fd ps sp:=by
 obtain⟨n,o,kV,i,p,an,b,r,u,rfl,lk,j⟩:=F.ex
 refine u9 lk j S len λA a s H c Q E l m=>?_
 obtain⟨t,h,q⟩:=e b A a s H c Q E Λ l m
 exact⟨t,h.JH,q⟩
theorem vi{K:ϧ}
  (T:PyProof.Rows.Top pT loose mean mg mb s₁.heap) (hT:PySem.W.CodeHd s₁.heap c Tb/\s₁.heap.get? Tb=Α (PySem.W.tabObj #[])) (nK:PySem.W.noTabs K=Δ)
  (R:K.In s₁.heap) (hg:s₁.gens=#[])
  (t:s₁.heap.get? a=Α {cls:=.type "list",data:=.seq vs.toArray}) (hi:œ vs ns) (hl:ns.length<=ό) (hr:Ea k HV)
  (F:∀μ:Ü,K.In μ->μ.Ns Ϥ mg->KC mg μ c Tb->DQ P w K mg μ CX k fa fd [x] sp) (Q3:∀(s:Ψ)(u:Τ),Nd s fd ⟨[u],[]⟩ [(x,u)])
  (Ih:∀H:Hp,H Tb=Α (.Fj #[])->DT K H a (ns.map V.int)->sp [.ref a] H (λv _=>v=.bl Δ) λ_ _ _=>False)
  (WI:∀H e i,CX [] H s₁ (λ_ _ _=>False) e i->False):
  ū (Ϣ P w) HV (.call (.ref fa) ⟨[.ref a],[]⟩) (λr i=>r=.ok (.ret (.bool Δ))/\OldK s₁.heap i.heap/\i.os=s₁.os/\c1 i.gens) s₁:=by
 have rv:=jl hi
 have WJ:=hi.length
 obtain⟨hC,j⟩:=hT
 have D:a≠Tb:=λe=>by rw[e,j]at t;cases t
 have KT:K.lookup Tb=Β:=by
  cases q:K.lookup Tb with
  |none=>rfl
  | some o =>
   have e:=R _ _ q
   rw[j]at e;cases e
   have S:=Ŏ.mp nK (Tb,_) (PySem.W.mem_of_lookupK q)
   exact Κ (S) ϝ
 have p:∀H:Hp,H Tb=Α (.Fj #[])->(∀b,b≠Tb->H b=Β∨∃o xs,H b=Α (.FZ o (.π xs)))->DT K H a (ns.map V.int)->Fx P w H s₁.heap->(∀b,H b≠Β->b=a∨b=Tb)->(H a≠Β->K.lookup a=Β)->
   ū (Ϣ P w) HV (.call (.ref fa) ⟨[.ref a],[]⟩) (λr i=>r=.ok (.ret (.bool Δ))/\OldK s₁.heap i.heap/\i.os=s₁.os/\c1 i.gens) s₁:=by
  intro H E hO hS DY U hK
  have base_of:∀{b:Ν}{o:Obj},s₁.heap.get? b=Α o->H b=Β->(lP s₁.heap H).get? b=Α o:=λe n=>yq e n
  have G:∀{b:Ν}{o:Obj},s₁.heap.get? b=Α o->o.cls≠.type "list"->o.cls≠.none->H b=Β:=λ{b o} e d1 d2=>by
   cases q:H b with
   |none=>rfl
   | some u =>
    rcases U b (by rw[q];simp) with z|z
    ·subst z;rw[t]at e;cases e;exact Κ Λ d1
    ·subst z;rw[j]at e;cases e;exact Κ Λ d2
  have Lb:∀{b:Ν}{o:Obj}{y:Array DictEntry}{A:Nat},s₁.heap.get? b=Α o->o.data=.dict y A->H b=Β:=λ{b o y A} e d=>by
   cases q:H b with
   |none=>rfl
   | some u =>
    rcases U b (by rw[q];simp) with z|z
    ·subst z;rw[t]at e;cases e
     have d':=d
     cases d'
    ·subst z;rw[j]at e;cases e;cases d
  have O:∀{b:Ν}{m:Str->Option Τ},s₁.heap.Ns b m->(lP s₁.heap H).Ns b m:=λ{b m} ⟨o,y,A,e,d,r⟩=>⟨o,y,A,base_of e (Lb e d),d,r⟩
  have I:=λb o e=>base_of (R b o e) (by
   cases q:H b with
   |none=>rfl
   | some u =>
    rcases U b (by rw[q];simp) with z|z
    ·subst z;rw[hK (by rw[q];simp)]at e;cases e
    ·subst z;rw[KT]at e;cases e)
  have hM:Mod K mg (lP s₁.heap H):=⟨I,O T.g,⟨mb,O T.b,T.builtins⟩,let ⟨mc,h1,S⟩:=T.nolimit;⟨mc,O h1,S⟩⟩
  have hN:KC mg (lP s₁.heap H) c Tb:=by
   have gP:Ϥ≠Tb:=λq=>by
    obtain⟨o,y,A,e,X,_⟩:=T.g
    rw[q,j]at e;cases e;cases X
   obtain⟨bm,Q,b1,b2,B,Y,b5,Z⟩:=T.bmain
   have J:=Y
   refine⟨⟨bm,Q,b1,b2,λq=>?_,λq=>?_,base_of B (G B (by rw[J];simp) (by rw[J];simp)),Y,b5,Z⟩,?_,gP⟩
   ·obtain⟨o,y,A,e,X,_⟩:=T.g
    rw[q,e]at B;cases B;rw[X]at Z;cases Z
   ·rw[q,j]at B;cases B;cases Y
   ·obtain⟨o,vs',file,tf,flags,tg,inF,text,tt,L,M,r⟩:=hC
    exact⟨o,_,_,_,_,_,_,_,_,base_of L (G L (by rw[M];simp) (by rw[M];simp)),M,r⟩
  have e0:Ie P w K mg (lP s₁.heap H) HV [] s₁ H:=⟨Λ,hM,λb o e=>Ah e,ń (vq _ _),trivial,λb f=>Κ (show b∈([]:List Ν) from f) (by simp),DY,.of_eq hg⟩
  refine ķ ((F _ I (O T.g) hN).run HV [] s₁ H ⟨[.ref a],[]⟩ [.ref a] [.ref a] _ _ hr e0 (Q3 s₁ (.ref a)) (.cons Λ .nil) (Ih H E hS)) λr i h=>?_
  cases r with
  |error e=>exact(WI H e i h).elim
  | ok fl =>
   cases fl with
   |next=>exact Ô h
   |brk=>exact Ô h
   |cont=>exact Ô h
   | ret u =>
    obtain⟨v,H',os,N,un,Q4,r',q⟩:=h
    have q':=q
    subst q'
    obtain rfl:u=PV Δ:=r'
    have keep:=λb o C e=>by
     cases q:H b with
     |none=>exact un.keep b o e q (by intro z;exact Κ (show b∈([]:List Ν) from z) (by simp)) (by simp)
     | some u =>
      rcases hO b C with z|⟨Q,xs,z⟩
      ·rw[q]at z;cases z
      ·have z2:=un.FE b Q _ z
       obtain⟨L,_⟩:=DY b _ z
       obtain⟨M,_⟩:=Q4 b _ z2
       rw[e]at L;cases L
       exact M
    obtain⟨more,hm⟩:=un.FF Tb _ E
    have gm:=Q4 Tb _ hm
    refine⟨Λ,⟨λb o e=>?_,λb o e=>?_⟩,os,N⟩
    ·by_cases f:b=Tb
     ·subst f;rw[j]at e;cases e
      exact .inr (.inl ⟨(hC.tab j).isCodeTable,Λ,#[],more,Λ,gm⟩)
     ·exact .inl (keep b o f e)
    ·by_cases f:b=Tb
     ·subst f;exact⟨_,gm⟩
     ·exact⟨o,keep b o f e⟩
 cases hk:K.lookup a with
 | some o =>
  have e:=R a o hk
  rw[t]at e
  cases e
  refine p (λb=>if b=Tb then Α (.Fj #[]) else Β) (Ι Λ) (λb C =>.inl (Θ C)) (.inr ⟨_,vs.toArray,_,hk,Λ,Λ,Λ,by rw[Ϩ,WJ];exact hl,by simpa using rv⟩) (λb u z=>?_) (λb z=>?_) λz=>Κ (Θ D) z
  ·by_cases f:b=Tb
   ·have l:=(Ι f).symm.trans z
    cases l
    subst f
    exact j
   ·have l:=(Θ f).symm.trans z
    cases l
  ·by_cases f:b=Tb
   ·exact .inr f
   ·exact Κ (Θ f) z
 | none =>
  refine p (λb=>if b=Tb then Α (.Fj #[]) else if b=a then Α (.FZ {cls:=.type "list",data:=.seq vs.toArray} (.π (ns.map V.int))) else Β) (Ι Λ) (λb C=>?_) (.inl (.inr ⟨{cls:=.type "list",data:=.seq vs.toArray},(Θ D).trans (Ι Λ)⟩)) (λb u z=>?_) (λb z=>?_) λ_=>hk
  ·by_cases f:b=a
   ·exact .inr ⟨_,_,(Θ C).trans (Ι f)⟩
   ·exact .inl ((Θ C).trans (Θ f))
  ·by_cases f:b=Tb
   ·have l:=(Ι f).symm.trans z
    cases l
    subst f
    exact j
   ·have z:=(Θ f).symm.trans z
    by_cases f:b=a
    ·have l:=(Ι f).symm.trans z
     cases l
     subst f
     exact⟨t,by rw[ϊ];exact hl,_,_,rv,t⟩
    ·have l:=(Θ f).symm.trans z
     cases l
  ·by_cases f:b=Tb
   ·exact .inr f
   ·by_cases Ql:b=a
    ·exact .inl Ql
    ·exact Κ ((Θ f).trans (Θ Ql)) z
theorem B4{K:ϧ}(a:ł K Ϥ x=Α (Α (.ref f)))(l:K.lookup f=Α ⟨oc,od,.func fd,Hw⟩)(b:fd.code=.ref c)(d:K.lookup c=Α ⟨oT,dT,.fields vT,sT⟩)(e:vT[11]?=Α (.ref Tb)):
  PySem.W.tabIn K x=Α (c,Tb):=by
 unfold PySem.W.tabIn
 rw[a];dsimp only;rw[l];dsimp only;rw[b];dsimp only;rw[d];dsimp only;rw[e]
theorem Ki{l:PySem.W.OpenLaw}{XP:(Str->Option Τ)->Ü->Prop}{K:Params->ϧ}{CX:Î->qU}{sp:Î->Ν->Sp}
  (J:l.most=Α n) (L:n<=ό) (M:d.params.defaults=[]) (N:Ea k HV)
  (O:∀(w:Î)(h:Ü),YP w h->(K w.params).In h) (P:(IJ q).find? (λe=>e.name == y)=Α dd) (Q:∀p,PySem.W.noTabs (K p)=Δ)
  (F:∀(w:Î)(j:Str->Option Τ)(t:Ν)(h:Ü),(K w.params).In h->h.Ns Ϥ j->j d.name=Α (.ref t)->
   ∃(A:Ý)(c b:Ν),PySem.W.tabIn (K w.params) y=Α (c,b)/\(∀(s:Ψ)(u:Τ),Nd s A ⟨[u],[]⟩ [(x,u)])/\
    ∀μ:Ü,(K w.params).In μ->μ.Ns Ϥ j->KC j μ c b->DQ l.prog w (K w.params) j μ (CX w) k t A [x] (sp w b))
  (R:∀(w:Î)(H:Hp)(a:Ν)(z:List Int)(b:Ν),z.length<=n->H b=Α (.Fj #[])->DT (K w.params) H a (z.map V.int)->sp w b [.ref a] H (λv _=>v=.bl Δ) λ_ _ _=>False)
  (S:∀(w:Î)(H:Hp)(s:Ψ)(e:Τ)(B:Ψ),CX w [] H s (λ_ _ _=>False) e B->False):
  PySem.W.WalkO q loose XP YP l.row.toRowW d [] (λf E=>PySem.call f E):=by
 refine Att.Ik J M λw I r j mb t o pm cd U a E z G Y ho hd GG C X m i Z=>?_
 have D:=O w _ Y
 obtain⟨A,c,b,WK,hb,hF⟩:=F w j t _ D G.T.g C
 exact vi G.T (PySem.W.tab_of G.T D P WK) (Q _) D Z X m (À i L) N hF hb (λH hO hS=>R w H a z b i hO hS) λH e B=>S w H r e B
theorem CV{K:ϧ}
  (lk:μ.get? f=Α (PySem.W.kla_obj name qual params body scope clos pm c' Hq)) (K4:μ.get? c'=Α oc) (GG:sR oc qual) (S:qS N ps l scope) (C:WG μ clos l g)
  (len:∀D H Q E,sp D H Q E->D.length=ps.length)
  (Ft:∀(A:Ø)(d:List Env)(s:Ψ)(H:Hp)(D:List V)(Q:VK)(E:XK),Ea k (A.deeper (PySem.W.envX qual scope s.heap.objs.size f (.ref c') clos))->sp D H Q E->
   ∃t,PE (WH CX P w K mg μ N qual scope f (.ref c') clos A d s H E) body t/\t ((D++g).map Α) H Q):
  DQ P w K mg μ CX (k+1) f (PySem.W.kla_fn name qual params body scope clos pm (.ref c') Hq) ps sp:=by
 refine⟨len,λA d s H args us D Q E R G hb r Ih=>?_⟩
 have T:=len _ _ _ _ Ih
 have bk:=λb o e=>(G.bs b o e).1
 have lim:=G.mod.nolimit.keeps bk
 obtain⟨vv,tq,U,X⟩:=GG
 have hlen:ps.length=us.length:=by rw[←T];exact r.length
 refine PySem.W.kla_callFunE R.depth (bk _ _ lk) Λ S.co S.gen Λ ⟨c',oc,vv,tq,Λ,bk _ _ K4,U,X⟩ (hb _ _ _ _ ?_)
 refine WM S.FQ (λy L=>S.par y.1 (OW (a:=y.1) (b:=y.2) L).1) (λm O6 JY=>⟨lim.fresh _ JY,?_⟩) S.kind
 have Y:=λb o e=>JY.extBut b o (Ã (lt_size e)) (Ο _ e)
 refine PySem.W.kla_codeExpr ?_
 obtain⟨t,ht,hq⟩:=Ft A d s H D Q E (R.deeper _) Ih
 have Z:∀b:Ν,b∉(WH CX P w K mg μ N qual scope f (.ref c') clos A d s H E).ex:=λb z=>Κ (show b∈([]:List Ν) from z) (by simp)
 have n:∀x c,clos.lookup x=Α c->∃(v:V)(u:Τ)(i:Nat),l[i]?=Α x/\g[i]?=Α v/\RelV v u/\μ.IsCell c (Α u):=λx c hx=>by
  obtain⟨i,hi,e⟩:=ĵ (C.only x c hx)
  have OB:l[i]?=Α x:=by rw[Μ hi,e]
  have get:∀(l:List Str)(g:List V)(i:Nat)(x:Str),Paired (λ(x:Str)(v:V)=>∃c u,clos.lookup x=Α c/\RelV v u/\μ.IsCell c (Α u)) l g->l[i]?=Α x->∃v,g[i]?=Α v/\∃c u,clos.lookup x=Α c/\RelV v u/\μ.IsCell c (Α u):=by
   intro l g i x M
   induction M generalizing i with
   |nil=>intro e;simp at e
   | @cons a b _ _ r _ O =>
    intro e
    cases i with
    |zero=>simp at e;subst e;exact⟨b,Λ,r⟩
    |succ i=>simpa using O i (by simpa using e)
  obtain⟨v,X,c2,u,m,B,h3⟩:=get l g i x C.at' OB
  rw[hx]at m;cases m
  exact⟨v,u,i,OB,X,B,h3⟩
 have IV:∀c u,μ.IsCell c (Α u)->H c=Β/\m.IsCell c (Α u):=λc u DS=>by obtain⟨o,ho,U⟩:=DS;exact⟨(G.bs c o ho).2,o,Y _ _ (bk _ _ ho),U⟩
 have I:ς (WH CX P w K mg μ N qual scope f (.ref c') clos A d s H E) [] ((D++g).map Α) H {s with heap:=m,toks:=s.toks+(ps.zip us).length}:=by
  refine⟨⟨G.mod,S.kind,Λ,Λ,Ρ _,C.inj,λy L=>?_,λy c h=>Κ h (by show ¬(Ε=Δ);decide),λ_=>R.hd,Nm G.frames,.inr ⟨Λ,Λ⟩,λb z=>Κ z (Z b),G.bs,G.Jh,λb _ _=>Z b,λb z=>Κ z (Z b),G.Fb,G.JG⟩,
   rfl,G.bare,Un.kept Y,⟨_,O6,λi y v m B h3=>?_⟩,λy c h=>?_,G.DY.fresh (Ρ _),λy c h=>?_,λp M=>Κ (show p∈([]:List (Ν×Obj)) from M) (by simp),G.DY.kept Y,?_⟩
  ·have L:=L
   rcases L with L|L
   ·exact Κ Λ (S.FQ _ (PySem.mem_of_lookup L))
   ·have hm:=S.all _ (PySem.mem_of_lookup L) Λ
    have:∀(l:List Str)(g:List V),Paired (λ(x:Str)(v:V)=>∃c u,clos.lookup x=Α c/\RelV v u/\μ.IsCell c (Α u)) l g->y∈l->∃c,clos.lookup y=Α c:=by
     intro l g M
     induction M with
     |nil=>intro h;cases h
     | cons r _ O =>
      intro h
      rcases ϥ.mp h with rfl|h
      ·obtain⟨c,_,e,_⟩:=r;exact⟨c,e⟩
      ·exact O h
    exact this l g C.at' hm
  ·have m:N[i]?=Α y:=m
   have B:=B
   rw[Å]at B
   have B:(D++g)[i]?=Α v:=by
    cases q:(D++g)[i]? with
    |none=>rw[q]at B;cases B
    |some z=>rw[q]at B;cases B;rfl
   rw[S.pre]at m
   by_cases hi:i<D.length
   ·rw[Ϫ hi]at B
    rw[Ϫ (by omega)]at m
    obtain⟨u,hu,rv⟩:=r.get B
    have TB:=(kA.mp (S.pre▸S.nd)).1
    exact⟨u,rv,.inl ⟨S.par y (Ϙ m),rR TB m hu⟩⟩
   ·rw[Ĭ (æ ‹_›)]at B
    rw[Ĭ (by omega),←T]at m
    have hyf:=Ϙ m
    have:∀(l:List Str)(g:List V)(j:Nat),Paired (λ(x:Str)(v:V)=>∃c u,clos.lookup x=Α c/\RelV v u/\μ.IsCell c (Α u)) l g->l[j]?=Α y->g[j]?=Α v->∃c u,clos.lookup y=Α c/\RelV v u/\μ.IsCell c (Α u):=by
     intro l g j M
     induction M generalizing j with
     |nil=>intro e;simp at e
     | cons r _ O =>
      intro e1 e2
      cases j with
      |zero=>simp at e1 e2;subst e1;subst e2;exact r
      |succ j=>exact O j (by simpa using e1) (by simpa using e2)
    obtain⟨c,u,hc,ru,FW⟩:=this l g _ C.at' m B
    exact⟨u,ru,.inr ⟨.inr (S.free y hyf),c,hc,(IV c u FW).2⟩⟩
  ·obtain⟨v,u,i,_,_,_,h4⟩:=n y c h
   exact⟨_,(IV c u h4).2⟩
  ·obtain⟨v,u,i,_,_,_,h4⟩:=n y c h
   exact(IV c u h4).1
  ·show((D++g).map Α).length=N.length
   rw[ϊ,ϗ,S.pre,ϗ,T,Paired.length C.at']
 exact Ò (ht [] _ _ H Q I hq) (λu s' DS=>by obtain⟨v,H',J,rv,q⟩:=DS;exact⟨v,_,J.os,J.bare,J.μ,J.DY,rv,q⟩) λe s' hs=>hs
theorem qz{n:Nat}(y:A.handled=Β)(B:Uk s.heap r 0 (n:Int) 1 t u v)(G:n<64)
  (h:∀d g (acc:Array Τ),(∀b o,s.heap.get? b=Α o->d.get? b=Α o)->ItemsOf (λi v=>∃t,v=.int (0+i* 1) t) acc n->Q acc.toList {s with heap:=d,toks:=g}):
  ϣ (Ϣ prog w) A (collect (.ref r)) Q E s:=by
 unfold collect
 refine Ξ (wpAny_runValue (codeAny_builtin F.entry_proto_collect ?_))
 rw[Ni F.plain_proto_collect _]
 refine Ξ (Ő ?_)
 refine Ϡ ⟨plainId_quiet Yq _,codeAny_builtin F.entry_list_iadd ?_⟩
 rw[Ni Yq _]
 have fin:∀(d:Ü)(g:Nat)(acc:Array Τ)(m:Nat),(∀b o,b≠s.heap.objs.size->(s.heap.push {cls:=.type "list",data:=.seq #[]}).get? b=Α o->d.get? b=Α o)->d.get? s.heap.objs.size=Α {cls:=.type "list",dict:=Β,data:=.seq acc m,slots:=#[]}->ItemsOf (λi v=>∃t,v=.int (0+i* 1) t) acc n->
   ϣ (Ϣ prog w) A (load s.heap.objs.size >>=λo=>match o.data with|.seq xs _=>pure xs.toList|_=>unsupported "internal:collect") Q E {s with heap:=d,toks:=g}:=λd g acc m keep p it =>
  Ξ (wpAny_load p (Ϡ (h d g acc (λb o e=>keep b o (Ã (lt_size e)) (Ο _ e)) it)))
 refine Ò (wpAny_extend_range (s:={s with heap:=s.heap.push {cls:=.type "list",data:=.seq #[]}}) (R:=λr q=>∃d g acc m,r=.ok (.ret (.ref s.heap.objs.size))/\q={s with heap:=d,toks:=g}/\(∀b o,b≠s.heap.objs.size->(s.heap.push {cls:=.type "list",data:=.seq #[]}).get? b=Α o->d.get? b=Α o)/\d.get? s.heap.objs.size=Α {cls:=.type "list",dict:=Β,data:=.seq acc m,slots:=#[]}/\ItemsOf (λi v=>∃t,v=.int (0+i* 1) t) acc n)
  (r:=r) (a:=0) (b:=(n:Int)) (c:=1) (n:=n) y (Ο _ B) (small_one (Φ _) (Φ _) (Φ _) (by omega)) (by rw[PM];split<;>omega) (by omega) s.heap.objs.size (.ref s.heap.objs.size) 0 (ϡ _ Λ) λd g acc m keep p it=>⟨d,g,acc,m,Λ,Λ,keep,p,it⟩) (λC q x=>?_) λe q D=>by obtain⟨_,_,_,_,z,_⟩:=D;cases z
 cases C with
 | done f =>
  obtain⟨d,g,acc,m,z,rfl,keep,p,it⟩:=x
  cases z
  exact fin d g acc m keep p it
 | again m =>
  refine⟨x.1,ķ x.2 λr q ⟨d,g,acc,m,z,e,keep,p,it⟩=>?_⟩
  subst z e
  exact fin d g acc m keep p it
structure DL(X:Cx)(ν:List (Ν×Obj))(b:Ν):Prop where
 h0:X.s₀.heap.objs.size<=b
 hL:b≠X.env.locals
 hc:∀x c,X.env.cells.lookup x=Α c->c≠b
 hp:∀p∈X.pn++ν,p.1≠b
 hf:b∉X.fs
section
variable {X:Cx}{ν:List (Ν×Obj)}{σ:St}{H:Hp}{s:Ψ}{a b:Ν}
theorem ς.fsh(I:ς X ν σ H s)(h:s.heap.objs.size<=b):DL X ν b:=
 ⟨À I.sz h,Ĩ (ϛ I.lt h),λx c e z=>by
  obtain⟨v,o,d,_⟩:=I.cell x c e
  exact Ĺ _ (ϛ (lt_size d) (z▸h)),λp f z=>Ĺ _ (ϛ (lt_size (I.pin p f).1) (z▸h)),I.KW h⟩
theorem ς.Q5(I:ς X ν σ H s)(i:H a=Β)(F:DL X ν a)(new:Ek X.prog X.w (ο H a o) s.heap a o):ς X ν σ (ο H a o) s:=by
 have ne:∀b u,H b=Α u->b≠a:=λb u e z=>by rw[z,i]at e;cases e
 refine⟨I.ok,I.os,I.bare,⟨I.μ.keep,I.μ.slot,λb f e n x=>?_,I.μ.there,λb xs e=>?_,λb f u e=>?_,λb j e=>?_⟩,I.loc,I.cell,by rw[ag (Ϟ F.hL)];exact I.free,λx c e=>by rw[ag (F.hc x c e)];exact I.Ew x c e,λp h=>?_,λb u e=>?_,I.len⟩
 ·rw[ag (Ã (ϛ (lt_size e) F.h0))];exact I.μ.free b f e n x
 ·have:=I.μ.FN b xs e;rw[ag (ne _ _ this)];exact this
 ·have:=I.μ.FE b f u e;rw[ag (ne _ _ this)];exact this
 ·obtain⟨m,this⟩:=I.μ.FF b j e;exact⟨m,by rw[ag (ne _ _ this)];exact this⟩
 ·obtain⟨l,r,t⟩:=I.pin p h
  exact⟨l,by rw[ag (F.hp p h)];exact r,t⟩
 ·by_cases z:b=a
  ·subst z;rw[ac]at e;cases e;exact new
  ·rw[ag z]at e
   exact(I.DY b u e).EM (λ_ _ _ q=>q) (λd g=>by rw[ag (ne _ _ g)];exact g) λd xs g=>by rw[ag (ne _ _ g)];exact g
theorem ς.alter(I:ς X ν σ H s)(k:∀b o,b≠a->s.heap.get? b=Α o->h'.get? b=Α o)(d:H a=Β)(F:DL X ν a):ς X ν σ H {s with heap:=h'}:=
 I.turned (t':=s.toks) k d F.hL (.inr F.h0) F.hc F.hp
end
section
variable {prog:Program}{w:Î}{A:Ø}{E:Τ->Ψ->Prop}{s:Ψ}{a kS:Ν}{vs:List Τ}{kz:List Int}{keys:Array Τ}{e e1:Nat}{P:PySem.Fin->Ψ->Prop}
theorem pk{st:SortSt}(nk:s.heap.get? kS=Α (ù "list" keys e))(n:s.heap.get? a=Α (ù "list" #[] e1))(o:kS≠a)
  (d:œ keys.toList kz) (f:kz.length=vs.length) (p:vs.length<64) (g:(arrOf st).Perm (keys.zip vs.toArray)) (q:SortedTo (arrOf st) (arrOf st).size) (r:failedOf st=Β)
  (h:∀out:Array Τ,out.size=vs.length->KskOut Ε kz vs out.toList->P (.done (.ret .none)) {s with heap:=(s.heap.update kS (ß λ_=>(#[]:Array Τ))).update a (ß λ_=>out)}):
  ϣ (Ϣ prog w) A (ksk_tail a Ε e1 (.ref kS) st) P E s:=by
 have c:keys.size=vs.length:=by
  have t:=d.length
  rw[ĉ]at t
  omega
 have j:((arrOf st).map (·.2)).size=vs.length:=by rw[Array.size_map,g.size_eq,Array.size_zip,c,Ϩ,Nat.min_self]
 have l:=((Ŷ s.heap kS (ß λ_=>(#[]:Array Τ))).2 a o.symm).trans n
 have m:=ksk_out (b:=Ε) d g q
 simp only[ÿ,if_false]at m
 unfold ksk_tail
 try dsimp only
 simp only[ÿ,if_false]
 refine Ξ (zz nk Λ ?_ (by rw[c,Ω];omega) (Ϧ _))
 refine Ξ (wpAny_letGo ?_)
 refine Ξ (seqEpoch_at l Λ ?_)
 refine Ξ (zz l Λ ?_ (Ϧ _) (À (ń j) (by rw[Ω];omega)))
 rw[r]
 simp only[bne_self_eq_false,ÿ,if_false]
 exact Ϡ (h _ j m)
theorem za(nk:s.heap.get? kS=Α (ù "list" keys e))(n:s.heap.get? a=Α (ù "list" #[] e1))(o:kS≠a)
  (f:œ keys.toList kz) (b:kz.length=vs.length) (c:vs.length<64)
  (h:∀out:Array Τ,out.size=vs.length->KskOut Ε kz vs out.toList->P (.done (.ret .none)) {s with heap:=(s.heap.update kS (ß λ_=>(#[]:Array Τ))).update a (ß λ_=>out)}):
  ϣ (Ϣ prog w) A (ksk_end a Ε vs.toArray e1 (.ref kS) keys) P E s:=by
 have g:keys.size=vs.length:=by
  have r:=f.length
  rw[ĉ]at r
  omega
 have m:(keys.zip vs.toArray).size=vs.length:=by rw[Array.size_zip,g,Ϩ,Nat.min_self]
 unfold ksk_end
 try dsimp only
 simp only[ÿ,if_false]
 by_cases d:vs.toArray.size<2
 ·rw[Ι d,Ι d]
  refine Ξ (Ϡ ?_)
  rw[StateT.run_pure]
  refine Ξ (Ϡ ?_)
  try dsimp only
  refine pk (st:=SortSt.mk' general' (keys.zip vs.toArray) #[] 7 Β) nk n o f b c (Array.Perm.refl _) ?_ Λ h
  intro i j C t
  have u:=t
  rw[m]at u
  rw[Ϩ]at d
  have:i=j:=by omega
  subst this
  exact Ĉ _
 ·rw[Θ d,Θ d]
  rw[Ϩ]at d
  rw[ksk_kind f (by rw[g];exact æ ‹_›)]
  refine Ξ (Ϡ ?_)
  refine Ξ (Ò (wpS_sortRuns (a₀:=keys.zip vs.toArray) (st:=SortSt.mk' oneType' (keys.zip vs.toArray) #[] 7 Β)
   (Q:=λ_ l=>(arrOf l).Perm (keys.zip vs.toArray)/\failedOf l=Β/\SortedTo (arrOf l) (keys.zip vs.toArray).size)
   (ksk_intKeys f) ⟨Array.Perm.refl _,Λ,Λ,Λ⟩ (by rw[m];exact æ ‹_›) (by rw[m];exact c) λl v x y=>⟨v,x,y⟩) ?_ λ_ _ e=>e)
  rintro⟨⟨⟩,l⟩ D ⟨rfl,q,z,B⟩
  try dsimp only
  exact pk nk n o f b c q (by rw[q.size_eq];exact B) z h
end
section
variable {X:Cx}{ν:List (Ν×Obj)}{σ:St}{H:Hp}{s:Ψ}{A:Ø}{E:Τ->Ψ->Prop}{a kS:Ν}{vs:List Τ}{kz:List Int}{e1:Nat}{P:PySem.Fin->Ψ->Prop}{f:Τ}
theorem vY(I:ς X ((kS,ù "list" #[] 0):: (a,ù "list" #[] e1):: ν) σ H s)(L:kS≠a)(m:DL X ν kS)(Q:DL X ν a)(C:kz.length=vs.length)(M:vs.length<64)
  (D:∀(i:Nat)(v:Τ)(k:Int),vs[i]?=Α v->kz[i]?=Α k->∀(l:List (Ν×Obj))(c:Ψ),ς X l σ H c->ϣ (Ϣ X.prog X.w) A (call f [v]) (λu F=>(∃t,u=.int k t)/\ς X l σ H F) (λ_ _=>False) c)
  (h:∀(out:List Τ)(c:Ψ),KskOut Ε kz vs out->(∀xs,τ xs out->xs.length<64->ς X ν σ (ο H a (.π xs)) c)->P (.done (.ret .none)) c):
  ϣ (Ϣ X.prog X.w) A (ksk_rest a f Ε vs.toArray e1 (.ref kS)) P E s:=by
 unfold ksk_rest
 refine Ξ (za0 ?_)
 first
  |rw[List.forIn_toArray]
  |(rw[←QP];simp only[List.toList_toArray])
  |rw[←QP]
 refine Ξ (ksk_fold (λi c=>∃(g:Array Τ)(e:Nat),ς X ((kS,ù "list" g e):: (a,ù "list" #[] e1):: ν) σ H c/\œ g.toList (kz.take i)) vs 0 s
  ⟨#[],0,I,by simpa using œ.nil⟩ ?step ?done)
 case step =>
  rintro j x c J ⟨g,e,y,B⟩
  simp only[OE]at B⊢
  have hj:=(gQ0 J)
  obtain⟨k,hkj⟩:∃k,kz[j]?=Α k:=⟨_,Μ (by omega)⟩
  have hz:g.size<=vs.length:=by
   have Y:=B.length
   rw[ĉ,Š]at Y
   omega
  refine Ξ (wpAny_attempt (Ò (D j x k J hkj _ c y) (λv F Z=>?_) λ_ _ hF=>hF.elim))
  obtain⟨⟨n,rfl⟩,N⟩:=Z
  try dsimp only
  obtain⟨nk,R,hL,hf,_⟩:=N.pin (kS,ù "list" g e) (ϫ _ (.head _))
  have ek:kz.take (j+1)=kz.take j++[k]:=by rw[List.take_add_one,hkj];simp
  have ea:(g.push (Ĝ k n)).toList=g.toList++[Ĝ k n]:=by simp
  obtain⟨r,GL⟩:∃r,(F.heap.update kS (ß (·.push (.int k n)))).get? kS=Α (ù "list" (g.push (.int k n)) r):=⟨_,Mp nk (·.push (.int k n))⟩
  refine Ξ (zz nk Λ ?_ (by rw[Ω];omega) (À (ń (Array.size_push ..)) (by rw[Ω];omega)))
  have O:=N.E6 λp d=>N.pin p (ϫ _ (.tail _ d))
  have K:=O.alter (h':=F.heap.update kS (ß (·.push (.int k n)))) (λb o G q=>by rw[û _ _ _ _ G];exact q) R ⟨m.h0,m.hL,m.hc,λp d=>(by
   rcases ϯ.mp d with d|d
   ·exact m.hp p (Í _ d)
   ·rcases ϥ.mp d with rfl|d
    ·exact Ϟ L
    ·exact m.hp p (ϫ _ d)),m.hf⟩
  refine Ϡ ⟨Λ,g.push (.int k n),r,K.E6 λp d=>?_,by rw[ea,ek];exact ksk_snoc B⟩
  rcases ϥ.mp d with rfl|d
  ·exact⟨GL,R,hL,hf,by intro v z;cases z⟩
  ·exact K.pin p (ϫ _ d)
 case done =>
  rintro c ⟨g,e,y,B⟩
  have Jm:œ g.toList kz:=by
   have e3:kz.take (0+vs.length)=kz:=ec (by omega)
   rw[e3]at B
   exact B
  obtain⟨nk,WN,_⟩:=y.pin (kS,ù "list" g e) (ϫ _ (.head _))
  obtain⟨S,T,_⟩:=y.pin (a,ù "list" #[] e1) (ϫ _ (.tail _ (.head _)))
  try dsimp only
  refine Ξ (listItems_at nk Λ ?_)
  refine za nk S L Jm C M λout hsz ko=>h out.toList _ ko λxs J U=>?_
  have O:=y.E6 λp d=>y.pin p (ϫ _ (.tail _ (.tail _ d)))
  have K:=O.alter (h':=c.heap.update kS (ß λ_=>(#[]:Array Τ))) (λb o G q=>by rw[û _ _ _ _ G];exact q) WN m
  have Ud:(c.heap.update kS (ß λ_=>(#[]:Array Τ))).get? a=Α (ù "list" #[] e1):=by rw[û _ _ _ _ (Ϟ L)];exact S
  have I5:=K.alter (h':=(c.heap.update kS (ß λ_=>(#[]:Array Τ))).update a (ß λ_=>out)) (λb o G q=>by rw[û _ _ _ _ G];exact q) T Q
  obtain⟨r,GL⟩:∃r,((c.heap.update kS (ß λ_=>(#[]:Array Τ))).update a (ß λ_=>out)).get? a=Α (ù "list" out r):=⟨_,Mp Ud λ_=>out⟩
  exact I5.Q5 T Q ⟨by rw[Ω];omega,out.toList,r,J,by simpa using GL⟩
theorem vZ{n:Nat}{g:Int->Int}(hc:X.calm=Δ)(I:ς X ν σ H s)(r:H p=Α (ij p (n:Int)))(hn:n<64)
  (D:∀(i:Nat)(t:Tok)(d:List (Ν×Obj))(F:Ψ),i<n->ς X d σ H F->ϣ (Ϣ X.prog X.w) X.A.in1.in1 (call (.ref fa) [.int (i:Int) t]) (λu Ig=>(∃t',u=.int (g i) t')/\ς X d σ H Ig) (λ_ _=>False) F)
  (q:∀(l:Ν)(U:List Int),H l=Β->U.Perm ((ϋ n).map λi:Nat=>(i:Int))->U.Pairwise (λx y=>g x<=g y)->Q (.ref l) (ο H l (.π (U.map V.int)))):
  ϣ (Ϣ X.prog X.w) X.A (call (.builtin "sorted") [.ref p] [(Oc "key",.ref fa)]) (EP X ν σ Q) X.xe s:=by
 obtain⟨t,u,v,Y⟩:∃t u v,Uk s.heap p 0 (n:Int) 1 t u v:=(I.DY _ _ r).1
 refine call_function_entry_kw kind_sorted plain_sorted entry_sorted (ksk_s1 _ _) ?_
 unfold Builtin.«sorted»
 refine Ξ (m:=checkCount "sorted" 1 1 _) (Ϡ ?_)
 refine Ξ (qz (I.ok.hd hc) Y hn λc B acc k1 it=>?_)
 have Z:ς X ν σ H {s with heap:=c,toks:=B}:=I.kept k1
 have L:acc.toList.length=n:=by rw[ĉ];exact it.1
 have M:∀(i:Nat)(x:Τ),acc.toList[i]?=Α x->i<n/\∃t,x=.int (i:Int) t:=λi x hx=>by
  have C:i<n:=by have:=(gQ0 hx);omega
  obtain⟨B,rfl⟩:=it.2 i x (by simpa using hx)
  exact⟨C,B,by rw[mul_one,Þ]⟩
 have N:œ acc.toList ((ϋ n).map λi:Nat=>(i:Int)):=by
  have e:acc.toList.map R5=(ϋ n).map λi:Nat=>(i:Int):=by
   refine Ya (by rw[ϊ,ϊ,ã];exact L) λi c j=>?_
   rw[ϊ]at c
   obtain⟨_,t,e⟩:=M i _ (Μ c)
   rw[š,š,Si,e];rfl
  rw[←e]
  refine intsAre_map _ λv G=>?_
  obtain⟨i,C,rfl⟩:=ĵ G
  obtain⟨_,t,e⟩:=M i _ (Μ C)
  exact⟨_,_,e⟩
 generalize Jn:acc.toList=vs at L M N
 refine Ξ (wpAny_newList ?_ (by rw[L,Ω];omega))
 have O:(c.push (ù "list" vs.toArray 0)).get? c.objs.size=Α (ù "list" vs.toArray 0):=ϡ _ Λ
 refine Ξ (ď (wpAny_call_entry_kw slot_list_sort ⟨_,O,Λ⟩ entry_list_sort ?body (ksk_l1 _ _)))
 case body =>
  rw[ksk_t1]
  have I2:ς X ν σ H {s with heap:=c.push (ù "list" vs.toArray 0),toks:=B}:=Z.kept λb o e=>Ο _ e
  have R:=Z.fsh (Ρ _)
  have OC:=Z.DY.fresh (Ρ _)
  have I3:=I2.alter (h':=(c.push (ù "list" vs.toArray 0)).update c.objs.size (ß λ_=>(#[]:Array Τ))) (λb o hb q=>by rw[û _ _ _ _ hb];exact q) OC R
  obtain⟨e1,OD⟩:∃e1,((c.push (ù "list" vs.toArray 0)).update c.objs.size (ß λ_=>(#[]:Array Τ))).get? c.objs.size=Α (ù "list" #[] e1):=⟨_,Mp O λ_=>#[]⟩
  unfold ksk_tree
  refine Ξ (listItems_at O Λ ?_)
  refine Ξ (zz O Λ ?_ (by rw[Ϩ,Ω];omega) (Ϧ _))
  refine Ξ (seqEpoch_at OD Λ ?_)
  refine Ξ (wpAny_newTuple ?_ (by show vs.length<=_;rw[Ω];omega))
  refine Ξ (wpAny_newList ?_ (Ϧ _))
  refine ď ?_
  generalize hh2:(c.push (ù "list" vs.toArray 0)).update c.objs.size (ß λ_=>(#[]:Array Τ))=j at I3 OD
  have I4:ς X ν σ H {s with heap:=j.push (ù "tuple" vs.toArray 0),toks:=B}:=I3.kept λb o e=>Ο _ e
  have hkS:c.objs.size<(j.push (ù "tuple" vs.toArray 0)).objs.size:=lt_size (Ο _ OD)
  have Fk:=I4.fsh (Ρ _)
  have WN:=I4.DY.fresh (Ρ _)
  have I5:ς X ν σ H {s with heap:=(j.push (ù "tuple" vs.toArray 0)).push (ù "list" #[] 0),toks:=B}:=I4.kept λb o e=>Ο _ e
  refine vY (kz:=(ϋ n).map λi:Nat=>g (i:Int)) (ν:=ν) (H:=H) (σ:=σ) (s:={s with heap:=(j.push (ù "tuple" vs.toArray 0)).push (ù "list" #[] 0),toks:=B}) (kS:=(j.push (ù "tuple" vs.toArray 0)).objs.size)
   (I5.E6 λp r=>?_) (Ĩ hkS) Fk R (by rw[ϊ,ã];exact L.symm) (by omega) (λi v k G hk d F J=>?_) λout F ko J=>⟨_,Λ,Ϡ ⟨_,Λ,?_⟩⟩
  ·rcases ϥ.mp r with rfl|r
   ·exact⟨ϡ _ Λ,WN,Fk.hL,Fk.hf,by intro v z;cases z⟩
   ·rcases ϥ.mp r with rfl|r
    ·exact⟨Ο _ (Ο _ OD),OC,R.hL,R.hf,by intro v z;cases z⟩
    ·exact I5.pin p (ϫ _ r)
  ·obtain⟨C,t,rfl⟩:=M i v G
   rw[Å,Qq C]at hk
   cases hk
   exact D i t d F C J
  ·obtain⟨S,T,rfl,hs⟩:=ko
   have Nx:∀K,K∈((ϋ n).map λi:Nat=>g (i:Int)).zip vs->K.1=g (R5 K.2)/\K.2∈vs:=by
    have e0:((ϋ n).map λi:Nat=>g (i:Int))=(vs.map R5).map g:=by rw[N.nums,č];rfl
    rw[e0,č,List.zip_map_left]
    intro K hpr
    obtain⟨⟨u,v⟩,hq,rfl⟩:=Ö.mp hpr
    have c:u=v/\u∈vs:=mem_zip_self hq
    refine⟨?_,?_⟩
    ·show g (R5 u)=g (R5 v)
     rw[c.1]
    ·show v∈vs
     rw[←c.1]
     exact c.2
   have hI:=intsAre_map _ λv G=>by
    obtain⟨p,FX,rfl⟩:=Ö.mp G
    exact N.all _ (Nx p (T.mem_iff.mp FX)).2
   have hP:((S.map Ï).map R5).Perm ((ϋ n).map λi:Nat=>(i:Int)):=by
    have c:=(T.map Ï).map R5
    rw[List.map_snd_zip (by rw[ϊ,ã];exact ń ‹_›),N.nums]at c
    exact c
   have hO:((S.map Ï).map R5).Pairwise (λx y=>g x<=g y):=by
    rw[JB,JB]
    refine hs.imp_of_mem λ{p q} FX GU Y=>?_
    have JX:=Y
    rw[(Nx p (T.mem_iff.mp FX)).1,(Nx q (T.mem_iff.mp GU)).1]at JX
    exact JX
   refine⟨.ref _,_,J _ (jl hI) ?_,Λ,q _ _ OC hP hO⟩
   have:=hP.length_eq
   simp only[ϊ,ã]at this⊢
   omega
end
inductive Uaz(P:Ν)(Fu:Pos)(cs:List (Nat×Str))(sps:List V->Sp)(E:XK)(σ:St)(Q:VK)(vs:List V)(H1:Hp):Prop
 |mk (p:Ν)(n:Nat)(ps:Array Τ)(EF:List V)(g:Int->Int)(_:vs=[.ref p])(_:H1 p=Α (ij p (n:Int)))(_:n<64)(_:H1 P=Α (.Fj ps))(_:TriplesOk ps.toList)(_:codeAmong Fu ps.toList=Β)(_:Paired (λ(q:Nat×Str)(v:V)=>σ[q.1]?=Α (Α v)) cs EF)(_:∀JA,(∀i:Nat,i<n->sps EF [.int (i:Int)] (ο H1 P (.Fj JA)) (λv H2=>v=.int (g i)/\H2=ο H1 P (.Fj JA)) E)/\ ∀(l:Ν)(ns:List Int),(ο H1 P (.Fj JA)) l=Β->ns.Perm ((ϋ n).map λi:Nat=>(i:Int))->ns.Pairwise (λx y=>g x<=g y)->Q (.ref l) (ο (ο H1 P (.Fj JA)) l (.π (ns.map V.int))))
def B9(X:Cx)(P:Ν)(Fu:Pos)(cs:List (Nat×Str))(sps:List V->Sp)(E:XK)(t:TA):TE:=λσ H Q=>t σ H λvs H1=>Uaz P Fu cs sps E σ Q vs H1
theorem xy 
  (hc:X.calm=Δ) (N:KC X.mg X.μ c P) (hg:Gl X "sorted") (hm:X.mg "sorted"=Β) (ha:PA X [e] t) (Q7:X.env.code=.ref c) (WO:defaultsOf params X.env=([],[])) (HG:za4 scope X.env=pure clos) (hr:Ea k X.A.in1.in1)
  (Ua:∀q∈cs,X.N[q.1]?=Α q.2/\X.env.scope.names.lookup q.2=Α .cell/\X.fn q.2=Δ)
  (F:∀f a U pm m,sR U (X.env.qual++"<lambda>")->∀EF E5,TZ (X.pinned [(f,PySem.W.kla_obj "<lambda>" (X.env.qual++"<lambda>") params body scope clos pm a m),(a,U)]) cs EF E5->
   DQ X.prog X.w X.K X.mg E5 aF k f (PySem.W.kla_fn "<lambda>" (X.env.qual++"<lambda>") params body scope clos pm (.ref a) m) [prm] (sps EF))
  (hb:∀pm a m,Binds X.K (PySem.W.kla_fn "<lambda>" (X.env.qual++"<lambda>") params body scope clos pm (.ref a) m) [prm] [])
  (he:autoParam (Đ pos (Á [e] X.env)=(Ε,eval e X.env):: Đ pos (Á [] X.env)) η) (FH:autoParam ((Đ pos (Á [e] X.env)).any (·.1)=Ε) η):
  PE X (.Call (.Name "sorted" p) [e] [⟨Α "key",.Lambda params body scope Fu,PL⟩] pos) (B9 X P Fu cs sps E t):=by
 intro x s σ H Q I h
 refine Ġ (i7 I hg hm PyProof.Rows.boot_sorted ?_ (by decide) (by decide))
 refine callWith_kw (b8 (ha pos x s σ H _ I h) λus D DS=>?_) he FH Λ Λ
 obtain⟨vs,S,j,r1,q1⟩:=DS
 obtain⟨p,n,L,EF,g,rfl,y,hn,hP,ht,Nh,hfv,q1⟩:=q1
 obtain⟨u,rfl,ru⟩:=r1.one
 obtain rfl:u=ϭ p:=ru
 have gP:=j.DY P _ hP
 obtain⟨bm,ob,b1,b2,b3,b4,b5,b6⟩:=(N.keep j.bk).bm
 refine wpAny_evalAll_cons (Ξ (PySem.W.kla_eval WO (PySem.W.kla_makeFunction HG j.ok.glob (j.mod.glob.keeps j.bk) Q7 (N.cd.keeps j.bk) gP ht Nh N.gP ⟨bm,ob,b1,b2,b3,b4,b5,b6⟩ λa m M tk EO Ny Eo Kj HJ=>Ξ (Ī (Ϡ (wpAny_evalAll_nil ?_))))))
 obtain⟨c2,U,vs,tq,e2,T2,Y,hv⟩:=Kj
 cases e2
 have T:∀b u,S b=Α u->(∀qs,u≠.Fj qs)->b≠P:=λb u e n z=>by subst z;rw[hP]at e;cases e;exact n _ Λ
 have nP:∀b,S b=Β->b≠P:=λb e z=>by subst z;rw[hP]at e;cases e
 have hPl:=lt_size gP
 have kp:∀b u,b≠P->D.heap.get? b=Α u->(M.push (PySem.W.kla_obj "<lambda>" (X.env.qual++"<lambda>") params body scope clos ((X.mg "__name__").getD .none) a m)).get? b=Α u:=λb u n e=>Ο _ (EO b u n e)
 have Z:(M.push (PySem.W.kla_obj "<lambda>" (X.env.qual++"<lambda>") params body scope clos ((X.mg "__name__").getD .none) a m)).get? P=Α (PySem.W.tabObj (L++#[ą Fu.line,ą Fu.col,.ref a])):=Ο _ HJ
 have I2:ς X x σ (ο S P (.Fj (L++#[ą Fu.line,ą Fu.col,.ref a]))) {D with heap:=M.push (PySem.W.kla_obj "<lambda>" (X.env.qual++"<lambda>") params body scope clos ((X.mg "__name__").getD .none) a m),toks:=tk}:=by
  refine j.un ⟨λb u e n _ _=>kp b u (nP b n) e,λb u e n _ _=>⟨u.slots,kp b u (nP b n) e⟩,λb u e n _=>by rw[ag (nP b n)];exact n,λb u e _=>?_,λb xs e=>?_,λb o u e=>?_,λb qs e=>?_⟩ λb u e=>?_
  ·by_cases z:b=P
   ·subst z;exact⟨_,Z⟩
   ·exact⟨u,kp b u z e⟩
  ·rw[ag (T b _ e (by intro _ z;cases z))];exact e
  ·rw[ag (T b _ e (by intro _ z;cases z))];exact e
  ·by_cases z:b=P
   ·subst z;rw[hP]at e;cases e;exact⟨_,ac⟩
   ·exact⟨#[],by rw[ag z,e];simp⟩
  ·by_cases z:b=P
   ·subst z;rw[ac]at e;cases e;exact Z
   ·rw[ag z]at e
    refine(j.DY b u e).EM (λd v hd g=>kp d v ?_ g) (λd g=>by rw[ag (T d _ g (by intro _ z;cases z))];exact g) λd xs g=>by rw[ag (T d _ g (by intro _ z;cases z))];exact g
    rcases hd with rfl|hd
    ·exact z
    ·exact T d _ hd (by intro _ z;cases z)
 have O:=ê (į Ny Eo)
 have fr1:∀b,D.heap.objs.size<=b->ο S P (.Fj (L++#[ą Fu.line,ą Fu.col,.ref a])) b=Β:=λb hb=>by
  rw[ag (Ĩ (ϛ hPl hb))];exact j.DY.fresh hb
 have I3:=I2.E6 (pins':=[(M.objs.size,PySem.W.kla_obj "<lambda>" (X.env.qual++"<lambda>") params body scope clos ((X.mg "__name__").getD .none) a m),(a,U)]++x) (λp y=>by
  rcases ϯ.mp y with y|y
  ·rcases ϥ.mp y with rfl|y
   ·exact⟨ϡ _ Λ,fr1 _ O,Ĩ (ϛ j.lt O),j.KW O,by intro v z;cases z⟩
   ·obtain rfl:=ϙ.mp y
    exact⟨Ο _ T2,fr1 _ Ny,Ĩ (ϛ j.lt Ny),j.KW Ny,by intro v z;rw[Y]at z;cases z⟩
  ·exact I2.pin p (ϫ _ y))
 have I4:=I3.WE
 obtain⟨q2,q3⟩:=q1 (L++#[ą Fu.line,ą Fu.col,.ref a])
 have Kg:(ο S P (.Fj (L++#[ą Fu.line,ą Fu.col,.ref a]))) p=Α (ij p (n:Int)):=by rw[ag (T p _ y (by intro _ z;cases z))];exact y
 have hF:=F M.objs.size a U ((X.mg "__name__").getD .none) m ⟨vs,tq,Y,hv⟩
 generalize ο S P (.Fj (L++#[ą Fu.line,ą Fu.col,.ref a]))=H2 at I4 q2 q3 Kg
 refine b8 (vZ (X:=X.pinned _) (fa:=M.objs.size) (g:=g) (Q:=Q) hc I4 Kg hn (λi t pins' s' hi J=>?_) λl ns hl KG hs=>q3 l ns hl KG hs) λu s3 DS=>by obtain⟨v,H3,J,rv,q⟩:=DS;exact⟨v,_,J.Kh,rv,q⟩
 obtain⟨B,C⟩:=D9 J Ua hfv
 have G:=hF EF _ B
 have hbb:=hb ((X.mg "__name__").getD .none) a m s' [.int (i:Int) t] J.EY Λ
 refine Ų (ķ (G.run X.A.in1.in1 X.stack s' H2 ⟨[.int (i:Int) t],[]⟩ [.int (i:Int) t] [.int (i:Int)] _ E hr ⟨C.frames,C.mod,C.bs,C.Jh,C.Fb,C.JG,C.DY,C.bare⟩ hbb (.cons ⟨t,Λ⟩ .nil) (q2 i hi)) λr s4 hq=>?_)
 cases r with
 |error e=>exact hq.elim
 | ok fl =>
  cases fl with
  | ret u =>
   obtain⟨v,H5,J5,rv,rfl,rfl⟩:=J.after hq
   obtain⟨t5,rfl⟩:=rv
   exact⟨⟨t5,Λ⟩,J5⟩
  |next=>exact Ô hq
  |brk=>exact Ô hq
  |cont=>exact Ô hq
end L2
namespace L2
open PySem
theorem bQ(n:Nat)(v:n<ό)(W:Nat->List V->Hp->Prop)(p:W 0 [] H)(c:∀i acc a,W i acc a->acc.length<=i)
  (d:∀i acc a,i<n->W i acc a->J.go i a/\∀x f,J.K5 i a x f->g x σ0 f λh r=>tt h r λb j=>if b=Δ then te h j λy s=>W (i+1) (acc++[y]) s else W (i+1) acc j)
  (stop:∀acc a,W n acc a->J.stop n a/\∀D,a D=Β->Q (.ref D) (ο a D (.π acc))):dM J g tt te σ0 Q H:=by
 refine⟨λi m acc a=>m=n - i/\i<=n/\W i acc a,⟨n,by simp,Ϧ _,p⟩,?_⟩
 rintro i m acc a ⟨rfl,z,w⟩
 refine⟨by have:=c i acc a w;omega,?_⟩
 by_cases l:i<n
 ·obtain⟨t,q⟩:=d i acc a l w
  exact .inr ⟨t,λo f=>W (i+1) o f,λo f u=>⟨n - (i+1),by omega,Λ,l,u⟩,q⟩
 ·have e:i=n:=by omega
  subst e
  exact .inl (stop acc a w)
theorem DP.new(h:DP H H')(n:H' a=Β):DP H (ο H' a o):=λb u e=>by rw[ag (ah (h _ _ e) n)];exact h _ _ e
end L2
namespace L2
open PySem
theorem Eu(a:autoParam (sc.kind=.function) η)(b:autoParam (sc.isCoroutine=Ε) η)(c:autoParam (sc.isGenerator=Ε) η)(d:autoParam (N.Nodup) ξ)(e:autoParam (N.take P.length=P) η)(f:autoParam (∀x∈P,sc.names.lookup x=Α .local∨sc.names.lookup x=Α .cell) ξ)(g:autoParam (∀y∈sc.names,y.2≠.free) ξ):aw N P sc:=⟨a,b,c,d,e,f,g⟩
theorem FC(a:autoParam (scope.kind=.function) η)(b:autoParam (∀y∈scope.names,y.2≠.cell) ξ)(c:autoParam (∀y∈scope.names,y.2=.local->scope.names.lookup y.1=Α .local) ξ)(d:autoParam (∀y∈scope.names,y.2=.free->sc.names.lookup y.1=Α .cell∨sc.names.lookup y.1=Α .free) ξ)(e:autoParam (cap.length=capN.length) η)(f:autoParam (∀p∈capN.zip cap,scope.names.lookup p.1=Α .free/\N[p.2]?=Α p.1) ξ):ES N sc scope capN cap:=⟨a,b,c,d,e,f⟩
end L2
namespace K93
open PySem L2
variable {P:Program}{w:Î}{K:ϧ}{mg:Str->Option Τ}{μ:Ü}
noncomputable def top(i:Nat):Ç:=PySem.Challenge.pw_wormyard_k93_whole_less.main.body.getD i (.Pass ⟨0,0,0,0⟩)
abbrev zj:Ç:=top 2
abbrev wZ:Ç:=top 3
abbrev BX:Ç:=top 4
abbrev iu:Ç:=top 19
abbrev jR:Ç:=top 20
abbrev BZ:Ç:=top 21
abbrev BU:Ç:=top 25
abbrev pG:Ç:=top 28
abbrev Uh:Ç:=top 29
abbrev nY:Ç:=top 33
abbrev rL:Ç:=top 34
abbrev rQ:Ç:=top 35
abbrev wY:Ç:=top 36
abbrev fv:Ç:=top 38
abbrev p9:Ç:=top 41
abbrev BW:Ç:=top 42
abbrev wP:Ç:=top 43
abbrev rC:Ç:=top 44
abbrev rJ:Ç:=top 45
abbrev rM:Ç:=top 46
abbrev iw:Ç:=top 53
abbrev wN:Ç:=top 54
abbrev pD:Ç:=top 55
abbrev xj:Ç:=top 59
abbrev Cb:Ç:=top 60
abbrev rH:Ç:=top 61
abbrev wX:Ç:=top 62
abbrev fA:Ç:=top 63
abbrev kN:Ç:=top 64
abbrev pC:Ç:=top 65
abbrev rO:Ç:=top 66
abbrev Cj:Ç:=top 67
abbrev wR:Ç:=top 68
abbrev kM:Ç:=top 69
abbrev iy:Ç:=top 70
abbrev Ui:Ç:=aM (top 15) 0
abbrev pF:Ç:=aM (top 26) 0
abbrev Ci:Ç:=aM (top 26) 2
abbrev wV:Ç:=aM (top 26) 3
abbrev pE:Ç:=aM (top 26) 4
abbrev BV:Ç:=aM (top 30) 0
abbrev wQ:Ç:=aM (top 31) 0
abbrev rB:Ç:=aM (top 31) 1
abbrev m7:Ç:=aM (top 39) 0
abbrev rG:Ç:=aM (top 39) 1
abbrev oh:Ç:=aM (top 39) 2
abbrev Ce:Ç:=aM (top 48) 0
abbrev wW:Ç:=aM (top 48) 1
abbrev BY:Ç:=aM (top 48) 2
abbrev rK:Ç:=aM (top 48) 3
abbrev wS:Ç:=aM (top 48) 4
abbrev rP:Ç:=aM (top 48) 5
abbrev Cd:Ç:=aM (top 48) 7
abbrev xh:Ç:=aM (top 56) 0
abbrev xf:Ç:=aM (top 56) 1
abbrev jo:Ç:=aM (top 57) 0
abbrev im:Ç:=aM (top 57) 1
abbrev rE:Ç:=aM (top 57) 2
abbrev pB:Ç:=aM (top 57) 3
abbrev pA:Ç:=aM (top 57) 4
abbrev rD:Ç:=aM (top 57) 5
abbrev og:Ç:=aM (top 57) 6
abbrev iP:Ç:=aM (top 57) 7
abbrev xb:Ç:=aM (top 57) 8
abbrev WQ:Ç:=aM (top 57) 9
abbrev xi:Ç:=aM (top 57) 10
abbrev rN:Ç:=aM (top 57) 11
abbrev Cf:Ç:=aM (top 57) 12
abbrev wU:Ç:=aM (top 57) 13
abbrev wT:Ç:=aM (top 57) 14
abbrev i3:Ç:=aM (top 57) 15
abbrev xg:Ç:=aM (top 57) 17
abbrev wO:Ç:=aM (top 57) 18
abbrev rF:Ç:=aM (top 57) 19
abbrev nZ:Ç:=aM (top 57) 20
structure eD(mg:Str->Option Τ):Prop where
 OF:mg "isinstance"=Β
 int:mg "int"=Β
 bool:mg "bool"=Β
 len:mg "len"=Β
 enum:mg "enumerate"=Β
 tuple:mg "tuple"=Β
 range:mg "range"=Β
 list:mg "list"=Β
 all:mg "all"=Β
 sum:mg "sum"=Β
 abs:mg "abs"=Β
 str:mg "str"=Β
 max:mg "max"=Β
 sorted:mg "sorted"=Β
def AS(H:Hp)(v:V)(p:Int×Int):Prop:=∃t,v=.ref t/\H t=Α (.tup [.int p.1,.int p.2])
abbrev Ei(H:Hp):List V->List (Int×Int)->Prop:=Paired (AS H)
theorem Ei.same(h:DP H H'):∀{a:List V}{b:List (Int×Int)},Ei H a b->Ei H' a b:=λc=>by
 induction c with
 |nil=>exact .nil
 |cons d r f=>obtain⟨t,e,q⟩:=d;exact .cons ⟨t,e,h _ _ q⟩ f
theorem Ei.get:∀{a:List V}{b:List (Int×Int)}{i:Nat}{v:V},Ei H a b->a[i]?=Α v->∃p,b[i]?=Α p/\AS H v p:=by
 intro _ _ i _ c
 induction c generalizing i with
 |nil=>intro h;cases h
 | cons x r d =>
  intro h
  cases i with
  |zero=>cases h;exact⟨_,Λ,x⟩
  |succ i=>exact d (i:=i) h
theorem Ei.Nz:∀{a:List V}{b:List (Int×Int)}{i:Nat}{p:Int×Int},Ei H a b->b[i]?=Α p->∃v,a[i]?=Α v/\AS H v p:=by
 intro _ _ i _ c
 induction c generalizing i with
 |nil=>intro h;cases h
 | cons x r d =>
  intro h
  cases i with
  |zero=>cases h;exact⟨_,Λ,x⟩
  |succ i=>exact d (i:=i) h
theorem Ei.snoc(h:AS H v p):∀{a:List V}{b:List (Int×Int)},Ei H a b->Ei H (a++[v]) (b++[p]):=λc=>by
 induction c with
 |nil=>exact .cons h .nil
 |cons q r d=>exact .cons q d
noncomputable def iB(n:Int)(p:Int×Int):Bool:=decide (0<=p.1/\p.1<=n - 1)&& (decide (0<=p.2/\p.2<=n - 1)&& !decide (p.1=p.2))
inductive nM(vs:List V)(H:Hp)(Q:VK)(E:XK):Prop
 |mk (i:Int) (_:vs=[.int i]) (_:Q (.bl Δ) H)
inductive iM(vs:List V)(H:Hp)(Q:VK)(E:XK):Prop
 |mk (i a b:Int) (_:vs=[.int i,.int a,.int b]) (_:Q (.bl (decide (a<=i/\i<=b))) H)
inductive we(vs:List V)(H:Hp)(Q:VK)(E:XK):Prop
 |mk (n a b:Int) (_:vs=[.int n,.int a,.int b]) (_:Q (.bl (iB n (a,b))) H)
theorem tP:aw ["value"] ["value"] (am iu):=L2.Eu
theorem pS(F:En K "is_whole" "is_whole" iu f fd)(T:eD mg):DQ P w K mg μ aF 1 f fd ["value"] nM:=by
 refine F.ok tP λ_ _ _ s H _ Q E a h=>?_
 obtain⟨i,rfl,q⟩:=h
 refine⟨_,aj (ay (e7 (aG qD Λ T.OF å (aa (pv 0) (aa (gO (v:=.ty "int") Λ T.int PySem.Pv.boot_int Λ) ad)))
  (dZ (xz (aG qD Λ T.OF å (aa (pv 0) (aa (gO (v:=.ty "bool") Λ T.bool PySem.Pv.boot_bool Λ) ad))))))),?_⟩
 refine(.inl ⟨i,Λ,Δ,Λ,?_⟩)
 refine aL ?_
 exact(.inr (.inl ⟨i,Λ,Ε,Λ,q⟩))
theorem p7:aw ["value","least","most"] ["value","least","most"] (am jR):=L2.Eu
theorem uX(F:En K "is_within" "is_within" jR f fd)(T:eD mg)(g:mg "is_whole"=Α (.ref fh))(e:En K "is_whole" "is_whole" iu fh HW)(j:Binds K HW ["value"] []):
  DQ P w K mg μ aF 2 f fd ["value","least","most"] iM:=by
 have G:DQ P w K mg μ aF 1 fh HW ["value"] nM:=pS e T
 refine F.ok p7 λ_ _ _ s H _ Q E l h=>?_
 obtain⟨i,a,b,rfl,q⟩:=h
 refine⟨_,aj (ay (e7 (au G l Λ g e.kp j .nil ar (aa (pv 0) ad)) (dZ (pP pQ pQ (pv 1) (pv 0) (pv 2))))),i,Λ,_,Λ,aL ?_⟩
 refine⟨_,_,Λ,Λ,_,Λ,?_⟩
 by_cases c:a<=i
 ·rw[Ζ c]
  refine aL ⟨_,_,Λ,Λ,?_⟩
  show Q (V.bl (decide (i<=b))) H
  by_cases d:i<=b
  ·rw[Ζ d];rw[Ζ ⟨c,d⟩]at q;exact q
  ·rw[Η d];rw[Η λz=>d z.2]at q;exact q
 ·rw[Η c]
  refine aJ ?_
  rw[Η λz=>c z.1]at q;exact q
theorem Mr:aw ["places","one","other","last"] ["places","one","other"] (am BU):=L2.Eu
theorem C3(F:En K "are_two_places" "are_two_places" BU f fd)(c:mg "is_within"=Α (.ref fh))(d:Ϯ K (.ref fh)=Δ)(g:Binds K HW ["value","least","most"] [])
  (G:DQ P w K mg μ aF 2 fh HW ["value","least","most"] iM):
  DQ P w K mg μ aF 3 f fd ["places","one","other"] we:=by
 refine F.ok Mr λ_ _ _ s H _ Q E j h=>?_
 obtain⟨n,a,b,rfl,q⟩:=h
 refine⟨_,ae (aB (i:=3) Mr.nd Λ (ύ Λ) (aI e8 (pv 0) ao))
  (aj (ay (e7 (au G j Λ c d g .nil ar (aa (pv 1) (aa ao (aa (pv 3) ad))))
   (e7 (au G j Λ c d g .nil ar (aa (pv 2) (aa ao (aa (pv 3) ad)))) (dZ (cP jE (pv 1) (pv 2) (aC _))))))),?_⟩
 refine⟨_,_,Λ,Λ,a,0,_,Λ,_,Λ,?_⟩
 unfold iB at q
 dsimp only at q
 by_cases l:0<=a/\a<=n - 1
 ·rw[Ζ l]at q⊢
  rw[ñ]at q
  refine aL ⟨b,0,n - 1,Λ,_,Λ,?_⟩
  by_cases m:0<=b/\b<=n - 1
  ·rw[Ζ m]at q⊢
   rw[ñ]at q
   refine aL ⟨Λ,?_⟩
   have e:decide (V.int a=V.int b)=decide (a=b):=by
    by_cases h:a=b
    ·rw[h];simp
    ·rw[Η h,Η λz=>h (by injection z)]
   rw[e];exact q
  ·rw[Η m]at q⊢
   exact aJ q
 ·rw[Η l]at q⊢
  exact aJ q
end K93
namespace L2
open PySem
end L2
namespace K93
open PySem L2
variable {P:Program}{w:Î}{K:ϧ}{mg:Str->Option Τ}{μ:Ü}
inductive Due|places|many (k:Nat)|Ep (k:Nat)|good
noncomputable def qI(n:Int)(ps:List (Int×Int)):Option Nat:=ps.findIdx? λp=>!iB n p
noncomputable def gI(n:Int)(ps:List (Int×Int)):Due:=if decide (1<=n/\n<=12)=Ε then .places else if 40<ps.length then .many ps.length else match qI n ps with|some k =>.Ep k|none =>.good
structure Cs where
 land:Ν
def cT(H:Hp)(c:Cs)(x dx t:Ν)(n:Int)(DX:List V)(ps:List (Int×Int)):Prop:=H x=Α (.ρ c.land dx [("places",.int n),("lanes",.ref t)])/\H t=Α (.tup DX)/\Ei H DX ps
inductive wE(K:ϧ)(c:Cs)(vs:List V)(H:Hp)(Q:VK)(E:XK):Prop
 |mk (x dx n p Ed ps)(_:vs=[.ref x,.int n,.ref p])(_:H x=Α (.ρ c.land dx []))(_:DT K H p Ed)(_:Ei H Ed ps)(_:Ed.length<=1000)(_:(gI n ps=.places->False)/\ (∀k,gI n ps=.many k->False)/\ (∀k,gI n ps=.Ep k->False)/\ (gI n ps=.good->∀H' t DX,(∀b o,b≠x->H b=Α o->H' b=Α o)->cT H' c x dx t n DX ps->Q .Eh H'))
noncomputable def vN(s:Ç):Scope:=match s with
 |.Assign _ (.Call _ [.ListComp _ _ sc _] _ _) _=>sc
 |_=>zQ0
noncomputable def kR(s:Ç):Scope:=match aK s with
 |.Return (Α (.ListComp _ _ sc _)) _:: _=>sc
 |_=>zQ0
abbrev NI:List Str:=["self","places","lanes","lane","pair"]
structure kC(K:ϧ)(c:Cs):Prop where
 cl:GK K c.land
 np:Eb K c.land "places"
 nl:Eb K c.land "lanes"
theorem lD(h:∀p∈ps,iB n p=Δ):qI n ps=Β:=by
 unfold qI
 rw[List.findIdx?_eq_none_iff]
 intro p a
 rw[h p a];rfl
theorem sP(h:∀q∈ps.take i,iB n q=Δ)(b:ps[i]?=Α p)(c:iB n p=Ε):qI n ps=Α i:=by
 unfold qI
 rw[List.findIdx?_eq_some_iff_getElem]
 obtain⟨a,e⟩:=ϳ.mp b
 refine⟨a,by rw[e,c];rfl,λj d=>?_⟩
 have f:ps[j]'(hH d a)∈ps.take i:=Ċ.mpr ⟨j,by omega,Λ⟩
 rw[h _ f];simp
def Off(x:Ν)(H H':Hp):Prop:=∀b o,b≠x->H b=Α o->H' b=Α o
theorem Off.sq(o:Off x H H')(a:H x=Α (.ρ C dx fs))(h:DT K H p xs):DT K H' p xs:=by
 rcases h with (h|⟨ob,h⟩)|h
 ·exact .inl (.inl (o _ _ (aQ h a (by intro z;cases z)) h))
 ·exact .inl (.inr ⟨ob,o _ _ (aQ h a (by intro z;cases z)) h⟩)
 ·exact .inr h
theorem Off.Jo(o:Off x H H')(c:H x=Α (.ρ C dx fs)):∀{a:List V}{b:List (Int×Int)},Ei H a b->Ei H' a b:=λd=>by
 induction d with
 |nil=>exact .nil
 |cons f r g=>obtain⟨t,e,q⟩:=f;exact .cons ⟨t,e,o _ _ (aQ q c (by intro z;cases z)) q⟩ g
theorem Off.same(a:Off x H H1)(b:DP H1 H2):Off x H H2:=λc o n e=>b _ _ (a c o n e)
theorem IW:aw NI ["self","places","lanes"] (am pF):=L2.Eu
theorem Dy:ES NI (am pF) (vN ((aK pF).getD 4 (.Pass ⟨0,0,0,0⟩))) [] []:=L2.FC
theorem CS:(["pair"]:List Str).Nodup:=by decide +kernel
theorem Ac(F:En K "__init__" "Land.__init__" pF f fd)(T:eD mg)(L:kC K c)
  (mw:mg "is_within"=Α (.ref fw)) (kw:Ϯ K (.ref fw)=Δ) (bw:Binds K dw ["value","least","most"] []) (Gw:DQ P w K mg μ aF 2 fw dw ["value","least","most"] iM)
  (mt:mg "are_two_places"=Α (.ref ft)) (kt:Ϯ K (.ref ft)=Δ) (bt:Binds K dt ["places","one","other"] []) (Gt:DQ P w K mg μ aF 3 ft dt ["places","one","other"] we)
  (mp:mg "MOST_PLACES"=Α (.int 12 t1)) (ml:mg "MOST_LANES"=Α (.int 40 t2)):
  DQ P w K mg μ aF 4 f fd ["self","places","lanes"] (wE K c):=by
 refine F.ok IW λ_ _ _ s H _ Q E hr h=>?_
 obtain⟨x,U,n,p,d,l,rfl,hx,X,hl,hlen,h1,h2,h3,h4⟩:=h
 have Fn:Ea 2 _:=hr.mono (by decide)
 refine⟨_,ae (aP (bE (bA (au Gw Fn Λ mw kw bw .nil ar (aa (pv 1) (aa ao (aa (dR (v:=.int 12) Λ mp ⟨_,Λ⟩) ad))))))
   (aj aY) aE)
  (ae (aP (az ua (aG aA Λ T.len PySem.boot_len (aa (pv 2) ad)) (dR (v:=.int 40) Λ ml ⟨_,Λ⟩) (aC _))
   (aj aY) aE)
  (ae (aT Ϗ Λ (pL Λ T.enum (aa (pv 2) ad)) (gj Λ (bI (ax (i:=3) IW.nd Λ (ύ Λ)) (bI (ax (i:=4) IW.nd Λ (ύ Λ)) dP)))
   (aj (aP (bE (bA (au Gt hr Λ mt kt bt .nil ar (aa (pv 1) (aa (aD DV (pv 4) ao (λ_ _=>rfl)) (aa (aD DV (pv 4) ao (λ_ _=>rfl)) ad))))))
    (aj aY) aE)))
  (ae (bF (pv 0) (pv 1) Λ)
  (aj (bF (pv 0) (bS cC Λ T.tuple PySem.Pv.boot_tuple (aa (bv (own:=["pair"]) (capN:=[]) (cap:=[]) Dy Λ (aR (pv 2))
   (λC s' H' fp=>⟨ax (i:=0) CS Λ (ύ Λ),c4,bM (aa (aD (show G0 _ (jr K) from DV) (pv 0) ao (λ_ _=>rfl)) (aa (aD (show G0 _ (jr K) from DV) (pv 0) ao (λ_ _=>rfl)) ad))⟩)) ad)) Λ))))),?_⟩
 refine⟨n,1,_,Λ,_,Λ,?_⟩
 by_cases M:1<=n/\n<=12
 rotate_left
 ·rw[Η M]
  exact aL (h1 (by unfold gI;rw[Ι (Η M)]))
 rw[Ζ M]
 refine aJ ?_
 have KH:=Paired.length hl
 refine⟨p,_,Λ,.inl X,_,_,Λ,Λ,_,Λ,?_⟩
 by_cases hm:40<l.length
 ·rw[Ζ (show (40:Int)<(d.length:Nat) by omega)]
  refine aL (h2 l.length ?_)
  unfold gI
  rw[Ζ M,Θ (by decide),Ι hm]
 rw[Η (show ¬(40:Int)<(d.length:Nat) by omega)]
 refine aJ ?_
 refine⟨p,Λ,⟨_,X⟩,qi (sq:=λH=>DT K H p) (xs:=d) (λi Y G=>∃a b:Option V,DP H G/\Y=[Α (.ref x),Α (.int n),Α (.ref p),a,b]/\∀q∈l.take i,iB n q=Δ)
  ⟨Β,Β,DP.refl H,Λ,λq hq=>by simp at hq⟩ (λi Y G _ DS=>by obtain⟨a,b,N,_⟩:=DS;exact N.seq X) ?_ ?_⟩
 ·rintro i v q Y G hv ⟨a,b,N,rfl,Z⟩ hq
  obtain⟨g,m,t,rfl,A⟩:=Ei.get hl hv
  have s3:DP H (ο G q (.tup [.int i,.ref t])):=N.new hq
  refine⟨q,_,Λ,Ec.of ac,Λ,_,_,Λ,_,_,Λ,Λ,?_⟩
  have R:Ec K (ο G q (.tup [.int i,.ref t])) t [.int g.1,.int g.2]:=Ec.of (s3 _ _ A)
  refine⟨t,_,0,_,Λ,Λ,R,aq (j:=0) Λ,t,_,1,_,Λ,Λ,R,aq (j:=1) Λ,n,_,_,Λ,_,Λ,?_⟩
  cases ho:iB n (g.1,g.2) with
  | true =>
   refine aJ ⟨Α (.int i),Α (.ref t),s3,Λ,λz B=>?_⟩
   rw[ä,m]at B
   rcases ϯ.mp B with B|B
   ·exact Z z B
   ·have:z=g:=by simpa using B
    rw[this];exact ho
  | false =>
   refine aL (h3 i ?_)
   unfold gI
   rw[Ζ M,Θ (by decide),Θ hm,sP Z m ho]
 ·rintro Y G ⟨a,b,N,rfl,Z⟩
  have Q8:gI n l=.good:=by
   unfold gI
   rw[Ζ M,Θ (by decide),Θ hm,lD (λz B=>Z z (by rw[KH,â];exact B))]
  have JJ:=N _ _ hx
  refine⟨x,_,U,_,Λ,JJ,L.cl,L.np,by show 0<1000;decide,?_⟩
  generalize S:ο G x (.ρ c.land U (aS "places" (.int n) []))=I
  have o3:Off x H I:=λb o O e=>by rw[←S,ag O];exact N _ _ e
  have x3:I x=Α (.ρ c.land U [("places",.int n)]):=by rw[←S,ac];rfl
  have l3:=o3.Jo hx hl
  have p3:=o3.sq hx X
  refine⟨p,Λ,⟨_,p3⟩,bQ d.length (by rw[Ω];omega) (λi acc u=>DP I u/\acc.length=i/\Ei u acc (l.take i)) ⟨DP.refl _,Λ,.nil⟩ (λi acc u h=>ń h.2.1) ?_ ?_⟩
  ·rintro i acc u hi ⟨J,ha,hA⟩
   have q4:=J.seq p3
   refine⟨⟨d,d[i],q4,by simp[hi]⟩,λy H5 ⟨e5,hy⟩=>?_⟩
   subst e5
   have hy:=hy d q4
   obtain⟨g,m,t,rfl,A⟩:=Ei.get l3 hy
   have R:Ec K H5 t [.int g.1,.int g.2]:=Ec.of (J _ _ A)
   refine⟨t,_,0,_,Λ,Λ,R,aq (j:=0) Λ,t,_,1,_,Λ,Λ,R,aq (j:=1) Λ,by show 2<=ό;decide,λr JX=>?_⟩
   refine⟨J.new JX,by rw[ϗ,ha];rfl,?_⟩
   rw[ä,m]
   exact Ei.snoc ⟨r,Λ,ac⟩ (Ei.same (DP.new (DP.refl _) JX) hA)
  ·rintro acc u ⟨J,ha,hA⟩
   have q4:=J.seq p3
   refine⟨⟨d,q4,Ρ _⟩,λD hD=>?_⟩
   have s5:DP I (ο u D (.π acc)):=J.new hD
   refine⟨D,_,Λ,.inl ⟨DT.of ac,λt A=>?_⟩⟩
   have s6:DP I (ο (ο u D (.π acc)) t (.tup acc)):=s5.new A
   have x6:=s6 _ _ x3
   refine⟨x,_,U,_,Λ,x6,L.cl,L.nl,by show 1<1000;decide,?_⟩
   have WR:t≠x:=λz=>by rw[z,s5 _ _ x3]at A;cases A
   refine h4 Q8 _ t acc (λb o O e=>?_) ⟨by rw[ac];rfl,by rw[ag WR,ac],?_⟩
   ·rw[ag O];exact s6 _ _ (o3 b o O e)
   ·have hA':Ei u acc l:=by rw[KH,â]at hA;exact hA
    have x4:=J _ _ x3
    have Lo:Ei (ο (ο u D (.π acc)) t (.tup acc)) acc l:=Ei.same (DP.new (DP.new (DP.refl _) hD) A) hA'
    exact Off.Jo (x:=x) (λb o O e=>by rw[ag O];exact e) x6 Lo
noncomputable def jY(sel:Int×Int->Int)(ps:List (Int×Int))(pl:Int)(m:Nat):List V:=((ϋ m).filter λk=>decide (sel (ps.getD k (0,0))=pl)).map λk:Nat=>V.int k
inductive wC(c:Cs)(sel:Int×Int->Int)(vs:List V)(H:Hp)(Q:VK)(E:XK):Prop
 |mk (x dx t:Ν) (n:Int) (DX:List V) (ps:List (Int×Int)) (pl:Int) (_:vs=[.ref x,.int pl]) (_:cT H c x dx t n DX ps) (_:ps.length<=1000) (_:∀H' D,DP H H'->H' D=Β->Q (.ref D) (ο H' D (.π (jY sel ps pl ps.length))))
theorem qf(h:ps[i]?=Α pr):jY sel ps pl (i+1)=if decide (sel pr=pl) then jY sel ps pl i++[V.int i] else jY sel ps pl i:=by
 have e:ps.getD i (0,0)=pr:=by rw[Χ,h];rfl
 unfold jY
 rw[ē,ë]
 by_cases a:sel pr=pl
 ·rw[Ι (Ζ a),Ŵ (by rw[e];exact Ζ a)];simp
 ·rw[Θ (by rw[Η a];decide),ģ (by rw[e,Η a];decide)];simp
theorem oE:(jY sel ps pl i).length<=i:=by
 unfold jY
 rw[ϊ]
 have:=Æ (λk=>decide (sel (ps.getD k (0,0))=pl)) (ϋ i)
 rwa [ã]at this
theorem Q9:aw ["self","place"] ["self","place"] (am wV):=L2.Eu
theorem QA:ES ["self","place"] (am wV) (kR wV) ["place"] [1]:=L2.FC
theorem BS:aw ["self","place"] ["self","place"] (am pE):=L2.Eu
theorem Dx:ES ["self","place"] (am pE) (kR pE) ["place"] [1]:=L2.FC
theorem uf:(["lane","pair","place"]:List Str).Nodup:=by decide +kernel
theorem fL(a b:Int):decide (V.int a=V.int b)=decide (a=b):=by
 by_cases h:a=b
 ·rw[h];simp
 ·rw[Η h,Η λz=>h (by injection z)]
theorem C8(F:En K "out_of" "Land.out_of" wV f fd)(T:eD mg)(L:kC K c):DQ P w K mg μ aF 1 f fd ["self","place"] (wC c á):=by
 refine F.ok Q9 λ_ _ _ s H _ Q E Z h=>?_
 obtain⟨x,I,t,n,b,e,o,rfl,⟨J,g,p⟩,z,q⟩:=h
 refine⟨_,aj (ay (bv (own:=["lane","pair"]) (capN:=["place"]) (cap:=[1]) QA Λ (pK Λ T.enum (aa (ap (pv 0) Λ) ad))
  (λC s' H' fp=>⟨(show PG _ _ (Ax K 2 _) from gj Λ (bI (ax (i:=0) uf Λ (ύ Λ)) (bI (ax (i:=1) uf Λ (ύ Λ)) dP))),
   bY (az bN (aD (show G0 _ (jr K) from DV) (pv 1) ao (λ_ _=>rfl)) (pv 2) (aC _)),pv 0⟩))),?_⟩
 have A:=Paired.length p
 refine⟨x,_,I,_,_,Λ,J,L.cl,L.nl,Λ,t,Λ,⟨_,Ec.of g⟩,bQ e.length (by rw[Ω];omega) (λi acc a=>DP H a/\acc=jY á e o i) ⟨DP.refl _,Λ⟩ (λi acc a h=>by rw[h.2];exact oE) ?_ ?_⟩
 ·rintro i acc a M ⟨d,rfl⟩
  have B:Ec K a t b:=Ec.of (d _ _ g)
  refine⟨⟨b,b[i]'(by omega),B,by simp[A,M]⟩,λy H5 ⟨r,N,O,R⟩=>?_⟩
  obtain⟨v,S,rfl⟩:=R b B
  subst O
  obtain⟨U,l,u,rfl,X⟩:=Ei.get p S
  have m:DP H (ο a r (.tup [.int i,.ref u])):=d.new N
  refine⟨r,_,Λ,Ec.of ac,Λ,_,_,Λ,_,_,Λ,Λ,u,_,0,_,Λ,Λ,Ec.of (m _ _ X),aq (j:=0) Λ,Λ,_,Λ,?_⟩
  rw[fL,qf l]
  cases G:decide (U.1=o) with
  |true=>exact aL ⟨m,by simp[G]⟩
  |false=>exact aJ ⟨m,by simp[G]⟩
 ·rintro acc a ⟨d,rfl⟩
  exact⟨⟨b,Ec.of (d _ _ g),A⟩,λD Y=>q a D d Y⟩
theorem uc(F:En K "into" "Land.into" pE f fd)(T:eD mg)(L:kC K c):DQ P w K mg μ aF 1 f fd ["self","place"] (wC c Ï):=by
 refine F.ok BS λ_ _ _ s H _ Q E Z h=>?_
 obtain⟨x,I,t,n,b,e,o,rfl,⟨J,g,p⟩,z,q⟩:=h
 refine⟨_,aj (ay (bv (own:=["lane","pair"]) (capN:=["place"]) (cap:=[1]) Dx Λ (pK Λ T.enum (aa (ap (pv 0) Λ) ad))
  (λC s' H' fp=>⟨(show PG _ _ (Ax K 2 _) from gj Λ (bI (ax (i:=0) uf Λ (ύ Λ)) (bI (ax (i:=1) uf Λ (ύ Λ)) dP))),
   bY (az bN (aD (show G0 _ (jr K) from DV) (pv 1) ao (λ_ _=>rfl)) (pv 2) (aC _)),pv 0⟩))),?_⟩
 have A:=Paired.length p
 refine⟨x,_,I,_,_,Λ,J,L.cl,L.nl,Λ,t,Λ,⟨_,Ec.of g⟩,bQ e.length (by rw[Ω];omega) (λi acc a=>DP H a/\acc=jY Ï e o i) ⟨DP.refl _,Λ⟩ (λi acc a h=>by rw[h.2];exact oE) ?_ ?_⟩
 ·rintro i acc a M ⟨d,rfl⟩
  have B:Ec K a t b:=Ec.of (d _ _ g)
  refine⟨⟨b,b[i]'(by omega),B,by simp[A,M]⟩,λy H5 ⟨r,N,O,R⟩=>?_⟩
  obtain⟨v,S,rfl⟩:=R b B
  subst O
  obtain⟨U,l,u,rfl,X⟩:=Ei.get p S
  have m:DP H (ο a r (.tup [.int i,.ref u])):=d.new N
  refine⟨r,_,Λ,Ec.of ac,Λ,_,_,Λ,_,_,Λ,Λ,u,_,1,_,Λ,Λ,Ec.of (m _ _ X),aq (j:=1) Λ,Λ,_,Λ,?_⟩
  rw[fL,qf l]
  cases G:decide (U.2=o) with
  |true=>exact aL ⟨m,by simp[G]⟩
  |false=>exact aJ ⟨m,by simp[G]⟩
 ·rintro acc a ⟨d,rfl⟩
  exact⟨⟨b,Ec.of (d _ _ g),A⟩,λD Y=>q a D d Y⟩
inductive wF(vs:List V)(H:Hp)(Q:VK)(E:XK):Prop
 |mk (m k:Nat) (_:vs=[.int m,.int k]) (_:Q (.bl (m.testBit k)) H)
noncomputable def gy(m:Nat):List V:=(Yd.GX m (Ó (m:Int))).map λk:Nat=>V.int k
inductive t8(vs:List V)(H:Hp)(Q:VK)(E:XK):Prop
 |mk (m:Nat) (_:vs=[.int m]) (_:m<2^400) (_:∀p,H p=Β->Q (.ref p) (ο H p (.π (gy m))))
inductive wn(K:ϧ)(vs:List V)(H:Hp)(Q:VK)(E:XK):Prop
 |mk (a:Ν) (ks:List Nat) (_:vs=[.ref a]) (_:DT K H a (ks.map λk:Nat=>V.int k)) (_:(∀k∈ks,k<=1000)) (_:Q (.int (Yd.Ey ks 0:Nat)) H)
theorem QB:aw ["some","number"] ["some","number"] (am zj):=L2.Eu
theorem xK(F:En K "has" "has" zj f fd):DQ P w K mg μ aF 1 f fd ["some","number"] wF:=by
 refine F.ok QB λ_ _ _ s H _ Q E a h=>?_
 obtain⟨m,k,rfl,q⟩:=h
 refine⟨_,aj (ay (e7 (cP Bl (pv 1) ao (aC _)) (dZ (cP bN (aI i5 (aI jv (pv 0) (pv 1)) ao) ao (aC _))))),_,_,Λ,Λ,_,Λ,?_⟩
 rw[Ζ (show (0:Int)<=(k:Int) from Φ _)]
 refine aL ?_
 refine⟨_,_,Λ,Λ,(show (0:Int)<=(k:Int) from Φ _),_,_,Λ,Λ,Λ,?_⟩
 have e:decide (V.int (ç ((m:Int) / 2^(k:Int).toNat) 1)=V.int 1)=m.testBit k:=by
  rw[Υ,←Yd.Jj m k]
  by_cases h:ç ((m:Int) / 2^k) 1=1
  ·rw[h];simp
  ·rw[Η h,Η λz=>h (by injection z)]
 rw[e]
 exact q
theorem xZ{a:List Nat}{i:Nat}(h:(a.map λk:Nat=>V.int k)[i]?=Α x):∃k,a[i]?=Α k/\x=V.int k:=by
 rw[Å]at h
 cases e:a[i]? with
 |none=>rw[e]at h;cases h
 |some k=>rw[e]at h;exact⟨k,Λ,(Ϝ h).symm⟩
theorem Jp:aw ["numbers","some","number"] ["numbers"] (am BX):=L2.Eu
theorem C6(F:En K "set_of" "set_of" BX f fd):DQ P w K mg μ aF 1 f fd ["numbers"] (wn K):=by
 refine F.ok Jp λ_ _ _ s H _ Q E o h=>?_
 obtain⟨a,b,rfl,g,l,q⟩:=h
 refine⟨_,ae (aB (i:=1) Jp.nd Λ (ύ Λ) ao)
  (ae (aT Ϗ Λ (aR (pv 0)) (ax (i:=2) Jp.nd Λ (ύ Λ))
   (aj (aB (i:=1) Jp.nd Λ (ύ Λ) (aI x8 (pv 1) (aI ou ao (pv 2))))))
  (aj (ay (pv 1)))),?_⟩
 refine⟨a,Λ,⟨_,g⟩,bZ (K:=K) (a:=a) (xs:=b.map λk:Nat=>V.int k) (λi c d=>∃v:Option V,d=H/\c=[Α (.ref a),Α (.int (Yd.Ey (b.take i) 0:Nat)),v])
  ⟨Β,Λ,Λ⟩ (λi c d _ m=>by obtain⟨_,e,_⟩:=m;rw[e];exact g) ?_ ?_⟩
 ·rintro i x c d n ⟨v,rfl,rfl⟩
  obtain⟨k,j,rfl⟩:=xZ n
  have p:=l k (Ϙ j)
  refine⟨_,_,Λ,Λ,⟨(show (0:Int)<=(k:Int) from Φ _),(show (k:Int)<=1000000 by omega),(by decide)⟩,_,_,Λ,Λ,Α (.int k),Λ,?_⟩
  have e:Ť ((Yd.Ey (b.take i) 0:Nat):Int) (1* 2^(k:Int).toNat)=((Yd.Ey (b.take (i+1)) 0:Nat):Int):=by
   rw[ä,j,Υ,one_mul,show (2:Int)^k=((2^k:Nat):Int) by rw[et];rfl,Yd.FP,Yd.JW]
   rfl
  show [Α (V.ref a),Α (V.int _),Α (V.int k)]=_
  rw[e]
 ·rintro c d ⟨v,rfl,rfl⟩
  rw[ϊ,â]
  exact q
theorem QC:aw ["some"] ["some"] (am wZ):=L2.Eu
theorem QD:(["number","some"]:List Str).Nodup:=by decide +kernel
theorem QE:ES ["some"] (am wZ) (kR wZ) ["some"] [0]:=L2.FC
theorem CD(F:En K "members" "members" wZ f fd)(T:eD mg)(b:mg "has"=Α (.ref fh))(a:En K "has" "has" zj fh HW)(c:Binds K HW ["some","number"] []):DQ P w K mg μ aF 2 f fd ["some"] t8:=by
 have G:DQ P w K mg μ aF 1 fh HW ["some","number"] wF:=xK a
 refine F.ok QC λ_ _ _ s H _ Q E d h=>?_
 obtain⟨m,rfl,g,q⟩:=h
 refine⟨_,aj (ay (bv (own:=["number"]) (capN:=["some"]) (cap:=[0]) QE Λ
  (aO Λ T.range (aa (Cv PySem.F.plainAttrs_int PySem.F.slot_int_bit_length PySem.F.type_int_bit_length Ak (pv 0)) ad))
  (λC j l n=>⟨ax (i:=0) QD Λ (ύ Λ),bY (bA (au G d Λ b a.kp c .nil ar (aa (pv 1) (aa (pv 0) ad)))),pv 0⟩))),?_⟩
 have o:Ó (m:Int)<=400:=Yd.bits_le g
 refine⟨Λ,_,Λ,Λ,(Ó (m:Int):Nat),Λ,by omega,by omega,?_⟩
 rw[Υ]
 refine lA (λk=>m.testBit k) (λk=>V.int k) (by rw[Ω];omega) (λi acc N p h=>?_) q
 refine⟨m,i,by simp,_,Λ,?_⟩
 cases e:m.testBit i with
 | true =>
  rw[e]at h
  refine aL (show N (acc++[V.int (0+i)]) H from ?_)
  simpa using h
 | false =>
  rw[e]at h
  exact aJ (by simpa using h)
noncomputable def iz(ks:List Nat):List Int:=ks.map λk:Nat=>(k:Int)
theorem yn(a:List Nat):(iz a).map V.int=a.map λk:Nat=>V.int k:=by rw[iz,č];rfl
theorem ur(h:ks.Pairwise (· < ·)):(iz ks).Pairwise (· < ·):=by
 unfold iz
 rw[JB]
 exact h.imp λz=>ó.mpr ‹_›
theorem ER:k∈iz ks↔∃n∈ks,(n:Int)=k:=Ö
theorem si(b:ms.Pairwise (· < ·))(c:∀k,k∈ms↔k∈iz ks):iz (Yd.GX (Yd.Ey ks 0) (Ó ((Yd.Ey ks 0:Nat):Int)))=ms:=by
 refine Yd.Il (ur (Yd.Hn _ _)) b λk=>?_
 rw[c k,ER,ER]
 constructor
 ·rintro⟨n,a,e⟩
  rw[Yd.EV (Yd.FI _),Yd.EJ]at a
  exact⟨n,by simpa using a,e⟩
 ·rintro⟨n,a,e⟩
  refine⟨n,?_,e⟩
  rw[Yd.EV (Yd.FI _),Yd.EJ]
  simpa using a
theorem wJ(h:∀k∈ks,k<b):Yd.Ey ks 0<2^b:=by
 rw[←Yd.Lh h]
 exact Yd.HD ks b
theorem uN:(Yd.Ey ks 0).testBit k=decide ((k:Int)∈iz ks):=by
 rw[Yd.EJ,IS,Ű]
 congr 1
 refine propext ⟨λh=>ER.mpr ⟨k,h,Λ⟩,λh=>?_⟩
 obtain⟨n,a,e⟩:=ER.mp h
 have:n=k:=Ä ‹_›
 rw[←this]
 exact a
structure Rw where
 p:Int
 g:Int
 c:Option Nat
 s:List Nat
noncomputable def aN(r:Rw):bJ:=[Α r.p,Α r.g,r.c.map λk:Nat=>(k:Int)]
noncomputable def gH(sel:Int×Int->Int)(ps:List (Int×Int))(pl:Int):List Nat:=(ϋ ps.length).filter λk=>decide (sel (ps.getD k (0,0))=pl)
noncomputable def fM(n:Int)(ps:List (Int×Int))(r:Rw):Bool:=
 iB n (r.p,r.g)&& ((match r.c with|none=>Δ|some k=>decide (k∈gH Ï ps r.p))&& r.s.all λk=>decide (k∈gH á ps r.p))
noncomputable def pU(sel:Int×Int->Int)(ps:List (Int×Int))(pl:Int)(k:Nat):Bool:=decide (ps.length<=k)|| !decide (sel (ps.getD k (0,0))=pl)
noncomputable def qH(n:Int)(ps:List (Int×Int))(ahead:List Rw)(r:Rw):Bool:=
 !iB n (r.p,r.g)||((match r.c with|none=>Ε|some k=>pU Ï ps r.p k)||((r.s.any λk=>pU á ps r.p k)||ahead.any λa=>decide (aN a=aN r)))
theorem uu:decide (k∈gH sel ps pl)= !pU sel ps pl k:=by
 unfold gH pU
 by_cases b:ps.length<=k
 ·rw[Ζ b,Η]
  ·rfl
  ·intro z
   have:=È.mp (ϩ.mp z).1
   omega
 ·rw[Η b]
  by_cases a:sel (ps.getD k (0,0))=pl
  ·rw[Ζ a,Ζ]
   ·rfl
   ·exact ϩ.mpr ⟨È.mpr (E1 ‹_›),Ζ a⟩
  ·rw[Η a,Η]
   ·rfl
   ·intro z
    exact a (of_decide_eq_true (ϩ.mp z).2)
theorem AN{l:List Nat}:(l.all λk=>!f k)= !(l.any f):=by
 induction l with
 |nil=>rfl
 |cons a l b=>rw[Ye,r4,b,Bool.not_or]
theorem jf(n:Int)(d:List (Int×Int))(b:List Rw)(r:Rw):qH n d b r=(!fM n d r||b.any λa=>decide (aN a=aN r)):=by
 unfold qH fM
 have e:(r.s.all λk=>decide (k∈gH á d r.p))= !(r.s.any λk=>pU á d r.p k):=by
  rw[←AN]
  congr 1
  funext k
  exact uu
 rw[e]
 cases f:r.c with
 | none =>
  dsimp only
  cases iB n (r.p,r.g)<;>cases (r.s.any λk=>pU á d r.p k)<;>cases (b.any λa=>decide (aN a=aN r))<;>rfl
 | some k =>
  dsimp only
  rw[uu]
  cases iB n (r.p,r.g)<;>cases (pU Ï d r.p k)<;>cases (r.s.any λk=>pU á d r.p k)<;>cases (b.any λa=>decide (aN a=aN r))<;>rfl
noncomputable def dJ(n:Int)(ps:List (Int×Int))(rs:List Rw)(m:Nat):Option Nat:=(ϋ m).find? λk=>qH n ps (rs.take k) (rs.getD k ⟨0,0,Β,[]⟩)
theorem ip:∀{m:Nat},(∀k,k<m->qH n ps (rs.take k) (rs.getD k ⟨0,0,Β,[]⟩)=Ε)->dJ n ps rs m=Β:=by
 intro m h
 unfold dJ
 rw[Tz]
 intro k a
 rw[h k (È.mp a)]
 decide
theorem lQ(a:i<m)(h:∀k,k<i->qH n ps (rs.take k) (rs.getD k ⟨0,0,Β,[]⟩)=Ε)(b:qH n ps (rs.take i) (rs.getD i ⟨0,0,Β,[]⟩)=Δ):dJ n ps rs m=Α i:=by
 unfold dJ
 rw[List.find?_range_eq_some]
 refine⟨b,È.mpr a,λj c=>?_⟩
 rw[h j c]
 rfl
noncomputable def cX(rs:List Rw)(k:bJ):Option Rw:=rs.reverse.find? λr=>decide (aN r=k)
theorem sA:cX (rs++[r]) k=if k=aN r then Α r else cX rs k:=by
 unfold cX
 rw[List.reverse_append,List.reverse_singleton,List.singleton_append,Ĕ]
 by_cases h:aN r=k
 ·rw[Ζ h,Ι h.symm]
 ·rw[Η h,Θ (Ϟ h)]
theorem oB:(cX rs k).isSome=rs.any λr=>decide (aN r=k):=by
 unfold cX
 rw[ĝ,List.find?_isSome,ō]
 exact⟨λa=>by obtain⟨x,b,h⟩:=a;exact⟨x,rz.mp b,h⟩,λa=>by obtain⟨x,b,h⟩:=a;exact⟨x,rz.mpr b,h⟩⟩
noncomputable def cV:Option Nat->V
 |none =>.Eh
 |some k =>.int k
noncomputable def ce(ks:List Nat):List V:=ks.map λk:Nat=>V.int k
theorem o0(a:List Nat):ce a=(iz a).map V.int:=(yn a).symm
def N0(H:Hp)(t l:Ν)(r:Rw):Prop:=H t=Α (.tup [.int r.p,.int r.g,cV r.c,.ref l])/\H l=Α (.π (ce r.s))
def N1(H:Hp)(v:V)(r:Rw):Prop:=∃t l,v=.ref t/\N0 H t l r
abbrev IX(H:Hp):List V->List Rw->Prop:=Paired (N1 H)
theorem N0.same(h:DP H H')(x:N0 H t l r):N0 H' t l r:=⟨h _ _ x.1,h _ _ x.2⟩
theorem N1.same(h:DP H H'):N1 H v r->N1 H' v r:=λa=>by obtain⟨t,l,e,x⟩:=a;exact⟨t,l,e,x.same h⟩
theorem IX.imp(h:∀v r,N1 H v r->N1 H' v r):∀{a:List V}{b:List Rw},IX H a b->IX H' a b:=λc=>by
 induction c with
 |nil=>exact .nil
 |cons x r d=>exact .cons (h _ _ x) d
theorem IX.same(h:DP H H')(x:IX H vs rs):IX H' vs rs:=IX.imp (λ_ _ z=>z.same h) x
theorem IX.get:∀{a:List V}{b:List Rw}{i:Nat}{v:V},IX H a b->a[i]?=Α v->∃r,b[i]?=Α r/\N1 H v r
 |_,_,_,_,.nil,e=>by simp at e
 |_,_,0,_,.cons x _,e=>by simp at e;subst e;exact⟨_,Λ,x⟩
 | _,_,i+1,v,.cons _ t,e=>by
  obtain⟨r,c,d⟩:=IX.get (i:=i) (v:=v) t (by simpa using e)
  exact⟨r,by simpa using c,d⟩
theorem jX(r:Rw):(aN r).map vG=[.int r.p,.int r.g,cV r.c]:=by
 cases r with
 |mk p g c s=>cases c<;>rfl
theorem sD:jY sel ps pl ps.length=(iz (gH sel ps pl)).map V.int:=by rw[yn];rfl
theorem sC{k:Nat}:decide ((k:Int)∈iz l)=decide (k∈l):=by
 congr 1
 refine propext ⟨λh=>?_,λh=>ER.mpr ⟨k,h,Λ⟩⟩
 obtain⟨n,a,e⟩:=ER.mp h
 have:n=k:=Ä ‹_›
 rw[←this]
 exact a
theorem uH(a l:List Nat):((ce a).filter λ_=>Δ).map (λv=>match v with|.int i=>V.bl (decide (i∈iz l))|_ =>.Eh)=(a.map λk=>decide (k∈l)).map V.bl:=by
 rw[Q1.mpr (λ_ _=>rfl)]
 unfold ce
 rw[č,č]
 refine ų λk _=>?_
 show V.bl (decide ((k:Int)∈iz l))=V.bl (decide (k∈l))
 rw[sC]
theorem yH(a:List Nat)(p:Nat->Bool):(a.map p).all id=a.all p:=by rw[all_map];rfl
inductive Bb(K:ϧ)(vs:List V)(H:Hp)(Q:VK)(E:XK):Prop
 |mk (i:Int) (p:Ν) (ns:List Int) (_:vs=[.int i,.ref p]) (_:DT K H p (ns.map V.int)) (_:Q (.bl (decide (i∈ns))) H)
inductive wH(c:Cs)(vs:List V)(H:Hp)(Q:VK)(E:XK):Prop
 |mk (x dx lt t l:Ν) (n:Int) (DX:List V) (ps:List (Int×Int)) (r:Rw) (_:vs=[.ref x,.ref t]) (_:cT H c x dx lt n DX ps) (_:N0 H t l r) (_:ps.length<=1000) (_:r.s.length<=1000) (_:∀H',DP H H'->Q (.bl (fM n ps r)) H')
structure DJ(K:ϧ)(c:Cs)(f3 f4:Ν)(d3 d4:Ý):Prop where
 m3:cb K c.land "out_of" f3
 m4:cb K c.land "into" f4
 b3:Binds K d3 ["self","place"] []
 b4:Binds K d4 ["self","place"] []
abbrev NF:List Str:=["land","row","place","came","begin_here"]
noncomputable def yI(s:Ç):Scope:=match s with
 |.Return (Α (.Call _ [.ListComp _ _ sc _] _ _)) _=>sc
 |_=>zQ0
theorem QF:aw ["value","numbers"] ["value","numbers"] (am BZ):=L2.Eu
theorem C9(F:En K "is_one_of" "is_one_of" BZ f fd)(T:eD mg)(b:mg "is_whole"=Α (.ref fh))(a:En K "is_whole" "is_whole" iu fh HW)(c:Binds K HW ["value"] []):
  DQ P w K mg μ aF 2 f fd ["value","numbers"] (Bb K):=by
 have G:DQ P w K mg μ aF 1 fh HW ["value"] nM:=pS a T
 refine F.ok QF λ_ _ _ s H _ Q E d h=>?_
 obtain⟨i,p,e,rfl,g,q⟩:=h
 refine⟨_,aj (ay (e7 (au G d Λ b a.kp c .nil ar (aa (pv 0) ad)) (dZ (cP mD (pv 0) (pv 1) (by with_unfolding_all rfl))))),i,Λ,_,Λ,aL ?_⟩
 refine⟨p,_,Λ,.inl g,Λ,hZ _,?_⟩
 rw[kd]
 exact q
theorem HK:aw NF ["land","row"] (am pG):=L2.Eu
theorem Dz:ES NF (am pG) (yI ((aK pG).getD 5 (.Pass ⟨0,0,0,0⟩))) ["begin_here"] [4]:=L2.FC
theorem CT:(["lane","begin_here"]:List Str).Nodup:=by decide +kernel
theorem Ae(F:En K "row_fits" "row_fits" pG f fd)(T:eD mg)(L:kC K c)(M:DJ K c f3 f4 d3 d4)
  (mt:mg "are_two_places"=Α (.ref ft)) (kt:Ϯ K (.ref ft)=Δ) (bt:Binds K dt ["places","one","other"] []) (Gt:DQ P w K mg μ aF 3 ft dt ["places","one","other"] we)
  (mo:mg "is_one_of"=Α (.ref fo)) (ko:Ϯ K (.ref fo)=Δ) (bo:Binds K d1 ["value","numbers"] []) (Go:DQ P w K mg μ aF 2 fo d1 ["value","numbers"] (Bb K))
  (G3:DQ P w K mg μ aF 1 f3 d3 ["self","place"] (wC c á)) (G4:DQ P w K mg μ aF 1 f4 d4 ["self","place"] (wC c Ï)):
  DQ P w K mg μ aF 4 f fd ["land","row"] (wH c):=by
 refine F.ok HK λ_ _ _ s H _ Q E R h=>?_
 obtain⟨x,A,lt,t,l,n,S,a,r,rfl,d,hR,m,O9,q⟩:=h
 have Ex:Ea 1 _:=R.mono (by decide)
 have Fn:Ea 2 _:=R.mono (by decide)
 refine⟨_,ae (aB (i:=2) HK.nd Λ (ύ Λ) (aD DV (pv 1) ao (λ_ _=>rfl)))
  (ae (aB (i:=3) HK.nd Λ (ύ Λ) (aD DV (pv 1) ao (λ_ _=>rfl)))
  (ae (aP (bE (bA (au Gt R Λ mt kt bt .nil ar (aa (ap (pv 0) Λ) (aa (pv 2) (aa (aD DV (pv 1) ao (λ_ _=>rfl)) ad)))))) (aj (ay eM)) aE)
  (ae (aP (PW.pt (ge (az jT (pv 3) b9 (aC _)) (fB (bE (bA (au Go Fn Λ mo ko bo .nil ar (aa (pv 3) (aa (aH (pv 0) L.cl M.m4 G4 Ex M.b4 .nil ar (aa (pv 2) ad)) ad)))))))) (aj (ay eM)) aE)
  (ae (aB (i:=4) HK.nd Λ (Ĥ Λ) (aH (pv 0) L.cl M.m3 G3 Ex M.b3 .nil ar (aa (pv 2) ad)))
  (aj (ay (aG (jd Λ) Λ T.all ĸ (aa (bv (own:=["lane"]) (capN:=["begin_here"]) (cap:=[4]) Dz Λ (aR (aD DV (pv 1) ao (λ_ _=>rfl)))
   (λC s' H' fp=>⟨ax (i:=0) CT Λ (ύ Λ),c4,au Go Fn Λ mo ko bo .nil ar (aa (pv 0) (aa (pv 1) ad))⟩)) ad)))))))),?_⟩
 obtain⟨U,J⟩:=hR
 have X:Ec K H t [.int r.p,.int r.g,cV r.c,.ref l]:=Ec.of U
 refine⟨t,_,0,_,Λ,Λ,X,aq (j:=0) Λ,t,_,2,_,Λ,Λ,X,aq (j:=2) Λ,x,_,A,_,_,Λ,d.1,L.cl,L.np,Λ,t,_,1,_,Λ,Λ,X,aq (j:=1) Λ,n,_,_,Λ,_,Λ,?_⟩
 cases O:iB n (r.p,r.g) with
 | false =>
  have e:fM n a r=Ε:=by unfold fM;rw[O];rfl
  refine aL ?_
  have:=q H (DP.refl H)
  rw[e]at this
  exact this
 | true =>
  refine aJ ?_
  cases Y:r.c with
  | none =>
   refine⟨Λ,_,Λ,aJ (aJ ?_)⟩
   have b:=DP.refl H
   have Z:fM n a r=r.s.all λk=>decide (k∈gH á a r.p):=by unfold fM;rw[O,Y];rfl
   refine⟨x,A,_,Λ,b _ _ d.1,Λ,x,A,_,n,S,a,_,Λ,⟨b _ _ d.1,b _ _ d.2.1,Ei.same b d.2.2⟩,m,λB z s2 Hr=>?_⟩
   have u:=(b.trans s2).new (o:=.π (jY á a r.p a.length)) Hr
   have G:(ο B z (.π (jY á a r.p a.length))) z=Α (.π (jY á a r.p a.length)):=ac
   generalize ο B z (.π (jY á a r.p a.length))=H3 at u G⊢
   refine⟨t,_,3,_,Λ,Λ,Ec.of (u _ _ U),aq (j:=3) Λ,l,Λ,⟨_,DT.of (u _ _ J)⟩,?_⟩
   refine gK (xs:=ce r.s) (λ_=>Δ) (λv=>match v with|.int i =>.bl (decide (i∈iz (gH á a r.p)))|_ =>.Eh) (by rw[Ω];simp only[ce,ϊ];omega) (DT.of (u _ _ J)) (λy acc N hy h=>?_) (λD I=>?_)
   ·obtain⟨k',_,rfl⟩:=Ö.mp hy
    exact⟨_,z,_,Λ,by rw[←sD];exact DT.of G,by simpa using h⟩
   ·rw[uH]
    refine⟨D,_,Λ,DT.of ac,?_⟩
    have:=q _ (u.new (o:=.π ((r.s.map λk=>decide (k∈gH á a r.p)).map V.bl)) I)
    rw[Z]at this
    rw[yH]
    exact this
  | some k =>
   refine⟨Λ,_,Λ,aL ?_⟩
   refine⟨x,A,_,Λ,d.1,Λ,x,A,_,n,S,a,_,Λ,d,m,λH' D s' I=>?_⟩
   have b:=s'.new (o:=.π (jY Ï a r.p a.length)) I
   refine⟨_,D,_,Λ,by rw[←sD];exact DT.of ac,_,Λ,?_⟩
   rw[sC]
   cases hk:decide (k∈gH Ï a r.p) with
   | false =>
    refine aL ?_
    have e:fM n a r=Ε:=by unfold fM;rw[O,Y];dsimp only;rw[hk];rfl
    have:=q _ b
    rw[e]at this
    exact this
   | true =>
    have Z:fM n a r=r.s.all λk=>decide (k∈gH á a r.p):=by unfold fM;rw[O,Y];dsimp only;rw[hk];rfl
    refine aJ ?_
    refine⟨x,A,_,Λ,b _ _ d.1,Λ,x,A,_,n,S,a,_,Λ,⟨b _ _ d.1,b _ _ d.2.1,Ei.same b d.2.2⟩,m,λB z s2 Hr=>?_⟩
    have u:=(b.trans s2).new (o:=.π (jY á a r.p a.length)) Hr
    have G:(ο B z (.π (jY á a r.p a.length))) z=Α (.π (jY á a r.p a.length)):=ac
    generalize ο B z (.π (jY á a r.p a.length))=H3 at u G⊢
    refine⟨t,_,3,_,Λ,Λ,Ec.of (u _ _ U),aq (j:=3) Λ,l,Λ,⟨_,DT.of (u _ _ J)⟩,?_⟩
    refine gK (xs:=ce r.s) (λ_=>Δ) (λv=>match v with|.int i =>.bl (decide (i∈iz (gH á a r.p)))|_ =>.Eh) (by rw[Ω];simp only[ce,ϊ];omega) (DT.of (u _ _ J)) (λy acc N hy h=>?_) (λD I=>?_)
    ·obtain⟨k',_,rfl⟩:=Ö.mp hy
     exact⟨_,z,_,Λ,by rw[←sD];exact DT.of G,by simpa using h⟩
    ·rw[uH]
     refine⟨D,_,Λ,DT.of ac,?_⟩
     have:=q _ (u.new (o:=.π ((r.s.map λk=>decide (k∈gH á a r.p)).map V.bl)) I)
     rw[Z]at this
     rw[yH]
     exact this
structure Ts where
 tab:Ν
 told:Ν
inductive wj(K:ϧ)(vs:List V)(H:Hp)(Q:VK)(E:XK):Prop
 |mk (x C dx:Ν) (lv:V) (_:vs=[.ref x,lv]) (_:H x=Α (.ρ C dx [])) (_:GK K C) (_:Eb K C "land") (_:Q .Eh (ο H x (.ρ C dx [("land",lv)])))
noncomputable def ze(r:Rw):V:=.int (Yd.Ey r.s 0:Nat)
inductive wg(P:Program)(w:Î)(K:ϧ)(c:Cs)(ts:Ts)(vs:List V)(H:Hp)(Q:VK)(E:XK):Prop
 |mk (x dx lx Ef lt p:Ν) (n:Int) (DX Ej:List V) (ps:List (Int×Int)) (rs:List Rw) (_:vs=[.ref x,.ref lx,.ref p]) (_:H x=Α (.ρ ts.told dx [])) (_:cT H c lx Ef lt n DX ps) (_:DT K H p Ej) (_:IX H Ej rs) (_:Ej.length<=100000) (_:ps.length<=1000) (_:(∀r∈rs,(∀k∈r.s,k<=1000)/\r.s.length<=1000)) (_:(∀i,dJ n ps rs rs.length=Α i->False)) (_:(dJ n ps rs rs.length=Β->∀H' de kvs,Off x H H'->H' x=Α (.ρ ts.told dx [("land",.ref lx),("entries",.ref de)])->E4 P w H' de kvs->(∀k,cG kvs k=(cX rs k).map ze)->Q .Eh H'))
inductive sX(P:Program)(w:Î)(ts:Ts)(vs:List V)(H:Hp)(Q:VK)(E:XK):Prop
 |mk (x dx de:Ν) (lv:V) (kvs:List fT) (r:Rw) (m:Nat) (_:vs=[.ref x,.int r.p,.int r.g,cV r.c]) (_:H x=Α (.ρ ts.told dx [("land",lv),("entries",.ref de)])) (_:E4 P w H de kvs) (_:(cG kvs (aN r)).getD (.int 0)=.int m) (_:m<2^400) (_:∀H' D,DP H H'->H' D=Β->Q (.ref D) (ο H' D (.π (gy m))))
structure Uj(K:ϧ)(mg:Str->Option Τ)(ts:Ts)(f1:Ν)(d1:Ý):Prop where
 ct:GK K ts.tab
 nt:Eb K ts.tab "land"
 cd:GK K ts.told
 QG:Eb K ts.told "land"
 OG:Eb K ts.told "entries"
 mt:mg "Table"=Α (.ref ts.tab)
 cm:By K ts.tab "__init__" f1
 bt:Binds K d1 ["self","land"] []
abbrev NT:List Str:=["self","land","rows","number","row","key"]
theorem Off.land(o:Off x H H')(a:H x=Α (.ρ C dx []))(h:cT H c lx Ef lt n DX ps):cT H' c lx Ef lt n DX ps:=
 ⟨o _ _ (aQ h.1 a (by intro z;cases z)) h.1,o _ _ (aQ h.2.1 a (by intro z;cases z)) h.2.1,o.Jo a h.2.2⟩
theorem QH:aw ["self","land"] ["self","land"] (am BV):=L2.Eu
theorem C4(F:En K "__init__" "Table.__init__" BV f fd):DQ P w K mg μ aF 1 f fd ["self","land"] (wj K):=by
 refine F.ok QH λ_ _ _ s H _ Q E e h=>?_
 obtain⟨x,C,a,g,rfl,b,c,d,q⟩:=h
 exact⟨_,aj (bF (pv 0) (pv 1) Λ),x,C,a,_,Λ,b,c,d,by show 0<1000;decide,q⟩
theorem zg:aw ["self","place","goal","came"] ["self","place","goal","came"] (am rB):=L2.Eu
theorem xA(F:En K "ways" "Told.ways" rB f fd)(B:Uj K mg ts f1 d1)(i:mg "members"=Α (.ref fm))(j:Ϯ K (.ref fm)=Δ)(l:Binds K dm ["some"] [])
  (n:DQ P w K mg μ aF 2 fm dm ["some"] t8):DQ P w K mg μ aF 3 f fd ["self","place","goal","came"] (sX P w ts):=by
 refine F.ok zg λ_ _ _ s H _ Q E b h=>?_
 obtain⟨x,o,u,I,a,r,m,rfl,v,d,y,z,q⟩:=h
 have A:=yp b
 refine⟨_,aj (ay (au n b Λ i j l .nil ar (aa (pN A (ap (pv 0) Λ) (aa (bM (aa (pv 1) (aa (pv 2) (aa (pv 3) ad)))) (aa ao ad))) ad))),x,_,o,_,_,Λ,v,B.cd,B.OG,Λ,u,a,Λ,d,by show 3<=ό;decide,λt C=>?_⟩
 have e:DP H (ο H t (.tup [.int r.p,.int r.g,cV r.c])):=(DP.refl H).new C
 refine⟨_,_,_,Λ,⟨a,aN r,t,d.same e,Λ,by rw[jX];exact ac,Λ⟩,?_⟩
 rw[y]
 exact⟨m,Λ,z,λD G=>q _ D e G⟩
theorem HL:aw NT ["self","land","rows"] (am wQ):=L2.Eu
theorem zL(F:En K "__init__" "Told.__init__" wQ f fd)(T:eD mg)(B:Uj K mg ts f1 d1)(G1:DQ P w K mg μ aF 1 f1 d1 ["self","land"] (wj K))
  (mf:mg "row_fits"=Α (.ref ff)) (kf:Ϯ K (.ref ff)=Δ) (bf:Binds K df ["land","row"] []) (Gf:DQ P w K mg μ aF 4 ff df ["land","row"] (wH c))
  (ms:mg "set_of"=Α (.ref fs)) (ks:Ϯ K (.ref fs)=Δ) (bs:Binds K ds ["numbers"] []) (Gs:DQ P w K mg μ aF 1 fs ds ["numbers"] (wn K)):
  DQ P w K mg μ aF 5 f fd ["self","land","rows"] (wg P w K c ts):=by
 refine F.ok HL λ_ _ _ s H _ Q E Y h=>?_
 obtain⟨x,C,J,Ef,lt,p,n,DX,Ej,Z,D,rfl,L,hL,hp,hR,hlen,KH,S,hE,hQ⟩:=h
 have Ex:Ea 1 _:=Y.mono (by decide)
 have Fn:Ea 2 _:=Y.mono (by decide)
 have hu:=yp Y
 refine⟨_,ae (aX (pO (dR (v:=.ref ts.tab) Λ B.mt Λ) B.cm G1 Ex B.bt .nil ar (aa (pv 0) (aa (pv 1) ad))))
  (ae (bF (pv 0) (show PE _ _ (vQ P w) from tW) Λ)
  (aj (aT Ϗ Λ (pL Λ T.enum (aa (pv 2) ad)) (gj Λ (bI (ax (i:=3) HL.nd Λ (ύ Λ)) (bI (ax (i:=4) HL.nd Λ (ύ Λ)) dP)))
   (ae (aB (i:=5) HL.nd Λ (ύ Λ) (bM (aa (aD DV (pv 4) ao (λ_ _=>rfl)) (aa (aD DV (pv 4) ao (λ_ _=>rfl)) (aa (aD DV (pv 4) ao (λ_ _=>rfl)) ad)))))
   (ae (aP (PW.pt (fZ (bE (bA (au Gf Y Λ mf kf bf .nil ar (aa (pv 1) (aa (pv 4) ad))))) (dD (om (Cw hu (pv 5) (ap (pv 0) Λ))))))
    (aj aY) aE)
   (aj (tT hu (ap (pv 0) Λ) (pv 5) (au Gs Ex Λ ms ks bs .nil ar (aa (aD DV (pv 4) ao (λ_ _=>rfl)) ad)) Λ))))))),?_⟩
 refine⟨Λ,x,_,C,_,Λ,L,B.cd,B.QG,?_⟩
 refine λm JK=>⟨x,ts.told,C,[("land",.ref J)],Λ,by rw[ag (ah ac JK)];exact ac,B.cd,B.OG,by show 1<1000;decide,?_⟩
 have Lp:=ah ac JK
 have Kk:H m=Β:=by rw[ag (Ϟ Lp)]at JK;exact JK
 generalize JI:ο (ο (ο H x (.ρ ts.told C [("land",.ref J)])) m (lK P w m [])) x (.ρ ts.told C (aS "entries" (.ref m) [("land",.ref J)]))=H2
 have o2:Off x H H2:=λb o M e=>by rw[←JI,ag M,ag (ah e Kk),ag M];exact e
 have x2:H2 x=Α (.ρ ts.told C [("land",.ref J),("entries",.ref m)]):=by rw[←JI,ac];rfl
 have d2:E4 P w H2 m []:=⟨by rw[←JI,ag (Ϟ Lp),ac],λy hy=>by cases hy⟩
 have hrs:=Paired.length hR
 refine⟨p,Λ,⟨_,o2.sq L hp⟩,qi (sq:=λH=>DT K H p) (xs:=Ej) (λi σ u=>∃(a b k:Option V)(d:List fT),Off x H u/\u x=Α (.ρ ts.told C [("land",.ref J),("entries",.ref m)])/\E4 P w u m d/\d.length<=i/\
   (∀k,cG d k=(cX (D.take i) k).map ze)/\(∀j,j<i->qH n Z (D.take j) (D.getD j ⟨0,0,Β,[]⟩)=Ε)/\σ=[Α (.ref x),Α (.ref J),Α (.ref p),a,b,k])
  ⟨Β,Β,Β,[],o2,x2,d2,Ρ _,λk=>rfl,λj hj=>Κ hj (Ă _),Λ⟩ (λi σ u _ DS=>by obtain⟨_,_,_,_,G,_⟩:=DS;exact G.sq L hp) ?_ ?_⟩
 ·rintro i v q σ u hv ⟨a,b,k,d,G,x3,d3,l3,N,U,rfl⟩ hq
  obtain⟨r,A,t,l,rfl,hT⟩:=IX.get hR hv
  have hi:=(gQ0 A)
  have OH:D.getD i ⟨0,0,Β,[]⟩=r:=by rw[Χ,A];rfl
  have Jq:N0 u t l r:=⟨G _ _ (aQ hT.1 L (by intro z;cases z)) hT.1,G _ _ (aQ hT.2 L (by intro z;cases z)) hT.2⟩
  have G7:=G.land L hL
  have s4:DP u (ο u q (.tup [.int i,.ref t])):=(DP.refl u).new hq
  refine⟨q,_,Λ,Ec.of ac,Λ,_,_,Λ,_,_,Λ,Λ,?_⟩
  generalize ο u q (.tup [.int i,.ref t])=H4 at s4⊢
  have WT:Ec K H4 t [.int r.p,.int r.g,cV r.c,.ref l]:=Ec.of (s4 _ _ Jq.1)
  refine⟨t,_,0,_,Λ,Λ,WT,aq (j:=0) Λ,t,_,1,_,Λ,Λ,WT,aq (j:=1) Λ,t,_,2,_,Λ,Λ,WT,aq (j:=2) Λ,by show 3<=ό;decide,λI WU=>?_⟩
  have O:DP u (ο H4 I (.tup [.int r.p,.int r.g,cV r.c])):=s4.new WU
  have k5:(ο H4 I (.tup [.int r.p,.int r.g,cV r.c])) I=Α (.tup ((aN r).map vG)):=by rw[jX];exact ac
  generalize ο H4 I (.tup [.int r.p,.int r.g,cV r.c])=H5 at O k5⊢
  refine⟨J,_,_,t,l,n,_,Z,r,Λ,⟨O _ _ G7.1,O _ _ G7.2.1,Ei.same O G7.2.2⟩,Jq.same O,KH,(S r (Ϙ A)).2,λH6 KI=>⟨_,Λ,?_⟩⟩
  have s6:=O.trans KI
  have k6:=KI _ _ k5
  have x6:=s6 _ _ x3
  have R:=d3.same s6
  have Ms:=λM=>hE i (lQ hi U (by rw[OH];exact M))
  cases hf:fM n Z r with
  | false =>
   exact aL (aL (Ms (by rw[jf,hf];rfl)))
  | true =>
   refine aJ ⟨x,ts.told,C,_,_,Λ,x6,B.cd,B.OG,Λ,m,_,Λ,⟨d,aN r,I,R,Λ,k6,Λ⟩,_,Λ,?_⟩
   have eS:(cG d (aN r)).isSome=(D.take i).any λa=>decide (aN a=aN r):=by rw[N,Ğ,oB]
   cases hS:(cG d (aN r)).isSome with
   | true =>
    exact aL (Ms (by rw[jf,hf,←eS,hS];rfl))
   | false =>
    refine aJ ?_
    have X:=Jq.same s6
    refine⟨t,_,3,_,Λ,Λ,Ec.of X.1,aq (j:=3) Λ,l,_,Λ,DT.of X.2,(S r (Ϙ A)).1,x,_,C,_,_,Λ,x6,B.cd,B.OG,Λ,m,d,_,I,Λ,R,Λ,k6,by rw[Ω];omega,?_⟩
    have hx6:=Lp
    refine⟨_,_,_,_,λb' o M e=>?_,?_,⟨ac,m8 (F:=λk a=>(ο H6 m (lK P w m (ig d (aN r) I (ze r)))) a=Α (.tup (k.map vG))) (λy hy=>?_) ?_⟩,?_,λk'=>?_,λj hj=>?_,Λ⟩
    ·rw[ag (ah e Kk)];exact s6 _ _ (G _ _ M e)
    ·rw[ag Lp];exact x6
    ·rw[ag (aQ (R.2 y hy) R.1 (by intro z;cases z))];exact R.2 y hy
    ·rw[ag (aQ k6 R.1 (by intro z;cases z))];exact k6
    ·exact À gh (V8 l3)
    ·rw[kD,ä,A,î,sA,N]
     by_cases hk:k'=aN r
     ·rw[Ι hk,Ι hk];rfl
     ·rw[Θ hk,Θ hk]
    ·rcases Ě j i with h|h
     ·exact U j h
     ·have:j=i:=by omega
      subst this
      rw[OH,jf,hf,←eS,hS];rfl
 ·rintro σ u ⟨a,b,k,d,G,x3,d3,l3,N,U,rfl⟩
  rw[hrs]at U N
  rw[â]at N
  exact hQ (ip U) u m d G x3 d3 N
noncomputable def nV(ps:List Nat):List V:=ps.map λq:Nat=>V.int (q:Int)
theorem aW(a:List Nat):(nV a).length=a.length:=by simp[nV]
theorem dH{k q:Nat}(h:ps[k]?=Α q):(nV ps)[k]?=Α (V.int (q:Int)):=by simp[nV,h]
theorem lg(a b:List Nat):nV (a++b)=nV a++nV b:=by unfold nV;rw[Ì]
theorem jz(h:v∈nV ps):∃q:Nat,q∈ps/\v=.int (q:Int):=by
 obtain⟨q,a,e⟩:=Ö.mp h
 exact⟨q,a,e.symm⟩
inductive pz(c:Cs)(sel:Int×Int->Int)(vs:List V)(H:Hp)(Q:VK)(E:XK):Prop
 |mk (x dx t:Ν) (n:Int) (DX:List V) (ps:List (Int×Int)) (k:Nat) (pr:Int×Int) (_:vs=[.ref x,.int k]) (_:cT H c x dx t n DX ps) (_:ps[k]?=Α pr) (_:Q (.int (sel pr)) H)
structure qT(K:ϧ)(c:Cs)(f:Ν)(d:Ý):Prop where
 m:cb K c.land "end_of" f
 b:Binds K d ["self","lane"] []
theorem bK(a b:Int):decide (V.int a=V.int b)=decide (a=b):=by
 by_cases h:a=b
 ·rw[h];simp
 ·rw[Η h,Η λz=>h (by injection z)]
theorem iW(h:p<F.length):(nV F)[p]?=Α (V.int ((F.getD p 0:Nat):Int)):=by
 have e:=Μ h
 rw[dH e,Χ,e];rfl
theorem sg(F:List Nat)(i v:Nat):(nV F).set i (.int (v:Int))=nV (F.set i v):=by unfold nV;rw[List.map_set]
theorem fK(h:i<n):Aq n (i:Int)=Α i:=by
 unfold Aq
 rw[Ι (Φ _),Ι (ó.mpr ‹_›),Υ]
noncomputable def mN(m:Nat):List Nat:=Yd.GX m (Ó (m:Int))
theorem QI:aw ["self","lane"] ["self","lane"] (am Ci):=L2.Eu
theorem CM(F:En K "end_of" "Land.end_of" Ci f fd)(L:kC K c):DQ P w K mg μ aF 1 f fd ["self","lane"] (pz c Ï):=by
 refine F.ok QI λ_ _ _ s H _ Q E m h=>?_
 obtain⟨x,a,t,n,o,p,k,r,rfl,⟨b,d,e⟩,g,q⟩:=h
 refine⟨_,aj (ay (aD DV (aD DV (ap (pv 0) Λ) (pv 1) (λ_ _=>rfl)) ao (λ_ _=>rfl))),?_⟩
 obtain⟨v,i,u,rfl,l⟩:=Ei.Nz e g
 refine⟨x,_,a,_,_,Λ,b,L.cl,L.nl,Λ,t,_,_,_,Λ,Λ,Ec.of d,aq i,u,_,1,_,Λ,Λ,Ec.of l,aq (j:=1) Λ,q⟩
noncomputable def isI:V->Bool
 |.int _=>Δ
 |_=>Ε
noncomputable def lN:V->Int->Int->Bool
 |.int i,a,b=>decide (a<=i/\i<=b)
 |_,_,_=>Ε
inductive vE:V->Prop
 |int (i:Int):vE (.int i)
 |bl (b:Bool):vE (.bl b)
 |Eh:vE .Eh
structure yP(K:ϧ):Prop where
 ii:Į K (.type "int") (.type "int")=Α Δ
 ib:Į K (.type "int") (.type "bool")=Α Ε
 bi:Į K (.type "bool") (.type "int")=Α Δ
 bb:Į K (.type "bool") (.type "bool")=Α Δ
 ni:Į K (.type "NoneType") (.type "int")=Α Ε
def iN:Sp:=λvs H Q _=>∃v,vs=[v]/\vE v/\Q (.bl (isI v)) H
inductive eJ(vs:List V)(H:Hp)(Q:VK)(E:XK):Prop
 |mk (v:V) (a b:Int) (_:vs=[v,.int a,.int b]) (_:vE v) (_:Q (.bl (lN v a b)) H)
theorem Ei.imp(h:∀v p,AS H v p->AS H' v p):∀{a:List V}{b:List (Int×Int)},Ei H a b->Ei H' a b:=λc=>by
 induction c with
 |nil=>exact .nil
 |cons z r d=>exact .cons (h _ _ z) d
noncomputable def hV:Option Int->V
 |none =>.Eh
 |some z =>.int z
abbrev Fs:=List (Str×V)
noncomputable def jI(r b:Int)(h:V)(pa:Ν):Fs:=[("rights",.int r),("returning",.int b),("holder",h),("pieces",.ref pa)]
structure Em(H:Hp)(C x dx pa:Ν)(r b:Int)(h:Option Int)(Es:List V)(qs:List (Int×Int)):Prop where
 ρ:H x=Α (.ρ C dx (jI r b (hV h) pa))
 π:H pa=Α (.π Es)
 Fv:Ei H Es qs
def Fz(x pa:Ν)(H H':Hp):Prop:=∀a o,a≠x->a≠pa->H a=Α o->H' a=Α o
theorem Fz.Jo{fs:Fs}(h:Fz x pa H H')(a:H x=Α (.ρ C dx fs))(b:H pa=Α (.π Es)):Ei H vs qs->Ei H' vs qs:=
 Ei.imp λ_ _ c=>by obtain⟨t,e,q⟩:=c;exact⟨t,e,h _ _ (aQ q a (by intro z;cases z)) (aQ q b (by intro z;cases z)) q⟩
theorem Em.same(L:Em H C x dx pa r b h Es qs)(s:DP H H'):Em H' C x dx pa r b h Es qs:=⟨s _ _ L.ρ,s _ _ L.π,Ei.same s L.Fv⟩
noncomputable def cp(r:Int)(h:Option Int)(l c:Int):Bool:=if r=0 then Ε else if c=0 then decide (h=Β) else decide (h=Α l)
theorem Dj(h:Option Int):decide (hV h=V.Eh)=decide (h=Β):=by cases h<;>rfl
theorem Dk(h:Option Int)(l:Int):decide (hV h=V.int l)=decide (h=Α l):=by
 cases h with
 |none=>rfl
 | some z =>
  show decide (V.int z=V.int l)=_
  rw[bK]
  by_cases e:z=l
  ·rw[Ζ e,Ζ (by rw[e])]
  ·rw[Η e,Η λq=>e (Ϝ q)]
theorem At(h:Option Int)(l:Int):BN (hV h) (.int l)=Δ:=by cases h<;>rfl
structure Bx(K:ϧ)(C:Ν):Prop where
 cl:GK K C
 n1:Eb K C "rights"
 n2:Eb K C "returning"
 n3:Eb K C "holder"
 n4:Eb K C "pieces"
inductive w8(C:Ν)(vs:List V)(H:Hp)(Q:VK)(E:XK):Prop
 |mk (x dx:Ν) (room:Int) (_:vs=[.ref x,.int room]) (_:H x=Α (.ρ C dx [])) (_:∀(pa:Ν)(H':Hp),H pa=Β->(∀a o,a≠x->H a=Α o->H' a=Α o)->Em H' C x dx pa room 0 Β [] []->Q .Eh H')
inductive nN(C:Ν)(vs:List V)(H:Hp)(Q:VK)(E:XK):Prop
 |mk (x dx pa:Ν) (r b:Int) (h:Option Int) (l c:Int) (_:vs=[.ref x,.int l,.int c]) (_:H x=Α (.ρ C dx (jI r b (hV h) pa))) (_:Q (.bl (cp r h l c)) H)
inductive Ba(C:Ν)(vs:List V)(H:Hp)(Q:VK)(E:XK):Prop
 |mk (x dx pa:Ν) (r b:Int) (h:Option Int) (Es:List V) (qs:List (Int×Int)) (l c:Int) (last:Bool) (_:vs=[.ref x,.int l,.int c,.bl last]) (_:Em H C x dx pa r b h Es qs) (_:Es.length<100000) (_:(cp r h l c=Ε->False)) (_:(cp r h l c=Δ->∀(t:Ν)(H':Hp),Fz x pa H H'->Em H' C x dx pa (r - 1) b (if last then Β else Α l) (Es++[.ref t]) (qs++[(l,c)])->Q .Eh H'))
noncomputable def sJ:List V->V
 |[] =>.Eh
 |v:: _=>v
inductive jP(C:Ν)(vs:List V)(H:Hp)(Q:VK)(E:XK):Prop
 |mk (x dx pa:Ν) (r b:Int) (h:Option Int) (Es:List V) (qs:List (Int×Int)) (_:vs=[.ref x]) (_:Em H C x dx pa r b h Es qs) (_:Q (sJ Es) H)
inductive rn(C:Ν)(vs:List V)(H:Hp)(Q:VK)(E:XK):Prop
 |mk (x dx pa:Ν) (r b:Int) (h:Option Int) (Es:List V) (qs:List (Int×Int)) (_:vs=[.ref x]) (_:Em H C x dx pa r b h Es qs) (_:(Es=[]->False)) (_:(∀v rest,Es=v:: rest->∀H':Hp,Fz x pa H H'->Em H' C x dx pa r (b+1) h rest qs.tail->Q v H'))
inductive tL(C:Ν)(vs:List V)(H:Hp)(Q:VK)(E:XK):Prop
 |mk (x dx pa:Ν) (r b:Int) (h:Option Int) (Es:List V) (qs:List (Int×Int)) (_:vs=[.ref x]) (_:Em H C x dx pa r b h Es qs) (_:(b=0->False)) (_:(b≠0->∀H':Hp,Fz x pa H H'->Em H' C x dx pa (r+1) (b - 1) h Es qs->Q .Eh H'))
theorem WV(n:Nat):Ke 0 (n+1)=Α 0:=by
 unfold Ke
 simp
theorem mE(F:En K "is_whole" "is_whole" iu f fd)(T:eD mg)(Z:yP K):DQ P w K mg μ aF 1 f fd ["value"] iN:=by
 refine F.ok tP λ_ _ _ s H _ Q E c h=>?_
 obtain⟨v,rfl,a,q⟩:=h
 refine⟨_,aj (ay (e7 (aG jc Λ T.OF å (aa (pv 0) (aa (gO (v:=.ty "int") Λ T.int PySem.Pv.boot_int Λ) ad)))
  (dZ (xz (aG jc Λ T.OF å (aa (pv 0) (aa (gO (v:=.ty "bool") Λ T.bool PySem.Pv.boot_bool Λ) ad))))))),?_⟩
 cases a with
 |int i=>exact⟨_,_,_,_,Λ,.int i,Z.ii,_,Λ,aL ⟨.int i,_,"bool",Ε,Λ,.int i,Z.ib,Ε,Λ,q⟩⟩
 |bl b=>exact⟨_,_,_,_,Λ,.bl b,Z.bi,_,Λ,aL ⟨.bl b,_,"bool",Δ,Λ,.bl b,Z.bb,Δ,Λ,q⟩⟩
 |Eh=>exact⟨_,_,_,_,Λ,.Eh,Z.ni,_,Λ,aJ q⟩
theorem rY(F:En K "is_within" "is_within" jR f fd)(T:eD mg)(Z:yP K)(g:mg "is_whole"=Α (.ref fh))(e:En K "is_whole" "is_whole" iu fh HW)(j:Binds K HW ["value"] []):
  DQ P w K mg μ aF 2 f fd ["value","least","most"] eJ:=by
 have G:DQ P w K mg μ aF 1 fh HW ["value"] iN:=mE e T Z
 refine F.ok p7 λ_ _ _ s H _ Q E l h=>?_
 obtain⟨v,a,b,rfl,m,q⟩:=h
 refine⟨_,aj (ay (e7 (au G l Λ g e.kp j .nil ar (aa (pv 0) ad)) (dZ (pP pQ pQ (pv 1) (pv 0) (pv 2))))),?_⟩
 cases m with
 |bl x=>exact⟨_,Λ,.bl x,_,Λ,aJ q⟩
 |Eh=>exact⟨_,Λ,.Eh,_,Λ,aJ q⟩
 | int i =>
  refine⟨_,Λ,.int i,_,Λ,aL ?_⟩
  refine⟨_,_,Λ,Λ,_,Λ,?_⟩
  have q:Q (V.bl (decide (a<=i/\i<=b))) H:=q
  by_cases c:a<=i
  ·rw[Ζ c]
   refine aL ⟨_,_,Λ,Λ,?_⟩
   show Q (V.bl (decide (i<=b))) H
   by_cases d:i<=b
   ·rw[Ζ d];rw[Ζ ⟨c,d⟩]at q;exact q
   ·rw[Η d];rw[Η λz=>d z.2]at q;exact q
  ·rw[Η c]
   refine aJ ?_
   rw[Η λz=>c z.1]at q;exact q
theorem QJ:aw ["self","room"] ["self","room"] (am Ce):=L2.Eu
theorem CI(F:En K "__init__" "Lane.__init__" Ce f fd)(L:Bx K C):DQ P w K mg μ aF 1 f fd ["self","room"] (w8 C):=by
 refine F.ok QJ λ_ _ _ s H _ Q E n h=>?_
 obtain⟨x,c,room,rfl,m,q⟩:=h
 refine⟨_,ae (bF (pv 0) (pv 1) Λ) (ae (bF (pv 0) ao Λ) (ae (bF (pv 0) b9 Λ) (aj (bF (pv 0) (aU ad) Λ)))),x,C,c,_,Λ,m,L.cl,L.n1,by show 0<1000;decide,x,C,c,_,Λ,ac,L.cl,L.n2,by show 1<1000;decide,x,C,c,_,Λ,ac,L.cl,L.n3,by show 2<1000;decide,Ϧ _,λd i=>?_⟩
 have b:=ah ac i
 refine⟨x,C,c,_,Λ,by rw[ag b];exact ac,L.cl,L.n4,by show 3<1000;decide,?_⟩
 have l:H d=Β:=by
  rw[ag (Ϟ b),ag (Ϟ b),ag (Ϟ b)]at i
  exact i
 refine q d _ l (λa o g e=>?_) ⟨ac,by rw[ag (Ϟ b)];exact ac,.nil⟩
 have j:a≠d:=λz=>by
  rw[z,l]at e
  cases e
 rw[ag g,ag j,ag g,ag g,ag g]
 exact e
theorem BR:aw ["self","letter","count"] ["self","letter","count"] (am wW):=L2.Eu
theorem zT(F:En K "open_to" "Lane.open_to" wW f fd)(L:Bx K C):DQ P w K mg μ aF 1 f fd ["self","letter","count"] (nN C):=by
 refine F.ok BR λ_ _ _ s H _ Q E i h=>?_
 obtain⟨x,e,j,r,b,h,l,c,rfl,g,q⟩:=h
 refine⟨_,ae (aP (az bN (ap (pv 0) Λ) ao (aC _)) (aj (ay eM)) aE)
  (ae (aP (az bN (pv 2) ao (aC _)) (aj (ay (cP jw (ap (pv 0) Λ) b9 (aC _)))) aE)
  (aj (ay (cP bN (ap (pv 0) Λ) (pv 1) (aC _))))),?_⟩
 refine⟨x,C,e,_,_,Λ,g,L.cl,L.n1,Λ,Λ,_,Λ,?_⟩
 rw[bK]
 unfold cp at q
 by_cases d:r=0
 ·rw[Ζ d]
  rw[Ι d]at q
  exact aL q
 rw[Η d]
 rw[Θ d]at q
 refine aJ ⟨Λ,_,Λ,?_⟩
 rw[bK]
 by_cases a:c=0
 ·rw[Ζ a]
  rw[Ι a]at q
  refine aL ⟨x,C,e,_,_,Λ,g,L.cl,L.n3,Λ,Λ,?_⟩
  rw[Dj]
  exact q
 ·rw[Η a]
  rw[Θ a]at q
  refine aJ ⟨x,C,e,_,_,Λ,g,L.cl,L.n3,Λ,At h l,?_⟩
  rw[Dk]
  exact q
theorem QK:aw ["self","letter","count","last"] ["self","letter","count","last"] (am BY):=L2.Eu
theorem C7(F:En K "put" "Lane.put" BY f fd)(L:Bx K C)(Y:cb K C "open_to" fo)(Z:Binds K GB ["self","letter","count"] [])(Go:DQ P w K mg μ aF 1 fo GB ["self","letter","count"] (nN C)):
  DQ P w K mg μ aF 2 f fd ["self","letter","count","last"] (Ba C):=by
 refine F.ok QK λ_ _ _ s H _ Q E hr h=>?_
 obtain⟨x,g,d,r,b,h,j,qs,l,c,last,rfl,i,O,h1,R⟩:=h
 refine⟨_,ae (aP (bE (bA (aH (pv 0) L.cl Y Go hr Z .nil ar (aa (pv 1) (aa (pv 2) ad))))) (aj aY) aE)
  (ae (eL (pv 0) ao uy)
  (ae (aX (cF plainAttrs_list PySem.F.slot_list_append PySem.F.type_list_append bX (ap (pv 0) Λ) (aa (bM (aa (pv 1) (aa (pv 2) ad))) ad)))
  (aj (bF (pv 0) (cQ (bA (pv 3)) b9 (pv 1)) Λ)))),?_⟩
 refine⟨x,g,_,Λ,i.ρ,Λ,x,g,d,r,b,h,l,c,Λ,i.ρ,_,Λ,?_⟩
 cases y:cp r h l c with
 | false =>
  exact aL (h1 y)
 | true =>
  refine aJ ?_
  refine⟨x,C,g,_,_,Λ,i.ρ,L.cl,L.n1,Λ,_,_,Λ,Λ,g,_,i.ρ,by show 4<1000;decide,?_⟩
  have A:=aQ i.π i.ρ (by intro z;cases z)
  have B:(ο H x (.ρ C g (aS "rights" (.int (r - 1)) (jI r b (hV h) d)))) x=Α (.ρ C g (jI (r - 1) b (hV h) d)):=ac
  have u:(ο H x (.ρ C g (aS "rights" (.int (r - 1)) (jI r b (hV h) d)))) d=Α (.π j):=by rw[ag A];exact i.π
  have S:Fz x d H (ο H x (.ρ C g (aS "rights" (.int (r - 1)) (jI r b (hV h) d)))):=λa o m _ e=>by rw[ag m];exact e
  generalize ο H x (.ρ C g (aS "rights" (.int (r - 1)) (jI r b (hV h) d)))=D at B u S⊢
  refine⟨x,C,g,_,_,Λ,B,L.cl,L.n4,Λ,.inl ⟨Λ,_,DT.of u⟩,by show 2<=ό;decide,λt ht=>?_⟩
  have p:=(DP.refl D).new (o:=.tup [.int l,.int c]) ht
  have gt:(ο D t (.tup [.int l,.int c])) t=Α (.tup [.int l,.int c]):=ac
  generalize ο D t (.tup [.int l,.int c])=q at p gt⊢
  refine⟨d,j,_,Λ,Λ,p _ _ u,by rw[Ω];omega,?_⟩
  have v:(ο q d (.π (j++[.ref t]))) x=Α (.ρ C g (jI (r - 1) b (hV h) d)):=by rw[ag (Ϟ A)];exact p _ _ B
  have T:(ο q d (.π (j++[.ref t]))) d=Α (.π (j++[.ref t])):=ac
  have G:Fz x d H (ο q d (.π (j++[.ref t]))):=λa o m n e=>by rw[ag n];exact p _ _ (S a o m n e)
  have I:=aQ gt (p _ _ u) (by intro z;cases z)
  have J:(ο q d (.π (j++[.ref t]))) t=Α (.tup [.int l,.int c]):=by rw[ag I];exact gt
  generalize ο q d (.π (j++[.ref t]))=U at v T G J⊢
  have M:=aQ J v (by intro z;cases z)
  have fin:∀N:Option Int,Em (ο U x (.ρ C g (aS "holder" (hV N) (jI (r - 1) b (hV h) d)))) C x g d (r - 1) b N (j++[.ref t]) (qs++[(l,c)]):=λN =>
   ⟨ac,by rw[ag A];exact T,Ei.snoc ⟨t,Λ,by rw[ag M];exact J⟩ (Fz.Jo (λa o m n e=>by rw[ag m];exact G a o m n e) i.ρ i.π i.Fv)⟩
  have off:∀X,Fz x d H (ο U x X):=λX a o m n e=>by rw[ag m];exact G a o m n e
  refine⟨_,Λ,?_⟩
  cases last with
  |true=>exact aL ⟨x,C,g,_,Λ,v,L.cl,L.n3,by show 4<1000;decide,R y t _ (off _) (fin Β)⟩
  |false=>exact aJ ⟨x,C,g,_,Λ,v,L.cl,L.n3,by show 4<1000;decide,R y t _ (off _) (fin (Α l))⟩
theorem zh:aw ["self"] ["self"] (am rK):=L2.Eu
theorem xL(F:En K "front" "Lane.front" rK f fd)(L:Bx K C):DQ P w K mg μ aF 1 f fd ["self"] (jP C):=by
 refine F.ok zh λ_ _ _ s H _ Q E g h=>?_
 obtain⟨x,c,d,r,b,h,e,i,rfl,a,q⟩:=h
 refine⟨_,aj (ay (cQ (dE (ap (pv 0) Λ) (λ_=>rfl)) (aD DZ (ap (pv 0) Λ) ao (λ_ _=>rfl)) b9)),x,C,c,_,_,Λ,a.ρ,L.cl,L.n4,Λ,_,.inl ⟨_,DT.of a.π,Λ⟩,?_⟩
 cases e with
 |nil=>exact aJ q
 |cons v rest=>exact aL ⟨x,C,c,_,_,Λ,a.ρ,L.cl,L.n4,Λ,d,_,0,v,Λ,Λ,DT.of a.π,aq (j:=0) Λ,q⟩
theorem BO:aw ["self"] ["self"] (am wS):=L2.Eu
theorem zP(F:En K "pull" "Lane.pull" wS f fd)(L:Bx K C):DQ P w K mg μ aF 1 f fd ["self"] (rn C):=by
 refine F.ok BO λ_ _ _ s H _ Q E D h=>?_
 obtain⟨x,g,c,r,b,h,u,G,rfl,d,y,A⟩:=h
 refine⟨_,ae (aP (bE (dE (ap (pv 0) Λ) (λ_=>rfl))) (aj aY) aE)
  (ae (eL (pv 0) ao oF)
  (aj (ay (cF plainAttrs_list PySem.F.slot_list_pop PySem.F.type_list_pop ya (ap (pv 0) Λ) (aa ao ad))))),?_⟩
 refine⟨x,C,g,_,_,Λ,d.ρ,L.cl,L.n4,Λ,_,.inl ⟨_,DT.of d.π,Λ⟩,?_⟩
 have m:=aQ d.π d.ρ (by intro z;cases z)
 cases u with
 | nil =>
  exact aL (y Λ)
 | cons v rest =>
  refine aJ ?_
  refine⟨x,C,g,_,_,Λ,d.ρ,L.cl,L.n2,Λ,_,_,Λ,Λ,g,_,d.ρ,by show 4<1000;decide,?_⟩
  have i:(ο H x (.ρ C g (aS "returning" (.int (b+1)) (jI r b (hV h) c)))) x=Α (.ρ C g (jI r (b+1) (hV h) c)):=ac
  have j:(ο H x (.ρ C g (aS "returning" (.int (b+1)) (jI r b (hV h) c)))) c=Α (.π (v:: rest)):=by rw[ag m];exact d.π
  have n:Fz x c H (ο H x (.ρ C g (aS "returning" (.int (b+1)) (jI r b (hV h) c)))):=λa o l _ e=>by rw[ag l];exact e
  generalize ο H x (.ρ C g (aS "returning" (.int (b+1)) (jI r b (hV h) c)))=B at i j n⊢
  refine⟨x,C,g,_,_,Λ,i,L.cl,L.n4,Λ,.inl ⟨Λ,_,DT.of j⟩,c,_,0,0,v,Λ,Λ,j,by decide,by decide,WV _,Λ,?_⟩
  have p:Fz x c H (ο B c (.π rest)):=λa o l q e=>by rw[ag q];exact n a o l q e
  refine A v rest Λ _ p ⟨by rw[ag (Ϟ m)];exact i,ac,?_⟩
  have z:=Fz.Jo p d.ρ d.π d.Fv
  cases z with
  |cons _ t=>exact t
theorem zi:aw ["self"] ["self"] (am rP):=L2.Eu
theorem xS(F:En K "bring" "Lane.bring" rP f fd)(L:Bx K C):DQ P w K mg μ aF 1 f fd ["self"] (tL C):=by
 refine F.ok zi λ_ _ _ s H _ Q E D h=>?_
 obtain⟨x,c,d,r,b,h,u,G,rfl,g,v,y⟩:=h
 refine⟨_,ae (aP (az bN (ap (pv 0) Λ) ao (aC _)) (aj aY) aE)
  (ae (eL (pv 0) ao uy) (aj (eL (pv 0) ao oF))),?_⟩
 refine⟨x,C,c,_,_,Λ,g.ρ,L.cl,L.n2,Λ,Λ,_,Λ,?_⟩
 have m:=aQ g.π g.ρ (by intro z;cases z)
 rw[bK]
 by_cases i:b=0
 ·rw[Ζ i]
  exact aL (v i)
 ·rw[Η i]
  refine aJ ?_
  refine⟨x,C,c,_,_,Λ,g.ρ,L.cl,L.n2,Λ,_,_,Λ,Λ,c,_,g.ρ,by show 4<1000;decide,?_⟩
  have l:(ο H x (.ρ C c (aS "returning" (.int (b - 1)) (jI r b (hV h) d)))) x=Α (.ρ C c (jI r (b - 1) (hV h) d)):=ac
  have n:Fz x d H (ο H x (.ρ C c (aS "returning" (.int (b - 1)) (jI r b (hV h) d)))):=λa o j _ e=>by rw[ag j];exact e
  have p:(ο H x (.ρ C c (aS "returning" (.int (b - 1)) (jI r b (hV h) d)))) d=Α (.π u):=by rw[ag m];exact g.π
  generalize ο H x (.ρ C c (aS "returning" (.int (b - 1)) (jI r b (hV h) d)))=A at l p n⊢
  refine⟨x,C,c,_,_,Λ,l,L.cl,L.n1,Λ,_,_,Λ,Λ,c,_,l,by show 4<1000;decide,?_⟩
  have q:∀t,Fz x d H (ο A x t):=λt a o j B e=>by rw[ag j];exact n a o j B e
  exact y i _ (q _) ⟨ac,by rw[ag m];exact p,Fz.Jo (q _) g.ρ g.π g.Fv⟩
noncomputable def ud(m:Nat)(Ej:List V):Bool:=decide (Ej.length=m)&& Ej.all λv=>lN v 1 60
def Sq(K:ϧ)(H:Hp)(a:Ν)(xs:List V):Prop:=DT K H a xs∨Ec K H a xs
inductive sY(K:ϧ)(c:Cs)(vs:List V)(H:Hp)(Q:VK)(E:XK):Prop
 |mk (lx Ef lt:Ν) (n:Int) (DX:List V) (ps:List (Int×Int)) (rv:V) (_:vs=[.ref lx,rv]) (_:cT H c lx Ef lt n DX ps) (_:ps.length<=1000) (_:((rv=.Eh/\∀t H',DP H H'->H' t=Α (.tup (Ϛ ps.length (.int 1)))->Q (.ref t) H')∨(∃ra Ej,rv=.ref ra/\Sq K H ra Ej/\Ej.length<=1000/\(∀v∈Ej,vE v)/\(ud ps.length Ej=Ε->False)/\(ud ps.length Ej=Δ->∀t H',DP H H'->Ec K H' t Ej->Q (.ref t) H'))))
noncomputable def Dh(s:Ç):Scope:=match s with
 |.If _ (.Return (Α (.Call _ [.ListComp _ _ sc _] _ _)) _:: _) _ _=>sc
 |_=>zQ0
noncomputable def Cz(s:Ç):Scope:=match s with
 |.If (.BoolOp _ [_,.UnaryOp _ (.Call _ [.ListComp _ _ sc _] _ _) _] _) _ _ _=>sc
 |_=>zQ0
noncomputable def QL:V->Bool
 |.int i=>decide ((if i<0 then -i else i)<10^(60:Int).toNat)
 |_=>Ε
def rl:Sp:=λvs H Q _=>∃v,vs=[v]/\vE v/\Q (.bl (QL v)) H
theorem bW(e:DP H H')(h:Ec K H a xs):Ec K H' a xs:=by
 rcases h with h|h
 ·refine .inl ?_
  rcases h with h|⟨o,h⟩
  ·exact .inl (e _ _ h)
  ·exact .inr ⟨o,e _ _ h⟩
 ·exact .inr h
theorem Bj(e:PI X tg it a)(f:PI X tg it b):PI X tg it (λd H R=>a d H R∨b d H R):=λc s d H R I h=>h.elim (e c s d H R I) (f c s d H R I)
theorem qx{xs:List V}(f:V->V)(l:xs.length<ό)(c:∀i,i<xs.length->J.go i H)(m:J.stop xs.length H)(n:∀i x a,J.K5 i H x a->a=H/\xs[i]?=Α x)
  (o:∀(x:V)(N:V->Hp->Prop),x∈xs->N (f x) H->g x σ0 H λd b=>te d b N)
  (p:∀D,H D=Β->Q (.ref D) (ο H D (.π (xs.map f)))):dM J g rf te σ0 Q H:=by
 refine bQ xs.length l (λi acc a=>a=H/\acc=(xs.take i).map f) ⟨Λ,Λ⟩ (λi acc a h=>by rw[h.2,ϊ];exact ć _ _) (λi acc a q h=>?_) (λacc a h=>?_)
 ·obtain⟨rfl,rfl⟩:=h
  refine⟨c i q,λv b y=>?_⟩
  obtain⟨e,j⟩:=n i v b y
  subst e
  exact o v (λy r=>r=b/\(xs.take i).map f++[y]=(xs.take (i+1)).map f) (Ϙ j) ⟨Λ,by rw[ä,j,Ì];rfl⟩
 ·obtain⟨rfl,rfl⟩:=h
  rw[â]
  exact⟨m,p⟩
theorem Du(f:V->V)(d:xs.length<ό)(b:DT K H a xs)(e:∀(x:V) (N:V->Hp->Prop),x∈xs->N (f x) H->g x σ0 H λc h=>te c h N)
  (j:∀D,H D=Β->Q (.ref D) (ο H D (.π (xs.map f)))):dM (vJ K a) g rf te σ0 Q H:=
 qx f d (λi l=>⟨xs,xs[i],b,by simp[l]⟩) ⟨xs,b,Ρ _⟩ (λi x m y=>⟨y.1,y.2 xs b⟩) e j
theorem yB(f:V->V)(d:xs.length<ό)(b:Ec K H a xs)(e:∀(x:V) (N:V->Hp->Prop),x∈xs->N (f x) H->g x σ0 H λc h=>te c h N)
  (j:∀D,H D=Β->Q (.ref D) (ο H D (.π (xs.map f)))):dM (T7 K a) g rf te σ0 Q H:=
 qx f d (λi l=>⟨xs,xs[i],b,by simp[l]⟩) ⟨xs,b,Ρ _⟩ (λi x m y=>⟨y.1,y.2 xs b⟩) e j
theorem WX:aw ["land","rooms"] ["land","rooms"] (am iw):=L2.Eu
theorem WY:ES ["land","rooms"] (am iw) (Dh ((aK iw).getD 0 (.Pass ⟨0,0,0,0⟩))) [] []:=L2.FC
theorem WZ:ES ["land","rooms"] (am iw) (Cz ((aK iw).getD 1 (.Pass ⟨0,0,0,0⟩))) [] []:=L2.FC
theorem Xa:(["lane"]:List Str).Nodup:=by decide +kernel
theorem QM:(["room"]:List Str).Nodup:=by decide +kernel
theorem xB(F:En K "rooms_of" "rooms_of" iw f fd)(T:eD mg)(L:kC K c)
  (R:mg "is_within"=Α (.ref fw)) (S:Ϯ K (.ref fw)=Δ) (U:Binds K dw ["value","least","most"] []) (X:DQ P w K mg μ aF 2 fw dw ["value","least","most"] eJ) (Y:mg "MOST_ROOM"=Α (.int 60 t1)):
  DQ P w K mg μ aF 3 f fd ["land","rooms"] (sY K c):=by
 refine F.ok WX λ_ _ _ s H _ Q E Z h=>?_
 obtain⟨B,G,lt,n,I,g,rv,rfl,l,FH,hh⟩:=h
 refine⟨_,ae (aP (az jw (pv 1) b9 (aC _)) (aj (ay (bS cC Λ T.tuple PySem.Pv.boot_tuple (aa (bv (own:=["lane"]) (capN:=[]) (cap:=[]) WY Λ (js (ap (pv 0) Λ))
    (λC j r fp=>⟨ax (i:=0) Xa Λ (ύ Λ),c4,ao⟩)) ad)))) aE)
  (ae (aP (iT (PW.pt (fZ (az jE (aG aA Λ T.len PySem.boot_len (aa (pv 1) ad)) (aG aA Λ T.len PySem.boot_len (aa (ap (pv 0) Λ) ad)) (aC _))
    (dD (bE (bA (aG (jd Λ) Λ T.all ĸ (aa (bv (own:=["room"]) (capN:=[]) (cap:=[]) WZ Λ (Bj (aR (pv 1)) (js (pv 1)))
     (λC j r fp=>⟨ax (i:=0) QM Λ (ύ Λ),c4,au X Z Λ R S U .nil ar (aa (pv 0) (aa ao (aa (dR (v:=.int 60) Λ Y ⟨_,Λ⟩) ad)))⟩)) ad))))))))
   (aj aY) aE)
  (aj (ay (bS cC Λ T.tuple PySem.Pv.boot_tuple (aa (pv 1) ad))))),?_⟩
 have J:I.length=g.length:=Paired.length l.2.2
 refine⟨Λ,_,Λ,?_⟩
 rcases hh with ⟨rfl,q⟩|⟨e,a,rfl,d,Kl,u,qE,q⟩
 ·refine aL ⟨B,c.land,G,_,_,Λ,l.1,L.cl,L.nl,Λ,lt,Λ,⟨_,Ec.of l.2.1⟩,?_⟩
  refine yB (λ_ =>.int 1) (by rw[Ω];omega) (Ec.of l.2.1) (λx N m h=>h) (λD y=>?_)
  have s1:=(DP.refl H).new (o:=.π (I.map λ_=>V.int 1)) y
  refine⟨D,_,Λ,.inl ⟨DT.of ac,λt z=>q t _ (s1.new z) ?_⟩⟩
  rw[ac,List.map_const',J]
 ·refine aJ ?_
  have M:∀{H:Hp},Sq K H e a->(DT K H e a∨Ec K H e a):=λh=>h
  refine⟨λb r=>DP H r/\b= !ud g.length a,?_,?_⟩
  ·refine⟨e,a,Λ,d,B,c.land,G,_,_,Λ,l.1,L.cl,L.nl,Λ,lt,_,Λ,.inr (Ec.of l.2.1),Λ,_,Λ,?_⟩
   rw[bK,J]
   by_cases O:a.length=g.length
   rotate_left
   ·rw[Η (show ¬((a.length:Nat):Int)=(g.length:Nat) by omega)]
    refine aL ⟨DP.refl H,?_⟩
    unfold ud
    rw[Η O];rfl
   rw[Ζ (show((a.length:Nat):Int)=(g.length:Nat) by omega)]
   have step:∀(x:V)(N:V->Hp->Prop),x∈a->N (.bl (lN x 1 60)) H->vE x:=λx _ m _=>u x m
   have fin:∀D,H D=Β->∃(p:Ν)(bs:List Bool),[V.ref D]=[.ref p]/\DT K (ο H D (.π (a.map λv=>V.bl (lN v 1 60)))) p (bs.map V.bl)/\Uaa (λc r=>DP H r/\(!c)= !ud g.length a) (.bl (bs.all id)) (ο H D (.π (a.map λv=>V.bl (lN v 1 60)))):=λD y=>by
    refine⟨D,a.map λv=>lN v 1 60,Λ,DT.of (by rw[ac,č];rfl),_,Λ,(DP.refl H).new y,?_⟩
    unfold ud
    rw[Ζ O,ñ,all_map];rfl
   refine aJ ?_
   rcases d with d|d
   ·refine .inl ⟨e,Λ,⟨_,d⟩,?_⟩
    exact Du (λv =>.bl (lN v 1 60)) (by rw[Ω];omega) d (λx N m h=>⟨x,1,60,Λ,u x m,h⟩) fin
   ·refine .inr ⟨e,Λ,⟨_,d⟩,?_⟩
    exact yB (λv =>.bl (lN v 1 60)) (by rw[Ω];omega) d (λx N m h=>⟨x,1,60,Λ,u x m,h⟩) fin
  rintro b r ⟨j,rfl⟩
  cases A:ud g.length a with
  |false=>exact aL (qE A)
  | true =>
   refine aJ ⟨e,a,Λ,?_⟩
   rcases d with d|d
   ·exact .inl ⟨j.seq d,λt z=>q A t _ (j.new z) (Ec.of ac)⟩
   ·exact .inr ⟨bW j d,q A e _ j (bW j d)⟩
theorem Xb:aw ["word"] ["word"] (am wN):=L2.Eu
theorem zI(F:En K "is_word" "is_word" wN f fd)(T:eD mg)(a:mg "is_whole"=Α (.ref fh))(c:Ϯ K (.ref fh)=Δ)(d:Binds K dh ["value"] [])(G:DQ P w K mg μ aF 1 fh dh ["value"] iN):
  DQ P w K mg μ aF 2 f fd ["word"] rl:=by
 refine F.ok Xb λ_ _ _ s H _ Q E e h=>?_
 obtain⟨v,rfl,g,q⟩:=h
 refine⟨_,aj (ay (e7 (au G e Λ a c d .nil ar (aa (pv 0) ad)) (dZ (cP mB (aG yE Λ T.abs PyProof.Rows.boot_abs (aa (pv 0) ad)) (aI rV ao ao) (aC _))))),?_⟩
 cases g with
 |int i=>exact⟨_,Λ,.int i,_,Λ,aL ⟨i,Λ,_,_,Λ,Λ,⟨by decide,by decide,by decide⟩,_,_,Λ,Λ,q⟩⟩
 |bl b=>exact⟨_,Λ,.bl b,_,Λ,aJ q⟩
 |Eh=>exact⟨_,Λ,.Eh,_,Λ,aJ q⟩
abbrev Wf:=Nat->Nat->Option Nat->List Nat
abbrev TJ:=Hp->Ν->Nat->Wf->Prop
def NL:HO->Prop
 |.π _=>False
 |.ρ _ _ []=>False
 |.Fj _=>False
 |_=>True
def E7(H H':Hp):Prop:=∀b o,H b=Α o->NL o->H' b=Α o
theorem DP.Er(s:DP H H'):E7 H H':=λb o e _=>s b o e
theorem E7.trans(a:E7 H H1)(b:E7 H1 H2):E7 H H2:=λx o e n=>b x o (a x o e n) n
theorem E7.Jo(k:E7 H H')(h:Ei H vs ps):Ei H' vs ps:=Ei.imp (λ_ _ ⟨t,e,q⟩=>⟨t,e,k _ _ q Ê⟩) h
structure F5(c:Cs)(C:Ν)(J:TJ)(H:Hp)(x lx Ef lt:Ν)(n:Nat)(DX:List V)(ps:List (Int×Int))(wy:Wf):Prop where
 j:J H x n wy
 i:∃dx fs,H x=Α (.ρ C dx fs)/\fs.lookup ("land":Str)=Α (.ref lx)/\fs.lookup ("ways":Str)=Β
 l:cT H c lx Ef lt (n:Int) DX ps
 IF:n<=12
 EH:ps.length<=40
 ok:∀p g k,p<n->g<n->∀z∈wy p g k,z<ps.length
structure Wy(K:ϧ)(C fw:Ν)(dw:Ý)(J:TJ):Prop where
 cl:GK K C
 nl:Eb K C "land"
 m:cb K C "ways" fw
 b:Binds K dw ["self","place","goal","came"] []
 EM:∀H H' x n wy,J H x n wy->E7 H H'->J H' x n wy
theorem F5.keep(W:Wy K C fw dw J)(h:F5 c C J H x lx Ef lt n DX ps wy)(k:E7 H H'):F5 c C J H' x lx Ef lt n DX ps wy:=
 ⟨W.EM _ _ _ _ _ h.j k,let ⟨dx,fs,h1,h2⟩:=h.i;⟨dx,fs,k _ _ h1 (by cases fs with|nil=>cases h2.1|cons _ _=>exact Ê),h2⟩,⟨k _ _ h.l.1 Ê,k _ _ h.l.2.1 Ê,k.Jo h.l.2.2⟩,h.IF,h.EH,h.ok⟩
inductive eZ(J:TJ)(vs:List V)(H:Hp)(Q:VK)(E:XK):Prop
 |mk (x:Ν) (n:Nat) (wy:Wf) (p g:Nat) (k:Option Nat) (_:vs=[.ref x,.int p,.int g,cV k]) (_:J H x n wy) (_:p<n) (_:g<n) (_:∀(D:Ν)(H':Hp),DP H H'->H D=Β->H' D=Α (.π (nV (wy p g k)))->Q (.ref D) H')
structure bV where
 r:Int
 b:Int
 h:Option Int
 qs:List (Int×Int)
structure bD where
 start:Int
 ι:Int
 len:Int
 word:Int
 δ:Int
 ω:List Nat
structure YS where
 rooms:List V
 γ:List bV
 DO:List bD
 ε:List (List (Int×Int))
 done:List (List V)
structure Ys where
 DU:Ν
 Ep:Ν
 DR:Ν
 ex:List Ν
def GH(H:Hp)(C:Ν)(ex:List Ν)(v:V)(s:bV):Prop:=∃x dx pa Es,v=.ref x/\Em H C x dx pa s.r s.b s.h Es s.qs/\pa∉ex
noncomputable def su(s:bD)(wa:Ν):Fs:=[("start",.int s.start),("goal",.int s.ι),("length",.int s.len),("word",.int s.word),("gone",.int s.δ),("way",.ref wa)]
def HN(H:Hp)(C:Ν)(ex:List Ν)(v:V)(s:bD):Prop:=∃x dx wa,v=.ref x/\H x=Α (.ρ C dx (su s wa))/\H wa=Α (.π (nV s.ω))/\wa∉ex
def F6(H:Hp)(v:V)(qs:List (Int×Int)):Prop:=∃t vs,v=.ref t/\H t=Α (.tup vs)/\Ei H vs qs
def FJ(H:Hp)(v:V)(m:List V):Prop:=∃t,v=.ref t/\H t=Α (.tup m)
theorem Paired.mono{R c:α->β->Prop}(h:∀a b,R a b->c a b):∀{as:List α}{bs:List β},Paired R as bs->Paired c as bs:=λd=>by
 induction d with
 |nil=>exact .nil
 |cons x r e=>exact .cons (h _ _ x) e
theorem Paired.snoc{a:α}{b:β}(h:R a b):∀{as:List α}{bs:List β},Paired R as bs->Paired R (as++[a]) (bs++[b]):=λc=>by
 induction c with
 |nil=>exact .cons h .nil
 |cons x r d=>exact .cons x d
theorem Paired.at:∀{as:List α}{bs:List β}{i:Nat}{a:α},Paired R as bs->as[i]?=Α a->∃b,bs[i]?=Α b/\R a b:=by
 intro _ _ i _ c
 induction c generalizing i with
 |nil=>intro h;cases h
 | cons x r d =>
  intro h
  cases i with
  |zero=>cases h;exact⟨_,Λ,x⟩
  |succ i=>exact d (i:=i) h
theorem Paired.at2:∀{as:List α}{bs:List β}{i:Nat}{b:β},Paired R as bs->bs[i]?=Α b->∃a,as[i]?=Α a/\R a b:=by
 intro _ _ i _ c
 induction c generalizing i with
 |nil=>intro h;cases h
 | cons x r d =>
  intro h
  cases i with
  |zero=>cases h;exact⟨_,Λ,x⟩
  |succ i=>exact d (i:=i) h
def Ee(ex:List Ν)(H H':Hp):Prop:=∀b o,b∉ex->H b=Α o->H' b=Α o
theorem DP.E8(s:DP H H'):Ee ex H H':=λb o _ e=>s b o e
theorem Ee.trans(a:Ee ex H H1)(b:Ee ex H1 H2):Ee ex H H2:=λx o n e=>b x o n (a x o n e)
theorem Ei.E8(c:∀b∈ex,∃xs,H b=Α (.π xs))(o:Ee ex H H')(h:Ei H vs ps):Ei H' vs ps:=
 Ei.imp (λ_ _ d=>by obtain⟨t,e,q⟩:=d;exact⟨t,e,o _ _ (λz=>by obtain⟨xs,a⟩:=c _ z;rw[q]at a;cases a) q⟩) h
theorem Ee.Mu(c:∀b∈ex,∃o,H b=Α o/\¬NL o)(o:Ee ex H H'):E7 H H':=λb u e n=>o b u (λz=>by obtain⟨f,a,d⟩:=c _ z;rw[e]at a;cases a;exact d n) e
theorem Ee.Er(a:∀b∈ex,∃xs,H b=Α (.π xs))(o:Ee ex H H'):E7 H H':=o.Mu λb c=>let ⟨xs,hz⟩:=a b c;⟨_,hz,id⟩
theorem GH.E8(a:∀b∈ex,∃xs,H b=Α (.π xs))(o:Ee ex H H')(h:GH H C ex v s):GH H' C ex v s:=by
 obtain⟨x,c,d,f,e,L,n⟩:=h
 have k:=o.Er a
 exact⟨x,c,d,f,e,⟨k _ _ L.ρ Ê,o _ _ n L.π,Ei.E8 a o L.Fv⟩,n⟩
theorem HN.E8(a:∀b∈ex,∃xs,H b=Α (.π xs))(o:Ee ex H H')(h:HN H C ex v s):HN H' C ex v s:=by
 obtain⟨x,c,d,e,f,g,n⟩:=h
 exact⟨x,c,d,e,o.Er a _ _ f Ê,o _ _ n g,n⟩
theorem F6.keep(k:E7 H H')(h:F6 H v qs):F6 H' v qs:=by
 obtain⟨t,a,e,b,c⟩:=h
 exact⟨t,a,e,k _ _ b Ê,k.Jo c⟩
theorem FJ.keep(k:E7 H H')(h:FJ H v m):FJ H' v m:=by
 obtain⟨t,e,a⟩:=h
 exact⟨t,e,k _ _ a Ê⟩
noncomputable def Um(tb ro la le li dn:Ν):Fs:=[("table",.ref tb),("rooms",.ref ro),("lanes",.ref la),("letters",.ref le),("lies",.ref li),("done",.ref dn)]
structure Eg(K:ϧ)(ys:Ys)(H:Hp)(y dy tb ro la le li dn:Ν)(s:YS):Prop where
 ρ:H y=Α (.ρ ys.DU dy (Um tb ro la le li dn))
 OJ:Ec K H ro s.rooms
 υ:∃vs,H la=Α (.π vs)/\Paired (GH H ys.Ep (la:: le:: li:: dn:: ys.ex)) vs s.γ
 χ:∃vs,H le=Α (.π vs)/\Paired (HN H ys.DR (la:: le:: li:: dn:: ys.ex)) vs s.DO
 GO:∃vs,H li=Α (.π vs)/\Paired (F6 H) vs s.ε
 HP:∃vs,H dn=Α (.π vs)/\Paired (FJ H) vs s.done
 ne:[la,le,li,dn].Nodup
 hex:∀b∈ys.ex,∃xs,H b=Α (.π xs)
theorem Eg.Ja(h:Eg K ys H y dy tb ro la le li dn s):∀b∈[la,le,li,dn],∃xs,H b=Α (.π xs):=by
 intro b a
 obtain⟨g,c,_⟩:=h.υ
 obtain⟨i,d,_⟩:=h.χ
 obtain⟨j,e,_⟩:=h.GO
 obtain⟨l,f,_⟩:=h.HP
 simp only[ϥ,Õ,or_false]at a
 rcases a with rfl|rfl|rfl|rfl
 ·exact⟨_,c⟩
 ·exact⟨_,d⟩
 ·exact⟨_,e⟩
 ·exact⟨_,f⟩
theorem Eg.Jr(h:Eg K ys H y dy tb ro la le li dn s):∀b∈la:: le:: li:: dn:: ys.ex,∃xs,H b=Α (.π xs):=by
 intro b a
 have e:la:: le:: li:: dn:: ys.ex=[la,le,li,dn]++ys.ex:=rfl
 rw[e]at a
 rcases ϯ.mp a with a|a
 ·exact h.Ja b a
 ·exact h.hex b a
theorem Eg.same(h:Eg K ys H y dy tb ro a le li dn s)(e:DP H H'):Eg K ys H' y dy tb ro a le li dn s:=by
 have c:=h.Jr
 obtain⟨d,f,g⟩:=h.υ
 obtain⟨i,j,l⟩:=h.χ
 obtain⟨m,n,p⟩:=h.GO
 obtain⟨q,r,t⟩:=h.HP
 have o:Ee (a:: le:: li:: dn:: ys.ex) H H':=DP.E8 e
 exact⟨e _ _ h.ρ,bW e h.OJ,⟨d,e _ _ f,Paired.mono (λ_ _ z=>z.E8 c o) g⟩,⟨i,e _ _ j,Paired.mono (λ_ _ z=>z.E8 c o) l⟩,⟨m,e _ _ n,Paired.mono (λ_ _ z=>z.keep (DP.Er e)) p⟩,⟨q,e _ _ r,Paired.mono (λ_ _ z=>z.keep (DP.Er e)) t⟩,h.ne,λb u=>let ⟨xs,hz⟩:=h.hex b u;⟨xs,e _ _ hz⟩⟩
structure jA(K:ϧ)(ys:Ys):Prop where
 cl:GK K ys.DU
 n1:Eb K ys.DU "table"
 n2:Eb K ys.DU "rooms"
 n3:Eb K ys.DU "lanes"
 n4:Eb K ys.DU "letters"
 n5:Eb K ys.DU "lies"
 n6:Eb K ys.DU "done"
 ct:GK K ys.DR
 t1:Eb K ys.DR "start"
 t2:Eb K ys.DR "goal"
 t3:Eb K ys.DR "length"
 t4:Eb K ys.DR "word"
 t5:Eb K ys.DR "gone"
 t6:Eb K ys.DR "way"
 L:Bx K ys.Ep
inductive w6(C:Ν)(vs:List V)(H:Hp)(Q:VK)(E:XK):Prop
 |mk (x dx:Ν) (a b l u:Int) (_:vs=[.ref x,.int a,.int b,.int l,.int u]) (_:H x=Α (.ρ C dx [])) (_:∀(wa:Ν)(H':Hp),H wa=Β->(∀z o,z≠x->H z=Α o->H' z=Α o)->H' x=Α (.ρ C dx (su ⟨a,b,l,u,0,[]⟩ wa))->H' wa=Α (.π (nV []))->Q .Eh H')
theorem QO:aw ["self","start","goal","length","word"] ["self","start","goal","length","word"] (am xh):=L2.Eu
theorem CG(F:En K "__init__" "Letter.__init__" xh f fd)(Y:jA K ys):DQ P w K mg μ aF 1 f fd ["self","start","goal","length","word"] (w6 ys.DR):=by
 refine F.ok QO λ_ _ _ s H _ Q E r h=>?_
 obtain⟨x,d,a,b,l,u,rfl,p,q⟩:=h
 refine⟨_,ae (bF (pv 0) (pv 1) Λ) (ae (bF (pv 0) (pv 2) Λ) (ae (bF (pv 0) (pv 3) Λ) (ae (bF (pv 0) (pv 4) Λ) (ae (bF (pv 0) ao Λ) (aj (bF (pv 0) (aU ad) Λ)))))),x,_,d,_,Λ,p,Y.ct,Y.t1,by show 0<1000;decide,x,_,d,_,Λ,ac,Y.ct,Y.t2,by show 1<1000;decide,x,_,d,_,Λ,ac,Y.ct,Y.t3,by show 2<1000;decide,x,_,d,_,Λ,ac,Y.ct,Y.t4,by show 3<1000;decide,x,_,d,_,Λ,ac,Y.ct,Y.t5,by show 4<1000;decide,Ϧ _,λi j=>?_⟩
 have c:=ah ac j
 refine⟨x,_,d,_,Λ,by rw[ag c];exact ac,Y.ct,Y.t6,by show 5<1000;decide,?_⟩
 have n:H i=Β:=by
  rw[ag (Ϟ c),ag (Ϟ c),ag (Ϟ c),ag (Ϟ c),ag (Ϟ c)]at j
  exact j
 refine q i _ n (λz o g e=>?_) ac (by rw[ag (Ϟ c)];exact ac)
 have m:=ah e n
 rw[ag g,ag m,ag g,ag g,ag g,ag g,ag g]
 exact e
noncomputable def vI:V->Int
 |.int i=>i
 |_=>0
noncomputable def qV(v:V):bV:=⟨vI v,0,Β,[]⟩
noncomputable def Y0(rooms:List V)(n:Nat):YS:=⟨rooms,rooms.map qV,[],Ϛ n [],[]⟩
def FY(H0 H:Hp)(C:Ν)(v:V)(s:bV):Prop:=∃x dx pa,v=.ref x/\Em H C x dx pa s.r s.b s.h [] []/\s.qs=[]/\H0 x=Β/\H0 pa=Β
theorem FY.same(h:FY H0 H C v s)(e:DP H H'):FY H0 H' C v s:=by
 obtain⟨x,a,b,c,d,f⟩:=h
 exact⟨x,a,b,c,d.same e,f⟩
def EA(y:Ν)(ex:List Ν)(H:Hp)(C:Ν)(v:V)(s:bV):Prop:=∃x dx pa,v=.ref x/\Em H C x dx pa s.r s.b s.h [] []/\s.qs=[]/\x≠y/\pa≠y/\pa∉ex
theorem FY.QQ(h:FY H0 H C v s)(c:H0 y=Α u)(f:∀b∈ex,∃o,H0 b=Α o):EA y ex H C v s:=by
 obtain⟨x,g,i,j,l,m,d,a⟩:=h
 exact⟨x,g,i,j,l,m,(λz=>by rw[z,c]at d;cases d),(λz=>by rw[z,c]at a;cases a),λz=>by obtain⟨o,e⟩:=f _ z;rw[a]at e;cases e⟩
theorem EA.same(h:EA y ex H C v s)(e:DP H H'):EA y ex H' C v s:=by
 obtain⟨x,a,b,c,d,f⟩:=h
 exact⟨x,a,b,c,d.same e,f⟩
theorem EA.ο(h:EA y ex H C v s):EA y ex (ο H y o) C v s:=by
 obtain⟨x,d,e,f,a,g,b,c,i⟩:=h
 exact⟨x,d,e,f,⟨by rw[ag b];exact a.ρ,by rw[ag c];exact a.π,.nil⟩,g,b,c,i⟩
theorem EA.new(h:EA y ex H C v s)(b:H a=Β):EA y (a:: ex) (L2.ο H a o) C v s:=by
 obtain⟨x,d,e,f,c,g,i,j,l⟩:=h
 exact⟨x,d,e,f,c.same ((DP.refl H).new b),g,i,j,λz=>(ϥ.mp z).elim (λz=>by rw[z]at c;rw[c.π]at b;cases b) l⟩
theorem EA.QR(h:EA y ex H C v s)(b:∀a∈O2,a∈ex):GH H C O2 v s:=by
 obtain⟨x,c,d,e,f,g,j,l,i⟩:=h
 exact⟨x,c,d,_,e,by rw[g];exact f,λz=>i (b _ z)⟩
theorem sM(A:Ej.length<ό)(m:Ec K H ro Ej)(f:∀v∈Ej,∃r,v=.int r)
  (B:∀(r:Int)(a:Hp)(N:V->Hp->Prop),DP H a->(∀x n j c,a x=Β->a j=Β->DP a c->Em c C x n j r 0 Β [] []->N (.ref x) c)->g (.int r) σ0 a λo c=>te o c N)
  (E:∀D p a,DP H a->a D=Β->Paired (FY H a C) p (Ej.map qV)->Q (.ref D) (ο a D (.π p))):dM (T7 K ro) g rf te σ0 Q H:=by
 refine bQ Ej.length A (λi acc d=>DP H d/\Paired (FY H d C) acc ((Ej.take i).map qV)) ⟨DP.refl _,.nil⟩ (λi acc d h=>by have:=Paired.length h.2;rw[this,ϊ];exact ć _ _) (λi acc d F h=>?_) (λacc d h=>?_)
 ·obtain⟨s,l⟩:=h
  refine⟨⟨Ej,Ej[i],bW s m,by simp[F]⟩,λv c y=>?_⟩
  obtain⟨e,y⟩:=y
  subst e
  have q:=y _ (bW s m)
  obtain⟨r,rfl⟩:=f v (Ϙ q)
  refine B r c (λy t=>DP H t/\Paired (FY H t C) (acc++[y]) ((Ej.take (i+1)).map qV)) s λx n j M G I u J=>⟨s.trans u,?_⟩
  rw[ä,q,î,Ì]
  exact Paired.snoc (b:=qV (.int r)) ⟨x,n,j,Λ,J,Λ,s.free G,s.free I⟩ (Paired.mono (λ_ _ z=>z.same u) l)
 ·obtain⟨s,l⟩:=h
  rw[â]at l
  exact⟨⟨Ej,bW s m,Ρ _⟩,λD L=>E D acc d s L l⟩
theorem vB(x:n<=1000)
  (m:∀(i:Nat)(a:Hp)(N:V->Hp->Prop),DP H a->(∀t,a t=Β->N (.ref t) (ο a t (.tup [])))->g (.int (0+i)) σ0 a λd c=>te d c N)
  (o:∀D f a,DP H a->a D=Β->Paired (F6 a) f (Ϛ n [])->Q (.ref D) (ο a D (.π f))):dM (AT 0 n) g rf te σ0 Q H:=by
 refine bQ n (by rw[Ω];omega) (λi acc b=>DP H b/\Paired (F6 b) acc (Ϛ i [])) ⟨DP.refl _,.nil⟩ (λi acc b h=>by have:=Paired.length h.2;rw[this,õ];exact Ρ _) (λi acc b p h=>?_) (λacc b h=>?_)
 ·obtain⟨s,e⟩:=h
  refine⟨p,λv c y=>?_⟩
  obtain⟨q,r⟩:=y
  subst q r
  refine m i c (λy j=>DP H j/\Paired (F6 j) (acc++[y]) (Ϛ (i+1) [])) s λt l=>⟨s.new l,?_⟩
  rw[ph]
  exact Paired.snoc ⟨t,[],Λ,ac,.nil⟩ (Paired.mono (λ_ _ z=>z.keep (DP.Er ((DP.refl c).new l))) e)
 ·obtain⟨s,e⟩:=h
  exact⟨Ρ n,λD u=>o D acc b s u e⟩
theorem gN{fs:Fs}(b:H y=Α (.ρ C d fs))(h:Ec K H a xs):Ec K (ο H y o) a xs:=by
 rcases h with h|h
 ·refine .inl ?_
  rcases h with h|⟨u,h⟩
  ·exact .inl (by rw[ag (aQ h b (by intro z;cases z))];exact h)
  ·exact .inr ⟨u,by rw[ag (aQ h b (by intro z;cases z))];exact h⟩
 ·exact .inr h
theorem zb{fs:Fs}(b:H y=Α (.ρ C d fs))(h:DT K H a xs):DT K (ο H y o) a xs:=by
 rcases h with h|h
 ·refine .inl ?_
  rcases h with h|⟨u,h⟩
  ·exact .inl (by rw[ag (aQ h b (by intro z;cases z))];exact h)
  ·exact .inr ⟨u,by rw[ag (aQ h b (by intro z;cases z))];exact h⟩
 ·exact .inr h
inductive pw(K:ϧ)(c:Cs)(TC:Ν)(J:TJ)(ys:Ys)(vs:List V)(H:Hp)(Q:VK)(E:XK):Prop
 |mk (y dy tb lx Ef lt:Ν) (n:Nat) (DX:List V) (ps:List (Int×Int)) (wy:Wf) (rv:V) (Ej:List V) (_:vs=[.ref y,.ref tb,rv]) (_:H y=Α (.ρ ys.DU dy [])) (_:F5 c TC J H tb lx Ef lt n DX ps wy) (_:(∀b∈ys.ex,∃xs,H b=Α (.π xs))) (_:((rv=.Eh/\Ej=Ϛ ps.length (.int 1))∨(∃ra,rv=.ref ra/\Sq K H ra Ej/\Ej.length<=1000/\(∀v∈Ej,vE v)/\(ud ps.length Ej=Ε->False)))) (_:(ud ps.length Ej=Δ->∀(ro la le li dn:Ν)(H':Hp),Ee [y] H H'->H la=Β->H le=Β->H li=Β->H dn=Β->Eg K ys H' y dy tb ro la le li dn (Y0 Ej n)->Q .Eh H'))
noncomputable def QS(s:Ç):Scope:=match s with
 |.Assign _ (.ListComp _ _ sc _) _=>sc
 |_=>zQ0
theorem jU(h:lN v a b=Δ):∃r,v=.int r:=by
 cases v<;>first|exact⟨_,Λ⟩|cases h
theorem Xc:aw ["self","table","rooms"] ["self","table","rooms"] (am jo):=L2.Eu
theorem QT:ES ["self","table","rooms"] (am jo) (QS ((aK jo).getD 2 (.Pass ⟨0,0,0,0⟩))) [] []:=L2.FC
theorem QU:ES ["self","table","rooms"] (am jo) (QS ((aK jo).getD 4 (.Pass ⟨0,0,0,0⟩))) [] []:=L2.FC
theorem QV:(["place"]:List Str).Nodup:=by decide +kernel
theorem C2(F:HI K "__init__" "Yard.__init__" jo f fd)(T:eD mg)(L:kC K c)(Y:jA K ys)(W:Wy K TC N2 N3 J)
  (mr:mg "rooms_of"=Α (.ref fr)) (kr:Ϯ K (.ref fr)=Δ) (br:Binds K dr ["land","rooms"] []) (Gr:DQ P w K mg μ aF 3 fr dr ["land","rooms"] (sY K c))
  (ml:mg "Lane"=Α (.ref ys.Ep)) (Ml:Mk K ys.Ep fl) (bl:Binds K dl ["self","room"] []) (Gl:DQ P w K mg μ aF 1 fl dl ["self","room"] (w8 ys.Ep)):
  DQ P w K mg μ aF 4 f fd ["self","table","rooms"] (pw K c TC J ys):=by
 refine F.ok Xc λ_ _ _ s H _ Q E hr h=>?_
 obtain⟨y,j,m,lx,Ef,lt,n,DX,ps,wy,rv,G,rfl,hy,hT,hex,hrv,q⟩:=h
 have KJ:∀b∈ys.ex,b∉[y]:=λb R z=>by obtain⟨xs,hz⟩:=hex b R;rw[ϙ.mp z,hy]at hz;cases hz
 have Fn:Ea 2 _:=hr.mono (by decide)
 refine⟨_,ae (bF (pv 0) (pv 1) Λ)
  (ae (bF (pv 0) (tV (au Gr hr Λ mr kr br .nil ar (aa (ap (pv 1) Λ) (aa (pv 2) ad)))) Λ)
  (ae (bF (pv 0) (bv (own:=["room"]) (capN:=[]) (cap:=[]) QT Λ (js (ap (pv 0) Λ)) (λC s' H' fp=>⟨ax (i:=0) QM Λ (ύ Λ),c4,dQ Ml Gl Fn Λ ml bl .nil ar (aa (pv 0) ad)⟩)) Λ)
  (ae (bF (pv 0) (aU ad) Λ)
  (ae (bF (pv 0) (bv (own:=["place"]) (capN:=[]) (cap:=[]) QU Λ (aO Λ T.range (aa (ap (ap (pv 1) Λ) Λ) ad)) (λC s' H' fp=>⟨ax (i:=0) QV Λ (ύ Λ),c4,bM ad⟩)) Λ)
  (aj (bF (pv 0) (aU ad) Λ)))))),?_⟩
 have hm40:=hT.EH
 have Iu:=hT.IF
 obtain⟨IG,fst,HJ,EK,_⟩:=hT.i
 have kp:∀{H':Hp},Ee [y] H H'->E7 H H':=λo=>o.Mu λb R=>by rw[ϙ.mp R];exact⟨_,hy,id⟩
 have ntb:=aQ HJ hy (λz=>by injection z with _ _ z3;rw[z3]at EK;cases EK)
 refine⟨y,_,j,_,Λ,hy,Y.cl,Y.n1,by show 0<1000;decide,?_⟩
 have o1:Ee [y] H (ο H y (.ρ ys.DU j (aS "table" (.ref m) []))):=λb o nb e=>by rw[ag (λz=>nb (by rw[z];exact ϙ.mpr Λ))];exact e
 have g1:(ο H y (.ρ ys.DU j (aS "table" (.ref m) []))) y=Α (.ρ ys.DU j [("table",.ref m)]):=ac
 have sq1:∀ra,Sq K H ra G->Sq K (ο H y (.ρ ys.DU j (aS "table" (.ref m) []))) ra G:=λra h=>h.elim (λh =>.inl (zb hy h)) λh =>.inr (gN hy h)
 generalize ο H y (.ρ ys.DU j (aS "table" (.ref m) []))=A1 at o1 g1 sq1⊢
 have QW:=hT.keep W (kp o1)
 have OK:∀{Ha Hb:Hp}{o:HO},Ee [y] Ha Hb->Ee [y] Ha (ο Hb y o):=λ{Ha Hb o} h b u nb e=>by rw[ag (λz=>nb (by rw[z];exact ϙ.mpr Λ))];exact h b u nb e
 refine⟨λv S=>∃p,v=.ref p/\DP A1 S/\Ec K S p G/\ud ps.length G=Δ,?_,?_⟩
 ·refine⟨m,_,_,_,_,Λ,o1 _ _ (λz=>ntb (ϙ.mp z)) HJ,W.cl,W.nl,EK,_,_,_,_,_,_,_,Λ,QW.l,by omega,?_⟩
  rcases hrv with ⟨rfl,rfl⟩|⟨ra,rfl,hR,Kl,QN,qE⟩
  ·refine .inl ⟨Λ,λt S s2 ht=>⟨t,Λ,s2,Ec.of ht,?_⟩⟩
   unfold ud
   rw[õ,Ζ Λ,ñ,Ŏ]
   intro v hv
   rw[Ū hv];rfl
  ·have hR1:=sq1 ra hR
   exact .inr ⟨ra,G,Λ,hR1,Kl,QN,qE,λDY t S s2 ht=>⟨t,Λ,s2,ht,DY⟩⟩
 rintro v S ⟨p,rfl,s2,OJ,DY⟩
 have G5:G.length=ps.length/\∀v∈G,∃r,v=.int r:=by
  unfold ud at DY
  rw[É,decide_eq_true_eq,Ŏ]at DY
  exact⟨DY.1,λv hv=>jU (DY.2 v hv)⟩
 have o2:=o1.trans (DP.E8 s2)
 have g2:=s2 _ _ g1
 refine⟨y,_,j,_,Λ,g2,Y.cl,Y.n2,by show 1<1000;decide,?_⟩
 have o3:=OK (o:=.ρ ys.DU j (aS "rooms" (.ref p) [("table",.ref m)])) o2
 have g3:(ο S y (.ρ ys.DU j (aS "rooms" (.ref p) [("table",.ref m)]))) y=Α (.ρ ys.DU j [("table",.ref m),("rooms",.ref p)]):=ac
 have Lv:Ec K (ο S y (.ρ ys.DU j (aS "rooms" (.ref p) [("table",.ref m)]))) p G:=gN g2 OJ
 generalize ο S y (.ρ ys.DU j (aS "rooms" (.ref p) [("table",.ref m)]))=A3 at o3 g3 Lv⊢
 have Xd:∀b∈ys.ex,∃o,A3 b=Α o:=λb R=>let ⟨xs,hz⟩:=hex b R;⟨_,o3 b _ (KJ b R) hz⟩
 refine⟨y,_,j,_,_,Λ,g3,Y.cl,Y.n2,Λ,p,Λ,⟨_,Lv⟩,?_⟩
 refine sM (C:=ys.Ep) (by rw[Ω];omega) Lv G5.2 (λr B N sB hN=>?_) (λg D U s4 M Mw=>?_)
 ·refine(λx dx nx N4 KJ=>⟨x,dx,r,Λ,ac,λpa B2 HY off hL=>⟨Λ,?_⟩⟩)
  have Ir:B pa=Β:=by
   by_cases e1:pa=x
   ·rw[e1,ac]at HY;cases HY
   ·by_cases e2:pa=dx
    ·rw[e2,ag KJ,ac]at HY;cases HY
    ·rw[ag e1,ag e2]at HY;exact HY
  refine hN x dx pa B2 nx Ir (λb o e=>off b o (ah e nx) ?_) hL
  rw[ag (ah e nx),ag (ah e N4)]
  exact e
 have o4:=o3.trans (DP.E8 s4)
 have g4:=s4 _ _ g3
 have Lw:=Ϟ (ah g4 M)
 have la0:H g=Β:=by
  cases e:H g with
  |none=>rfl
  |some u=>rw[o4 _ _ (λz=>Lw (ϙ.mp z)) e]at M;cases M
 have hX5:Paired (EA y (g:: ys.ex) (ο U g (.π D)) ys.Ep) D (G.map qV):=Paired.mono (λ_ _ z=>(z.QQ g3 Xd).new M) Mw
 have o5:Ee [y] H (ο U g (.π D)):=o4.trans (DP.E8 ((DP.refl U).new M))
 have g5:(ο U g (.π D)) y=Α (.ρ ys.DU j [("table",.ref m),("rooms",.ref p)]):=by rw[ag (Ϟ Lw)];exact g4
 have QX:(ο U g (.π D)) g=Α (.π D):=ac
 have QY:Ec K (ο U g (.π D)) p G:=bW ((DP.refl U).new M) (bW s4 Lv)
 refine⟨y,_,j,_,Λ,g5,Y.cl,Y.n3,by show 2<1000;decide,?_⟩
 generalize ο U g (.π D)=A5 at hX5 o5 g5 QX QY⊢
 have hX6:Paired (EA y (g:: ys.ex) (ο A5 y (.ρ ys.DU j (aS "lanes" (.ref g) [("table",.ref m),("rooms",.ref p)]))) ys.Ep) D (G.map qV):=Paired.mono (λ_ _ z=>z.ο) hX5
 have o6:=OK (o:=.ρ ys.DU j (aS "lanes" (.ref g) [("table",.ref m),("rooms",.ref p)])) o5
 have g6:(ο A5 y (.ρ ys.DU j (aS "lanes" (.ref g) [("table",.ref m),("rooms",.ref p)]))) y=Α (.ρ ys.DU j [("table",.ref m),("rooms",.ref p),("lanes",.ref g)]):=ac
 have N5:(ο A5 y (.ρ ys.DU j (aS "lanes" (.ref g) [("table",.ref m),("rooms",.ref p)]))) g=Α (.π D):=by rw[ag Lw];exact QX
 have QZ:=gN (o:=.ρ ys.DU j (aS "lanes" (.ref g) [("table",.ref m),("rooms",.ref p)])) g5 QY
 generalize ο A5 y (.ρ ys.DU j (aS "lanes" (.ref g) [("table",.ref m),("rooms",.ref p)]))=X at hX6 o6 g6 N5 QZ⊢
 refine⟨Ϧ _,λle I=>?_⟩
 have N6:=Ϟ (ah g6 I)
 have Mx:=ah N5 I
 have le0:H le=Β:=by
  cases e:H le with
  |none=>rfl
  |some u=>rw[o6 _ _ (λz=>N6 (ϙ.mp z)) e]at I;cases I
 have hX7:Paired (EA y (le:: g:: ys.ex) (ο X le (.π [])) ys.Ep) D (G.map qV):=Paired.mono (λ_ _ z=>z.new I) hX6
 have o7:Ee [y] H (ο X le (.π [])):=o6.trans (DP.E8 ((DP.refl X).new I))
 have g7:(ο X le (.π [])) y=Α (.ρ ys.DU j [("table",.ref m),("rooms",.ref p),("lanes",.ref g)]):=by rw[ag (Ϟ N6)];exact g6
 have Ra:(ο X le (.π [])) g=Α (.π D):=by rw[ag Mx];exact N5
 have Rb:(ο X le (.π [])) le=Α (.π []):=ac
 have Rc:Ec K (ο X le (.π [])) p G:=bW ((DP.refl X).new I) QZ
 refine⟨y,_,j,_,Λ,g7,Y.cl,Y.n4,by show 3<1000;decide,?_⟩
 generalize ο X le (.π [])=A7 at hX7 o7 g7 Ra Rb Rc⊢
 have hX8:Paired (EA y (le:: g:: ys.ex) (ο A7 y (.ρ ys.DU j (aS "letters" (.ref le) [("table",.ref m),("rooms",.ref p),("lanes",.ref g)]))) ys.Ep) D (G.map qV):=Paired.mono (λ_ _ z=>z.ο) hX7
 have o8:=OK (o:=.ρ ys.DU j (aS "letters" (.ref le) [("table",.ref m),("rooms",.ref p),("lanes",.ref g)])) o7
 have g8:(ο A7 y (.ρ ys.DU j (aS "letters" (.ref le) [("table",.ref m),("rooms",.ref p),("lanes",.ref g)]))) y=Α (.ρ ys.DU j [("table",.ref m),("rooms",.ref p),("lanes",.ref g),("letters",.ref le)]):=ac
 have N7:(ο A7 y (.ρ ys.DU j (aS "letters" (.ref le) [("table",.ref m),("rooms",.ref p),("lanes",.ref g)]))) g=Α (.π D):=by rw[ag Lw];exact Ra
 have N8:(ο A7 y (.ρ ys.DU j (aS "letters" (.ref le) [("table",.ref m),("rooms",.ref p),("lanes",.ref g)]))) le=Α (.π []):=by rw[ag N6];exact Rb
 have Rf:=gN (o:=.ρ ys.DU j (aS "letters" (.ref le) [("table",.ref m),("rooms",.ref p),("lanes",.ref g)])) g7 Rc
 generalize ο A7 y (.ρ ys.DU j (aS "letters" (.ref le) [("table",.ref m),("rooms",.ref p),("lanes",.ref g)]))=A8 at hX8 o8 g8 N7 N8 Rf⊢
 have hT8:=hT.keep W (kp o8)
 refine⟨m,_,_,_,_,Λ,o8 _ _ (λz=>ntb (ϙ.mp z)) HJ,W.cl,W.nl,EK,_,_,_,_,_,Λ,hT8.l.1,L.cl,L.np,Λ,_,Λ,Φ _,by omega,?_⟩
 rw[Υ]
 refine vB (by omega) (λi B N sB hN=>⟨Ϧ _,λt ht=>hN t ht⟩) (λA O A9 Z GO hLi=>?_)
 have g9:=Z _ _ g8
 have o9:=o8.trans (DP.E8 Z)
 have Rg:=Ϟ (ah g9 GO)
 have Rh:=ah (Z _ _ N7) GO
 have Ri:=ah (Z _ _ N8) GO
 have li0:H A=Β:=by
  cases e:H A with
  |none=>rfl
  |some u=>rw[o9 _ _ (λz=>Rg (ϙ.mp z)) e]at GO;cases GO
 have OL:=(DP.refl A9).new (o:=.π O) GO
 have Rj:Paired (EA y (A:: le:: g:: ys.ex) (ο A9 A (.π O)) ys.Ep) D (G.map qV):=Paired.mono (λ_ _ z=>(z.same Z).new GO) hX8
 have M0:Paired (F6 (ο A9 A (.π O))) O (Ϛ n []):=Paired.mono (λ_ _ z=>z.keep (DP.Er OL)) hLi
 have M1:(ο A9 A (.π O)) A=Α (.π O):=ac
 have o10:Ee [y] H (ο A9 A (.π O)):=o9.trans (DP.E8 OL)
 have Uo:=OL _ _ g9
 have M3:=OL _ _ (Z _ _ N7)
 have M4:=OL _ _ (Z _ _ N8)
 have M5:=bW OL (bW Z Rf)
 refine⟨y,_,j,_,Λ,Uo,Y.cl,Y.n5,by show 4<1000;decide,?_⟩
 generalize ο A9 A (.π O)=N9 at Rj M0 M1 o10 Uo M3 M4 M5⊢
 have Rk:∀{B:Hp}{o:HO}{C d:Ν}{fs:Fs}{v:V}{qs:List (Int×Int)},B y=Α (.ρ C d fs)->F6 B v qs->F6 (ο B y o) v qs:=λ{B o C d fs v qs} hB h=>by
  obtain⟨t,ws,e,h1,h2⟩:=h
  exact⟨t,_,e,by rw[ag (aQ h1 hB (by intro z;cases z))];exact h1,Ei.imp (λ_ _ DS=>by obtain⟨t',e',q'⟩:=DS;exact⟨_,e',by rw[ag (aQ q' hB (by intro z;cases z))];exact q'⟩) h2⟩
 have Rl:Paired (EA y (A:: le:: g:: ys.ex) (ο N9 y (.ρ ys.DU j (aS "lies" (.ref A) [("table",.ref m),("rooms",.ref p),("lanes",.ref g),("letters",.ref le)]))) ys.Ep) D (G.map qV):=Paired.mono (λ_ _ z=>z.ο) Rj
 have M6:Paired (F6 (ο N9 y (.ρ ys.DU j (aS "lies" (.ref A) [("table",.ref m),("rooms",.ref p),("lanes",.ref g),("letters",.ref le)])))) O (Ϛ n []):=Paired.mono (λ_ _ z=>Rk Uo z) M0
 have Up:=OK (o:=.ρ ys.DU j (aS "lies" (.ref A) [("table",.ref m),("rooms",.ref p),("lanes",.ref g),("letters",.ref le)])) o10
 have Xe:(ο N9 y (.ρ ys.DU j (aS "lies" (.ref A) [("table",.ref m),("rooms",.ref p),("lanes",.ref g),("letters",.ref le)]))) y=Α (.ρ ys.DU j [("table",.ref m),("rooms",.ref p),("lanes",.ref g),("letters",.ref le),("lies",.ref A)]):=ac
 have Km:(ο N9 y (.ρ ys.DU j (aS "lies" (.ref A) [("table",.ref m),("rooms",.ref p),("lanes",.ref g),("letters",.ref le)]))) g=Α (.π D):=by rw[ag Lw];exact M3
 have Kn:(ο N9 y (.ρ ys.DU j (aS "lies" (.ref A) [("table",.ref m),("rooms",.ref p),("lanes",.ref g),("letters",.ref le)]))) le=Α (.π []):=by rw[ag N6];exact M4
 have Ko:(ο N9 y (.ρ ys.DU j (aS "lies" (.ref A) [("table",.ref m),("rooms",.ref p),("lanes",.ref g),("letters",.ref le)]))) A=Α (.π O):=by rw[ag Rg];exact M1
 have M7:=gN (o:=.ρ ys.DU j (aS "lies" (.ref A) [("table",.ref m),("rooms",.ref p),("lanes",.ref g),("letters",.ref le)])) Uo M5
 generalize ο N9 y (.ρ ys.DU j (aS "lies" (.ref A) [("table",.ref m),("rooms",.ref p),("lanes",.ref g),("letters",.ref le)]))=A11 at Rl M6 Up Xe Km Kn Ko M7⊢
 refine⟨Ϧ _,λdn HP=>?_⟩
 have Uq:dn≠y:=Ϟ (ah Xe HP)
 have Rm:g≠dn:=ah Km HP
 have Rn:le≠dn:=ah Kn HP
 have Ro:A≠dn:=ah Ko HP
 have dn0:H dn=Β:=by
  cases e:H dn with
  |none=>rfl
  |some u=>rw[Up _ _ (λz=>Uq (ϙ.mp z)) e]at HP;cases HP
 have M8:=(DP.refl A11).new (o:=.π []) HP
 have Xf:=M8 _ _ Xe
 refine⟨y,_,j,_,Λ,Xf,Y.cl,Y.n6,by show 5<1000;decide,?_⟩
 refine q DY p g le A dn _ (OK (Up.trans (DP.E8 M8))) la0 le0 li0 dn0 ⟨ac,gN Xf (bW M8 M7),⟨D,by rw[ag Lw];exact M8 _ _ Km,?_⟩,⟨[],by rw[ag N6];exact M8 _ _ Kn,.nil⟩,⟨O,by rw[ag Rg];exact M8 _ _ Ko,Paired.mono (λ_ _ z=>Rk Xf (z.keep (DP.Er M8))) M6⟩,⟨[],by rw[ag Uq];exact ac,.nil⟩,?_,(λb R=>let ⟨xs,hz⟩:=hex b R;⟨xs,(OK (Up.trans (DP.E8 M8))) b _ (KJ b R) hz⟩)⟩
 ·refine Paired.mono (λ_ _ z=>((z.new HP).ο).QR λa ha=>?_) Rl
  simp only[ϥ]at ha⊢
  rcases ha with rfl|rfl|rfl|rfl|h
  ·exact .inr (.inr (.inr (.inl Λ)))
  ·exact .inr (.inr (.inl Λ))
  ·exact .inr (.inl Λ)
  ·exact .inl Λ
  ·exact .inr (.inr (.inr (.inr h)))
 ·simp only[Ć,ϥ,Õ,or_false,not_or,not_false_eq_true,and_true,ĺ]
  exact⟨⟨Mx,Rh,Rm⟩,⟨Ri,Rn⟩,Ro⟩
theorem Eg.off(h:Eg K ys H y dy tb ro c le li dn s)(o:Ee (c:: le:: li:: dn:: ys.ex) H H'):H' y=Α (.ρ ys.DU dy (Um tb ro c le li dn))/\Ec K H' ro s.rooms/\(∀a b,Paired (GH H ys.Ep (c:: le:: li:: dn:: ys.ex)) a b->Paired (GH H' ys.Ep (c:: le:: li:: dn:: ys.ex)) a b)/\(∀a b,Paired (HN H ys.DR (c:: le:: li:: dn:: ys.ex)) a b->Paired (HN H' ys.DR (c:: le:: li:: dn:: ys.ex)) a b)/\(∀a b,Paired (F6 H) a b->Paired (F6 H') a b)/\∀a b,Paired (FJ H) a b->Paired (FJ H') a b:=by
 have d:=h.Jr
 have k:=o.Er d
 refine⟨k _ _ h.ρ Ê,?_,λa b=>Paired.mono λ_ _ z=>z.E8 d o,λa b=>Paired.mono λ_ _ z=>z.E8 d o,λa b=>Paired.mono λ_ _ z=>z.keep k,λa b=>Paired.mono λ_ _ z=>z.keep k⟩
 rcases h.OJ with r|r
 ·refine .inl ?_
  rcases r with r|⟨u,r⟩
  ·exact .inl (k _ _ r Ê)
  ·exact .inr ⟨u,k _ _ r Ê⟩
 ·exact .inr r
theorem cN(c:a∈ex):Ee ex H (ο H a o):=λb u d e=>by rw[ag (λz=>d (by rw[z];exact c))];exact e
theorem uz(h:∃xs,H b=Α (.π xs)):∃xs,(ο H x (.π zs)) b=Α (.π xs):=by
 by_cases e:b=x
 ·exact⟨_,by rw[e,ac]⟩
 ·obtain⟨xs,a⟩:=h
  exact⟨_,by rw[ag e];exact a⟩
theorem Eg.Rp(h:Eg K ys H y dy tb ro c le li dn s)(f:H le=Α (.π vs))(g:HN H ys.DR (c:: le:: li:: dn:: ys.ex) v t):Eg K ys (ο H le (.π (vs++[v]))) y dy tb ro c le li dn {s with DO:=s.DO++[t]}:=by
 obtain⟨i,j,l,d,m,n⟩:=h.off (cN (a:=le) (o:=.π (vs++[v])) (by simp))
 obtain⟨p,q,r⟩:=h.υ
 obtain⟨J,e,u⟩:=h.χ
 obtain⟨x,A,B⟩:=h.GO
 obtain⟨C,D,E⟩:=h.HP
 rw[f]at e
 cases e
 have ne:=h.ne
 simp only[Ć,ϥ,Õ,or_false,not_or,not_false_eq_true,and_true,ĺ]at ne
 have F:=d [v] [t] (.cons g .nil)
 exact⟨i,j,⟨p,by rw[ag ne.1.1];exact q,l _ _ r⟩,⟨vs++[v],ac,Paired.snoc (by cases F with|cons z _=>exact z) (d _ _ u)⟩,⟨x,by rw[ag (Ϟ ne.2.1.1)];exact A,m _ _ B⟩,⟨C,by rw[ag (Ϟ ne.2.1.2)];exact D,n _ _ E⟩,h.ne,λb G=>uz (h.hex b G)⟩
theorem Eg.M9(h:Eg K ys H y dy tb ro la le li dn s)(e:H dn=Α (.π vs))(f:FJ H v t):Eg K ys (ο H dn (.π (vs++[v]))) y dy tb ro la le li dn {s with done:=s.done++[t]}:=by
 obtain⟨g,i,j,l,m,c⟩:=h.off (cN (a:=dn) (o:=.π (vs++[v])) (by simp))
 obtain⟨n,p,q⟩:=h.υ
 obtain⟨r,u,x⟩:=h.χ
 obtain⟨A,B,C⟩:=h.GO
 obtain⟨G,d,D⟩:=h.HP
 rw[e]at d
 cases d
 have ne:=h.ne
 simp only[Ć,ϥ,Õ,or_false,not_or,not_false_eq_true,and_true,ĺ]at ne
 have E:=c [v] [t] (.cons f .nil)
 exact⟨g,i,⟨n,by rw[ag ne.1.2.2];exact p,j _ _ q⟩,⟨r,by rw[ag ne.2.1.2];exact u,l _ _ x⟩,⟨A,by rw[ag ne.2.2];exact B,m _ _ C⟩,⟨vs++[v],ac,Paired.snoc (by cases E with|cons z _=>exact z) (c _ _ D)⟩,h.ne,λb F=>uz (h.hex b F)⟩
inductive Pd
 |place|length|word|ω|full|good
noncomputable def ot(n:Nat)(wy:Wf)(m:Nat)(sv gv lv wv:V):Pd:=
 if (lN sv 0 ((n:Int) - 1)&& lN gv 0 ((n:Int) - 1))=Ε then .place else if lN lv 1 60=Ε then .length else if QL wv=Ε then .word
 else if vI sv=vI gv∨wy (vI sv).toNat (vI gv).toNat Β=[] then .ω else if 60<=m then .full else .good
noncomputable def dO(s:YS)(a b l u:Int):YS:={s with DO:=s.DO++[⟨a,b,l,u,0,[]⟩],done:=s.done++[[.str "post",.int a,.int b,.int l,.int u]]}
inductive rp(K:ϧ)(c:Cs)(TC:Ν)(J:TJ)(ys:Ys)(vs:List V)(H:Hp)(Q:VK)(E:XK):Prop
 |mk (y dy tb ro la le li dn lx Ef lt:Ν) (n:Nat) (DX:List V) (ps:List (Int×Int)) (wy:Wf) (s:YS) (sv gv lv wv:V) (_:vs=[.ref y,sv,gv,lv,wv]) (_:Eg K ys H y dy tb ro la le li dn s) (_:F5 c TC J H tb lx Ef lt n DX ps wy) (_:vE sv) (_:vE gv) (_:vE lv) (_:vE wv) (_:s.DO.length<=900) (_:s.done.length<=10000) (_:(ot n wy s.DO.length sv gv lv wv=.place->False)) (_:(ot n wy s.DO.length sv gv lv wv=.length->False)) (_:(ot n wy s.DO.length sv gv lv wv=.word->False)) (_:(ot n wy s.DO.length sv gv lv wv=.ω->False)) (_:(ot n wy s.DO.length sv gv lv wv=.full->False)) (_:(ot n wy s.DO.length sv gv lv wv=.good->∀H',Ee [le,dn] H H'->Eg K ys H' y dy tb ro la le li dn (dO s (vI sv) (vI gv) (vI lv) (vI wv))->Q (.int s.DO.length) H'))
abbrev NPo:List Str:=["self","start","goal","length","word","last_place"]
abbrev Bw:List Str:=["self","start","goal","length","word"]
theorem Lx:aw NPo Bw (am im):=L2.Eu
theorem zQ(F:HI K "post" "Yard.post" im f fd)(T:eD mg)(L:kC K c)(Y:jA K ys)(W:Wy K TC N2 N3 J)(Kp:DQ P w K mg μ aF 3 N2 N3 ["self","place","goal","came"] (eZ J))
  (mw:mg "is_within"=Α (.ref fw)) (kw:Ϯ K (.ref fw)=Δ) (bw:Binds K dw ["value","least","most"] []) (Gw:DQ P w K mg μ aF 2 fw dw ["value","least","most"] eJ)
  (Xh:mg "is_word"=Α (.ref NA)) (Xi:Ϯ K (.ref NA)=Δ) (Xj:Binds K Rq ["word"] []) (OM:DQ P w K mg μ aF 2 NA Rq ["word"] rl)
  (ml:mg "Letter"=Α (.ref ys.DR)) (Ml:Mk K ys.DR fl) (bl:Binds K dl ["self","start","goal","length","word"] []) (Gl:DQ P w K mg μ aF 1 fl dl ["self","start","goal","length","word"] (w6 ys.DR))
  (mL:mg "MOST_LENGTH"=Α (.int 60 t1)) (mM:mg "MOST_LETTERS"=Α (.int 60 t2)):
  DQ P w K mg μ aF 4 f fd Bw (rp K c TC J ys):=by
 refine F.ok Lx λ_ _ _ s H _ Q E hr h=>?_
 obtain⟨y,p,tb,ro,la,le,li,dn,lx,Ef,lt,n,DX,ps,X,B,sv,gv,lv,Z,rfl,hY,hT,cs,cg,cl,cw,hl9,hd9,e1,e2,e3,r,g,q⟩:=h
 have C:Ea 2 _:=hr.mono (by decide)
 refine⟨_,ae (aB (i:=5) Lx.nd Λ (ύ Λ) (aI e8 (ap (ap (ap (pv 0) Λ) Λ) Λ) ao))
  (ae (aP (PW.pt (fZ (bE (bA (au Gw C Λ mw kw bw .nil ar (aa (pv 1) (aa ao (aa (pv 5) ad)))))) (dD (bE (bA (au Gw C Λ mw kw bw .nil ar (aa (pv 2) (aa ao (aa (pv 5) ad)))))))))
   (aj aY) aE)
  (ae (aP (bE (bA (au Gw C Λ mw kw bw .nil ar (aa (pv 3) (aa ao (aa (dR (v:=.int 60) Λ mL ⟨_,Λ⟩) ad))))))
   (aj aY) aE)
  (ae (aP (bE (bA (au OM C Λ Xh Xi Xj .nil ar (aa (pv 4) ad))))
   (aj aY) aE)
  (ae (aP (iT (PW.pt (fZ (az bN (pv 1) (pv 2) (aC _)) (dD (bE (dE (aH (ap (pv 0) Λ) W.cl W.m Kp hr W.b .nil ar (aa (pv 1) (aa (pv 2) (aa b9 ad)))) (λ_=>rfl)))))))
   (aj aY) aE)
  (ae (aP (az Bl (aG aA Λ T.len PySem.boot_len (aa (ap (pv 0) Λ) ad)) (dR (v:=.int 60) Λ mM ⟨_,Λ⟩) (aC _))
   (aj aY) aE)
  (ae (aX (cF plainAttrs_list PySem.F.slot_list_append PySem.F.type_list_append bX (ap (pv 0) Λ) (aa (dQ Ml Gl C Λ ml bl .nil ar (aa (pv 1) (aa (pv 2) (aa (pv 3) (aa (pv 4) ad))))) ad)))
  (ae (aX (cF plainAttrs_list PySem.F.slot_list_append PySem.F.type_list_append bX (ap (pv 0) Λ) (aa (bM (aa cx (aa (pv 1) (aa (pv 2) (aa (pv 3) (aa (pv 4) ad)))))) ad)))
  (aj (ay (aI e8 (aG aA Λ T.len PySem.boot_len (aa (ap (pv 0) Λ) ad)) ao)))))))))),?_⟩
 obtain⟨IG,G,HJ,EK,FK⟩:=hT.i
 unfold ot at e1 e2 e3 r g q
 refine⟨y,_,p,_,_,Λ,hY.ρ,Y.cl,Y.n1,Λ,_,_,_,G,_,Λ,HJ,W.cl,W.nl,EK,_,_,_,_,_,Λ,hT.l.1,L.cl,L.np,Λ,_,_,Λ,Λ,_,0,_,Λ,cs,_,Λ,?_⟩
 cases I:lN sv 0 ((n:Int) - 1) with
 | false =>
  exact aL (aL (e1 (by rw[I,Bool.false_and,Ι Λ])))
 |true =>
 refine aJ ⟨gv,0,(n:Int) - 1,Λ,cg,_,Λ,?_⟩
 cases h2:lN gv 0 ((n:Int) - 1) with
 | false =>
  exact aL (e1 (by rw[I,h2,Bool.and_false,Ι Λ]))
 |true =>
 rw[I,h2,ñ,Θ (by decide)]at e2 e3 r g q
 refine aJ ⟨lv,1,60,Λ,cl,_,Λ,?_⟩
 cases h3:lN lv 1 60 with
 | false =>
  exact aL (e2 (by rw[h3,Ι Λ]))
 |true =>
 rw[h3,Θ (by decide)]at e3 r g q
 refine aJ ⟨Z,Λ,cw,_,Λ,?_⟩
 cases h4:QL Z with
 | false =>
  exact aL (e3 (by rw[h4,Ι Λ]))
 |true =>
 rw[h4,Θ (by decide)]at r g q
 refine aJ ?_
 obtain⟨a,rfl⟩:=jU I
 obtain⟨b,rfl⟩:=jU h2
 obtain⟨l,rfl⟩:=jU h3
 obtain⟨u,rfl⟩:∃u,Z=.int u:=by
  cases Z<;>first|exact⟨_,Λ⟩|cases h4
 have ha:=of_decide_eq_true I
 have hb:=of_decide_eq_true h2
 obtain⟨d,rfl⟩:∃d:Nat,a=(d:Int):=⟨a.toNat,by omega⟩
 obtain⟨e,rfl⟩:∃e:Nat,b=(e:Int):=⟨b.toNat,by omega⟩
 have ev:∀z:Int,vI (.int z)=z:=λ_=>rfl
 rw[ev,ev,Υ,Υ]at r g q
 refine⟨λk M=>DP H M/\k=decide ((d:Int)=(e:Int)∨X d e Β=[]),?_,?_⟩
 ·refine⟨Λ,_,Λ,?_⟩
  rw[bK]
  by_cases ON:(d:Int)=(e:Int)
  ·rw[Ζ ON]
   exact aL ⟨DP.refl H,by rw[Ζ (ύ ON)]⟩
  ·rw[Η ON]
   refine aJ ⟨y,ys.DU,p,_,_,Λ,hY.ρ,Y.cl,Y.n1,Λ,tb,IG,G,Λ,HJ,FK,tb,n,X,d,e,Β,Λ,hT.j,by omega,by omega,λD M s1 hD gD=>⟨_,.inl ⟨_,DT.of gD,Λ⟩,s1,?_⟩⟩
   cases hw:X d e Β with
   |nil=>rw[Ζ (Ĥ Λ)];rfl
   |cons z zs=>rw[Η (λz=>z.elim ON λz=>by cases z)];rfl
 rintro k M ⟨s1,rfl⟩
 have N:=hY.same s1
 by_cases Ly:(d:Int)=(e:Int)∨X d e Β=[]
 ·rw[Ζ Ly]
  exact aL (r (by rw[Ι Ly]))
 rw[Η Ly]
 rw[Θ Ly]at g q
 refine aJ ?_
 obtain⟨O,Fm,pl⟩:=N.χ
 have ET:=Paired.length pl
 refine⟨y,_,p,_,_,Λ,N.ρ,Y.cl,Y.n4,Λ,_,_,Λ,.inl (DT.of Fm),_,_,Λ,Λ,_,Λ,?_⟩
 by_cases MA:60<=B.DO.length
 ·rw[Ζ (show (60:Int)<=(O.length:Nat) by omega)]
  exact aL (g (by rw[Ι MA]))
 rw[Η (show ¬(60:Int)<=(O.length:Nat) by omega)]
 rw[Θ MA]at q
 refine aJ ?_
 refine⟨y,_,p,_,_,Λ,N.ρ,Y.cl,Y.n4,Λ,.inl ⟨Λ,_,DT.of Fm⟩,λx GI nx N4 KJ=>⟨x,GI,(d:Int),(e:Int),l,u,Λ,ac,λR H2 A off JJ KL=>⟨Λ,?_⟩⟩⟩
 have GZ:=λz o ez=>off z o (ah ez nx) (by rw[ag (ah ez nx),ag (ah ez N4)];exact ez)
 have Xk:M R=Β:=by
  by_cases z1:R=x
  ·rw[z1,ac]at A;cases A
  ·by_cases z2:R=GI
   ·rw[z2,ag KJ,ac]at A;cases A
   ·rw[ag z1,ag z2]at A;exact A
 have Js:=N.same GZ
 have Rr:=GZ _ _ Fm
 have hlv:HN H2 ys.DR (la:: le:: li:: dn:: ys.ex) (.ref x) ⟨(d:Int),(e:Int),l,u,0,[]⟩:=⟨x,GI,R,Λ,JJ,KL,λz=>by obtain⟨xs,hz⟩:=N.Jr R z;rw[Xk]at hz;cases hz⟩
 refine⟨_,_,_,Λ,Λ,Rr,by rw[Ω];omega,?_⟩
 have GP:=Js.Rp Rr hlv
 have o3:Ee [le,dn] H (ο H2 le (.π (O++[.ref x]))):=(DP.E8 (s1.trans GZ)).trans (cN (by simp))
 generalize ο H2 le (.π (O++[.ref x]))=H3 at GP o3⊢
 obtain⟨EZ,OO,pd⟩:=GP.HP
 have Qp:EZ.length=B.done.length:=Paired.length pd
 refine⟨y,_,p,_,_,Λ,GP.ρ,Y.cl,Y.n6,Λ,.inl ⟨Λ,_,DT.of OO⟩,by show 5<=ό;decide,λt ht=>?_⟩
 have GQ:=(DP.refl H3).new (o:=.tup [.str "post",.int (d:Int),.int (e:Int),.int l,.int u]) ht
 have S:(ο H3 t (.tup [.str "post",.int (d:Int),.int (e:Int),.int l,.int u])) t=Α (.tup [.str "post",.int (d:Int),.int (e:Int),.int l,.int u]):=ac
 generalize ο H3 t (.tup [.str "post",.int (d:Int),.int (e:Int),.int l,.int u])=H4 at GQ S⊢
 have Ur:=GP.same GQ
 have Rt:=GQ _ _ OO
 refine⟨_,_,_,Λ,Λ,Rt,by rw[Ω];omega,?_⟩
 have OP:=Ur.M9 Rt ⟨t,Λ,S⟩
 have o5:Ee [le,dn] H (ο H4 dn (.π (EZ++[.ref t]))):=(o3.trans (DP.E8 GQ)).trans (cN (by simp))
 generalize ο H4 dn (.π (EZ++[.ref t]))=H5 at OP o5⊢
 obtain⟨U,Xl,pl5⟩:=OP.χ
 have hl5:U.length=B.DO.length+1:=by rw[Paired.length pl5,ϗ];rfl
 refine⟨y,_,p,_,_,Λ,OP.ρ,Y.cl,Y.n4,Λ,_,_,Λ,.inl (DT.of Xl),_,_,Λ,Λ,?_⟩
 have er:((U.length:Nat):Int) - 1=(B.DO.length:Int):=by omega
 dsimp only
 rw[er]
 exact q Λ H5 o5 OP
theorem j6(f:Nat->V)(l:xs.length<ό)(c:DT K H a xs)
  (m:∀(i:Nat)(x:V)(N:V->Hp->Prop),xs[i]?=Α x->N (f i) H->g x σ0 H λd j=>te d j N)
  (n:∀D,H D=Β->Q (.ref D) (ο H D (.π ((ϋ xs.length).map f)))):dM (vJ K a) g rf te σ0 Q H:=by
 refine bQ xs.length l (λi acc b=>b=H/\acc=(ϋ i).map f) ⟨Λ,Λ⟩ (λi acc b h=>by rw[h.2,ϊ,ã];exact Ρ _) (λi acc b o h=>?_) (λacc b h=>?_)
 ·obtain⟨rfl,rfl⟩:=h
  refine⟨⟨xs,xs[i],c,by simp[o]⟩,λv j y=>?_⟩
  obtain⟨e,y⟩:=y
  subst e
  exact m i v (λy p=>p=j/\(ϋ i).map f++[y]=(ϋ (i+1)).map f) (y xs c) ⟨Λ,by rw[ē,Ì];rfl⟩
 ·obtain⟨rfl,rfl⟩:=h
  exact⟨⟨xs,c,Ρ _⟩,n⟩
theorem kU{a b:Type}(xs:List a)(d:a)(f:a->b):(ϋ xs.length).map (λi=>f (xs.getD i d))=xs.map f:=by
 refine Ya (by simp) λi e c=>?_
 simp only[š,Si]
 rw[Χ,Μ (by simpa using c)];rfl
def Xm(K:ϧ):List V->Hp->VK->Prop:=λxs H Q=>∃(p:Ν)(ys:List V),xs=[.ref p]/\(DT K H p ys∨Ec K H p ys)/\Q (.int (ys.length:Nat)) H
inductive wB(K:ϧ)(ys:Ys)(vs:List V)(H:Hp)(Q:VK)(E:XK):Prop
 |mk (y dy tb ro la le li dn:Ν) (s:YS) (k:Nat) (lt:bD) (_:vs=[.ref y,.int k]) (_:Eg K ys H y dy tb ro la le li dn s) (_:s.DO[k]?=Α lt) (_:∀(t:Ν)(H':Hp),DP H H'->H' t=Α (.tup [.int lt.start,.int lt.ι,.int lt.len,.int lt.word])->Q (.ref t) H')
inductive wc(K:ϧ)(ys:Ys)(vs:List V)(H:Hp)(Q:VK)(E:XK):Prop
 |mk (y dy tb ro la le li dn:Ν) (s:YS) (k:Nat) (lt:bD) (_:vs=[.ref y,.int k]) (_:Eg K ys H y dy tb ro la le li dn s) (_:s.DO[k]?=Α lt) (_:∀(t:Ν)(H':Hp),DP H H'->H t=Β->H' t=Α (.π (nV lt.ω))->Q (.ref t) H')
inductive py(K:ϧ)(ys:Ys)(vs:List V)(H:Hp)(Q:VK)(E:XK):Prop
 |mk (y dy tb ro la le li dn:Ν) (s:YS) (_:vs=[.ref y]) (_:Eg K ys H y dy tb ro la le li dn s) (_:Q (.int s.DO.length) H)
theorem Ru:aw ["self","number","letter"] ["self","number"] (am xg):=L2.Eu
theorem zZ(F:En K "letter_told" "Yard.letter_told" xg f fd)(Y:jA K ys):DQ P w K mg μ aF 1 f fd ["self","number"] (wB K ys):=by
 refine F.ok Ru λ_ _ _ s H _ Q E o h=>?_
 obtain⟨y,d,p,r,u,le,z,dn,A,k,lt,rfl,c,e,q⟩:=h
 refine⟨_,ae (aB (i:=2) Ru.nd Λ (ύ Λ) (aD DZ (ap (pv 0) Λ) (pv 1) (λ_ _=>rfl))) (aj (ay (bM (aa (ap (pv 2) Λ) (aa (ap (pv 2) Λ) (aa (ap (pv 2) Λ) (aa (ap (pv 2) Λ) ad))))))),?_⟩
 obtain⟨g,j,l⟩:=c.χ
 obtain⟨v,m,x,a,B,rfl,b,_⟩:=Paired.at2 l e
 refine⟨y,_,d,_,_,Λ,c.ρ,Y.cl,Y.n4,Λ,_,g,_,_,Λ,Λ,DT.of j,aq m,x,_,a,_,_,Λ,b,Y.ct,Y.t1,Λ,x,_,a,_,_,Λ,b,Y.ct,Y.t2,Λ,x,_,a,_,_,Λ,b,Y.ct,Y.t3,Λ,x,_,a,_,_,Λ,b,Y.ct,Y.t4,Λ,by show 4<=ό;decide,λt n=>?_⟩
 exact q t _ ((DP.refl H).new n) ac
theorem Xn:aw ["self","number"] ["self","number"] (am wO):=L2.Eu
theorem zJ(F:En K "way_told" "Yard.way_told" wO f fd)(T:eD mg)(Y:jA K ys):DQ P w K mg μ aF 1 f fd ["self","number"] (wc K ys):=by
 refine F.ok Xn λ_ _ _ s H _ Q E p h=>?_
 obtain⟨y,c,r,u,z,le,A,dn,B,k,lt,rfl,a,d,q⟩:=h
 refine⟨_,aj (ay (bS cI Λ T.list PySem.Pv.boot_list (aa (ap (aD DZ (ap (pv 0) Λ) (pv 1) (λ_ _=>rfl)) Λ) ad))),?_⟩
 obtain⟨e,g,i⟩:=a.χ
 obtain⟨v,j,x,l,m,rfl,n,o,_⟩:=Paired.at2 i d
 refine⟨y,_,c,_,_,Λ,a.ρ,Y.cl,Y.n4,Λ,_,e,_,_,Λ,Λ,DT.of g,aq j,x,_,l,_,_,Λ,n,Y.ct,Y.t6,Λ,m,_,Λ,.inl (DT.of o),λt b=>?_⟩
 exact q t _ ((DP.refl H).new b) b ac
theorem Xo:aw ["self"] ["self"] (am nZ):=L2.Eu
theorem uZ(F:En K "posted" "Yard.posted" nZ f fd)(T:eD mg)(Y:jA K ys):DQ P w K mg μ aF 1 f fd ["self"] (py K ys):=by
 refine F.ok Xo λ_ _ _ s H _ Q E e h=>?_
 obtain⟨y,b,g,i,j,le,l,dn,m,rfl,a,q⟩:=h
 refine⟨_,aj (ay (aG aA Λ T.len PySem.boot_len (aa (ap (pv 0) Λ) ad))),?_⟩
 obtain⟨n,c,d⟩:=a.χ
 refine⟨y,_,b,_,_,Λ,a.ρ,Y.cl,Y.n4,Λ,_,_,Λ,.inl (DT.of c),?_⟩
 rw[Paired.length d]
 exact q
theorem sO{kV doc pm cdv ct:Τ}(e:K.lookup T=Α o)(f:o.data=.seq #[Ú] n):
  Binds K (v3 "__init__" "Yard.__init__" (cf jo) (aK jo) (am jo) (.ref T) kV doc pm an cdv ct) ["self","table","rooms"] []:=λs us g d=>by
 have d:us.length=3:=by rw[ĕ]at d;exact d
 obtain⟨a,p,rfl,h⟩:=L2.MR d
 obtain⟨b,i,rfl,j⟩:=L2.MR h
 obtain⟨c,l,rfl,m⟩:=L2.MR j
 obtain rfl:=F2 m
 exact Nb Λ (g _ _ e) f Λ Λ
theorem qG{kV doc pm cdv ct:Τ}(g:K.lookup T=Α o)(h:o.data=.seq #[Ĝ 0 tk] n):
  Binds K (v3 "post" "Yard.post" (cf im) (aK im) (am im) (.ref T) kV doc pm an cdv ct) Bw [Ĝ 0 tk]:=λs us i e=>by
 have e:us.length=4:=by rw[ϗ]at e;exact oo e
 obtain⟨a,t,rfl,j⟩:=L2.MR e
 obtain⟨b,l,rfl,m⟩:=L2.MR j
 obtain⟨c,p,rfl,q⟩:=L2.MR m
 obtain⟨d,r,rfl,f⟩:=L2.MR q
 obtain rfl:=F2 f
 exact Nb Λ (i _ _ g) h Λ Λ
inductive Be(C:Ν)(vs:List V)(H:Hp)(Q:VK)(E:XK):Prop
 |mk (x dx pa:Ν) (r b:Int) (h:Option Int) (Es:List V) (qs:List (Int×Int)) (_:vs=[.ref x]) (_:Em H C x dx pa r b h Es qs) (_:∀(x' Hv IH:Ν)(H':Hp),DP H H'->H x'=Β->H IH=Β->Em H' C x' Hv IH r b h Es qs->Q (.ref x') H')
inductive Bd(C:Ν)(vs:List V)(H:Hp)(Q:VK)(E:XK):Prop
 |mk (x dx wa:Ν) (s:bD) (_:vs=[.ref x]) (_:H x=Α (.ρ C dx (su s wa))) (_:H wa=Α (.π (nV s.ω))) (_:∀(x' Hv Jt:Ν)(H':Hp),DP H H'->H x'=Β->H Jt=Β->H' x'=Α (.ρ C Hv (su s Jt))->H' Jt=Α (.π (nV s.ω))->Q (.ref x') H')
theorem MB:aw ["self","other"] ["self"] (am Cd):=L2.Eu
theorem CH(F:En K "twin" "Lane.twin" Cd f fd)(T:eD mg)(L:Bx K C)(O:mg "Lane"=Α (.ref C))(R:Mk K C fl)(S:Binds K dl ["self","room"] [])(Gl:DQ P w K mg μ aF 1 fl dl ["self","room"] (w8 C)):
  DQ P w K mg μ aF 3 f fd ["self"] (Be C):=by
 refine F.ok MB λ_ _ _ s H _ Q E U h=>?_
 obtain⟨x,v,X,r,b,h,Y,qs,rfl,l,q⟩:=h
 refine⟨_,ae (aB (i:=1) MB.nd Λ (ύ Λ) (dQ R Gl U Λ O S .nil ar (aa (ap (pv 0) Λ) ad)))
  (ae (bF (pv 1) (ap (pv 0) Λ) Λ)
  (ae (bF (pv 1) (ap (pv 0) Λ) Λ)
  (ae (bF (pv 1) (bS cI Λ T.list PySem.Pv.boot_list (aa (ap (pv 0) Λ) ad)) Λ)
  (aj (ay (pv 1)))))),?_⟩
 refine⟨x,C,v,_,_,Λ,l.ρ,L.cl,L.n1,Λ,λa d m Z ne=>⟨a,d,r,Λ,ac,λj n Lq off D=>⟨Λ,?_⟩⟩⟩
 have G:=λz o c=>off z o (ah c m) (by rw[ag (ah c m),ag (ah c Z)];exact c)
 have y:=D.ρ
 clear Lq off D
 refine⟨x,C,v,_,_,Λ,G _ _ l.ρ,L.cl,L.n2,Λ,a,C,d,_,Λ,y,L.cl,L.n2,by show 4<1000;decide,?_⟩
 have I:∀g,DP H (ο n a g):=λg z o c=>by rw[ag (ah c m)];exact G _ _ c
 refine⟨x,C,v,_,_,Λ,I _ _ _ l.ρ,L.cl,L.n3,Λ,a,C,d,_,Λ,ac,L.cl,L.n3,by show 4<1000;decide,?_⟩
 have o3:∀g p,DP H (ο (ο n a g) a p):=λg p z o c=>by rw[ag (ah c m)];exact I _ _ _ c
 have t:=o3 (.ρ C d (aS "returning" (.int b) (jI r 0 (hV Β) j))) (.ρ C d (aS "holder" (hV h) (aS "returning" (.int b) (jI r 0 (hV Β) j))))
 have A:(ο (ο n a (.ρ C d (aS "returning" (.int b) (jI r 0 (hV Β) j)))) a (.ρ C d (aS "holder" (hV h) (aS "returning" (.int b) (jI r 0 (hV Β) j))))) a=Α (.ρ C d (jI r b (hV h) j)):=ac
 generalize ο (ο n a (.ρ C d (aS "returning" (.int b) (jI r 0 (hV Β) j)))) a (.ρ C d (aS "holder" (hV h) (aS "returning" (.int b) (jI r 0 (hV Β) j))))=H3 at t A⊢
 refine⟨x,C,v,_,_,Λ,t _ _ l.ρ,L.cl,L.n4,Λ,X,_,Λ,.inl (DT.of (t _ _ l.π)),λu B=>?_⟩
 have J:H u=Β:=by
  cases e:H u with
  |none=>rfl
  |some o=>rw[t _ _ e]at B;cases B
 have M:=ah A B
 refine⟨a,C,d,_,Λ,by rw[ag M];exact A,L.cl,L.n4,by show 4<1000;decide,?_⟩
 have N:∀g,DP H (ο (ο H3 u (.π Y)) a g):=λg z o c=>by rw[ag (ah c m),ag (ah c J)];exact t _ _ c
 exact q a d u _ (N _) m J ⟨ac,by rw[ag (Ϟ M)];exact ac,Ei.same (N _) l.Fv⟩
theorem MD:aw ["self","other"] ["self"] (am xf):=L2.Eu
theorem CF(F:En K "twin" "Letter.twin" xf f fd)(T:eD mg)(Y:jA K ys)(G:mg "Letter"=Α (.ref ys.DR))(I:Mk K ys.DR fl)(J:Binds K dl ["self","start","goal","length","word"] [])(Gl:DQ P w K mg μ aF 1 fl dl ["self","start","goal","length","word"] (w6 ys.DR)):
  DQ P w K mg μ aF 3 f fd ["self"] (Bd ys.DR):=by
 refine F.ok MD λ_ _ _ s H _ Q E L h=>?_
 obtain⟨x,d,M,t,rfl,g,N,q⟩:=h
 refine⟨_,ae (aB (i:=1) MD.nd Λ (ύ Λ) (dQ I Gl L Λ G J .nil ar (aa (ap (pv 0) Λ) (aa (ap (pv 0) Λ) (aa (ap (pv 0) Λ) (aa (ap (pv 0) Λ) ad))))))
  (ae (bF (pv 1) (ap (pv 0) Λ) Λ)
  (ae (bF (pv 1) (bS cI Λ T.list PySem.Pv.boot_list (aa (ap (pv 0) Λ) ad)) Λ)
  (aj (ay (pv 1))))),?_⟩
 refine⟨x,_,d,_,_,Λ,g,Y.ct,Y.t1,Λ,x,_,d,_,_,Λ,g,Y.ct,Y.t2,Λ,x,_,d,_,_,Λ,g,Y.ct,Y.t3,Λ,x,_,d,_,_,Λ,g,Y.ct,Y.t4,Λ,λb c j O ne=>⟨b,c,t.start,t.ι,t.len,t.word,Λ,ac,λn p r off R u=>⟨Λ,?_⟩⟩⟩
 have A:=λz o a=>off z o (ah a j) (by rw[ag (ah a j),ag (ah a O)];exact a)
 clear r off u
 refine⟨x,_,d,_,_,Λ,A _ _ g,Y.ct,Y.t5,Λ,b,_,c,_,Λ,R,Y.ct,Y.t5,by show 6<1000;decide,?_⟩
 have l:DP H (ο p b (.ρ ys.DR c (aS "gone" (.int t.δ) (su ⟨t.start,t.ι,t.len,t.word,0,[]⟩ n)))):=λz o a=>by rw[ag (ah a j)];exact A _ _ a
 have v:(ο p b (.ρ ys.DR c (aS "gone" (.int t.δ) (su ⟨t.start,t.ι,t.len,t.word,0,[]⟩ n)))) b=Α (.ρ ys.DR c (su ⟨t.start,t.ι,t.len,t.word,t.δ,[]⟩ n)):=ac
 generalize ο p b (.ρ ys.DR c (aS "gone" (.int t.δ) (su ⟨t.start,t.ι,t.len,t.word,0,[]⟩ n)))=S at l v⊢
 refine⟨x,_,d,_,_,Λ,l _ _ g,Y.ct,Y.t6,Λ,M,_,Λ,.inl (DT.of (l _ _ N)),λm y=>?_⟩
 have B:H m=Β:=by
  cases e:H m with
  |none=>rfl
  |some o=>rw[l _ _ e]at y;cases y
 have C:=ah v y
 refine⟨b,_,c,_,Λ,by rw[ag C];exact v,Y.ct,Y.t6,by show 6<1000;decide,?_⟩
 have U:∀D,DP H (ο (ο S m (.π (nV t.ω))) b D):=λD z o a=>by rw[ag (ah a j),ag (ah a B)];exact l _ _ a
 exact q b c m _ (U _) j B ac (by rw[ag (Ϟ C)];exact ac)
structure YA where
 y:Ν
 dy:Ν
 tb:Ν
 ro:Ν
 la:Ν
 le:Ν
 li:Ν
 dn:Ν
 lx:Ν
 Ef:Ν
 lt:Ν
 n:Nat
 DX:List V
 ps:List (Int×Int)
 wy:Wf
abbrev F0(K:ϧ)(ys:Ys)(H:Hp)(a:YA)(s:YS):Prop:=Eg K ys H a.y a.dy a.tb a.ro a.la a.le a.li a.dn s
abbrev Rz(c:Cs)(TC:Ν)(J:TJ)(H:Hp)(a:YA):Prop:=F5 c TC J H a.tb a.lx a.Ef a.lt a.n a.DX a.ps a.wy
abbrev YA.four(a:YA):List Ν:=[a.la,a.le,a.li,a.dn]
theorem Paired.set{v:α}{r:β}(h:R v r):∀{a:List α}{b:List β}(i:Nat),Paired R a b->Paired R (a.set i v) (b.set i r)
 |_,_,_,.nil =>.nil
 |_,_,0,.cons _ t =>.cons h t
 |_,_,i+1,.cons x t =>.cons x (Paired.set h i t)
theorem Ee.mono(h:∀b∈ex,b∈O2)(o:Ee ex H H'):Ee O2 H H':=λb u a e=>o b u (λz=>a (h b z)) e
theorem xW(h:F0 K ys H a s)(c:H p=Β):p∉a.four:=λz=>by obtain⟨xs,b⟩:=h.Ja p z;rw[c]at b;cases b
theorem mI(h:F0 K ys H a s)(c:H p=Β):p∉a.la:: a.le:: a.li:: a.dn:: ys.ex:=λz=>by obtain⟨xs,b⟩:=Eg.Jr h p z;rw[c]at b;cases b
theorem oG(o:Ee [x] H H2)(a:H2 x=Α (.π zs))(h:∃xs,H b=Α (.π xs)):∃xs,H2 b=Α (.π xs):=by
 by_cases e:b=x
 ·exact⟨_,by rw[e];exact a⟩
 ·obtain⟨xs,c⟩:=h
  exact⟨_,o _ _ (by simpa using e) c⟩
theorem F0.HQ(h:F0 K ys H a s)(f:H a.la=Α (.π vs))(o:Ee [a.la] H H2)(d:H2 a.la=Α (.π (vs.set k (.ref x))))
  (L:Em H2 ys.Ep x dx pa ln.r ln.b ln.h Es ln.qs) (g:H pa=Β):F0 K ys H2 a {s with γ:=s.γ.set k ln}:=by
 obtain⟨i,j,l,m,n,p⟩:=Eg.off h (o.mono (by simp))
 obtain⟨F,e,q⟩:=h.υ
 obtain⟨t,u,v⟩:=h.χ
 obtain⟨y,z,A⟩:=h.GO
 obtain⟨B,C,D⟩:=h.HP
 rw[f]at e
 cases e
 have ne:=h.ne
 simp only[Ć,ϥ,Õ,or_false,not_or,not_false_eq_true,and_true,ĺ]at ne
 exact⟨i,j,⟨_,d,Paired.set ⟨x,dx,pa,Es,Λ,L,mI h g⟩ k (l _ _ q)⟩,⟨t,o _ _ (by simp;exact Ϟ ne.1.1) u,m _ _ v⟩,⟨y,o _ _ (by simp;exact Ϟ ne.1.2.1) z,n _ _ A⟩,⟨B,o _ _ (by simp;exact Ϟ ne.1.2.2) C,p _ _ D⟩,h.ne,λb E=>oG o d (h.hex b E)⟩
theorem F0.Kq(h:F0 K ys H a s)(e:H a.le=Α (.π vs))(o:Ee [a.le] H H2)(c:H2 a.le=Α (.π (vs.set k (.ref x))))
  (f:H2 x=Α (.ρ ys.DR dx (su t wa))) (g:H2 wa=Α (.π (nV t.ω))) (i:H wa=Β):F0 K ys H2 a {s with DO:=s.DO.set k t}:=by
 obtain⟨j,l,m,n,p,q⟩:=Eg.off h (o.mono (by simp))
 obtain⟨r,u,v⟩:=h.υ
 obtain⟨I,d,y⟩:=h.χ
 obtain⟨z,A,B⟩:=h.GO
 obtain⟨C,D,E⟩:=h.HP
 rw[e]at d
 cases d
 have ne:=h.ne
 simp only[Ć,ϥ,Õ,or_false,not_or,not_false_eq_true,and_true,ĺ]at ne
 exact⟨j,l,⟨r,o _ _ (by simp;exact ne.1.1) u,m _ _ v⟩,⟨_,c,Paired.set ⟨x,dx,wa,Λ,f,g,mI h i⟩ k (n _ _ y)⟩,⟨z,o _ _ (by simp;exact Ϟ ne.2.1.1) A,p _ _ B⟩,⟨C,o _ _ (by simp;exact Ϟ ne.2.1.2) D,q _ _ E⟩,h.ne,λb F=>oG o c (h.hex b F)⟩
theorem F0.NH(h:F0 K ys H a s)(f:H a.li=Α (.π vs))(o:Ee [a.li] H H2)(c:H2 a.li=Α (.π (vs.set k v)))
  (L:F6 H2 v qs):F0 K ys H2 a {s with ε:=s.ε.set k qs}:=by
 obtain⟨g,i,j,l,m,n⟩:=Eg.off h (o.mono (by simp))
 obtain⟨p,q,r⟩:=h.υ
 obtain⟨t,u,x⟩:=h.χ
 obtain⟨D,e,y⟩:=h.GO
 obtain⟨z,A,B⟩:=h.HP
 rw[f]at e
 cases e
 have ne:=h.ne
 simp only[Ć,ϥ,Õ,or_false,not_or,not_false_eq_true,and_true,ĺ]at ne
 exact⟨g,i,⟨p,o _ _ (by simp;exact ne.1.2.1) q,j _ _ r⟩,⟨t,o _ _ (by simp;exact ne.2.1.1) u,l _ _ x⟩,⟨_,c,Paired.set L k (m _ _ y)⟩,⟨z,o _ _ (by simp;exact Ϟ ne.2.2) A,n _ _ B⟩,h.ne,λb C=>oG o c (h.hex b C)⟩
inductive wu(K:ϧ)(ys:Ys)(vs:List V)(H:Hp)(Q:VK)(E:XK):Prop
 |mk (a:YA) (s:YS) (k:Nat) (ln:bV) (Ed:List V) (_:vs=[.ref a.y,.int k]) (_:F0 K ys H a s) (_:s.γ[k]?=Α ln) (_:H a.la=Α (.π Ed)) (_:∀(x dx pa:Ν)(Es:List V)(H':Hp),Ee [a.la] H H'->H x=Β->H pa=Β->H' a.la=Α (.π (Ed.set k (.ref x)))->Em H' ys.Ep x dx pa ln.r ln.b ln.h Es ln.qs->Q (.ref x) H')
inductive wq(K:ϧ)(ys:Ys)(vs:List V)(H:Hp)(Q:VK)(E:XK):Prop
 |mk (a:YA) (s:YS) (k:Nat) (t:bD) (DX:List V) (_:vs=[.ref a.y,.int k]) (_:F0 K ys H a s) (_:s.DO[k]?=Α t) (_:H a.le=Α (.π DX)) (_:∀(x dx wa:Ν)(H':Hp),Ee [a.le] H H'->H x=Β->H wa=Β->H' a.le=Α (.π (DX.set k (.ref x)))->H' x=Α (.ρ ys.DR dx (su t wa))->H' wa=Α (.π (nV t.ω))->Q (.ref x) H')
inductive Bf(K:ϧ)(ys:Ys)(vs:List V)(H:Hp)(Q:VK)(E:XK):Prop
 |mk (a:YA) (s:YS) (v:V) (q:Int×Int) (p:Nat) (qs:List (Int×Int)) (_:vs=[.ref a.y,v,.int p]) (_:F0 K ys H a s) (_:AS H v q) (_:s.ε[p]?=Α qs) (_:qs.length<=100000) (_:∀H',Ee [a.li] H H'->F0 K ys H' a {s with ε:=s.ε.set p (qs++[q])}->Q .Eh H')
inductive tD(K:ϧ)(ys:Ys)(vs:List V)(H:Hp)(Q:VK)(E:XK):Prop
 |mk (a:YA) (s:YS) (p:Nat) (qs:List (Int×Int)) (_:vs=[.ref a.y,.int p]) (_:F0 K ys H a s) (_:s.ε[p]?=Α qs) (_:∀(D:Ν)(Es:List V)(H':Hp),DP H H'->H D=Β->H' D=Α (.π Es)->Ei H' Es qs->Q (.ref D) H')
theorem BQ:aw ["self","lane"] ["self","lane"] (am wU):=L2.Eu
theorem zS(F:En K "own_lane" "Yard.own_lane" wU f fd)(Y:jA K ys)(R:cb K ys.Ep "twin" ft)(S:Binds K dt ["self"] [])(T:DQ P w K mg μ aF 3 ft dt ["self"] (Be ys.Ep)):
  DQ P w K mg μ aF 4 f fd ["self","lane"] (wu K ys):=by
 refine F.ok BQ λ_ _ _ s H _ Q E U h=>?_
 obtain⟨a,st,k,d,e,rfl,i,X,g,q⟩:=h
 refine⟨_,ae (gi (cj (aD DZ (ap (pv 0) Λ) (pv 1) (λ_ _=>rfl)) Y.L.cl R T U S .nil ar) (jt (ap (pv 0) Λ) (pv 1) eK))
  (aj (ay (aD DZ (ap (pv 0) Λ) (pv 1) (λ_ _=>rfl)))),?_⟩
 obtain⟨A,B,Z⟩:=i.υ
 rw[g]at B
 cases B
 obtain⟨v,C,x,D,pa,n,rfl,G,_⟩:=Paired.at2 Z X
 have I:=(gQ0 C)
 refine⟨_,_,_,_,_,Λ,i.ρ,Y.cl,Y.n3,Λ,_,e,_,_,Λ,Λ,DT.of g,aq C,x,D,_,Λ,G.ρ,Λ,x,D,_,_,_,_,n,_,Λ,G,λc J o l j nx p m=>?_⟩
 refine⟨_,_,_,_,_,Λ,j _ _ i.ρ,Y.cl,Y.n3,Λ,_,e,_,k,Λ,Λ,j _ _ g,fK I,?_⟩
 have t:Ee [a.la] H (ο l a.la (.π (e.set k (.ref c)))):=(DP.E8 j).trans (cN (by simp))
 have u:(ο l a.la (.π (e.set k (.ref c)))) a.la=Α (.π (e.set k (.ref c))):=ac
 have M:Em (ο l a.la (.π (e.set k (.ref c)))) ys.Ep c J o d.r d.b d.h n d.qs:=by
  have n1:=aQ m.ρ (j _ _ g) (by intro z;cases z)
  have n2:o≠a.la:=λz=>by rw[z,g]at p;cases p
  exact⟨by rw[ag n1];exact m.ρ,by rw[ag n2];exact m.π,Ei.E8 (ex:=[a.la]) (λb N=>by simp at N;subst N;exact⟨_,j _ _ g⟩) (cN (by simp)) m.Fv⟩
 generalize ο l a.la (.π (e.set k (.ref c)))=O at t u M⊢
 have Xr:=t _ _ (by simp;exact aQ i.ρ g (by intro z;cases z)) i.ρ
 exact⟨_,_,_,_,_,Λ,Xr,Y.cl,Y.n3,Λ,_,_,_,_,Λ,Λ,DT.of u,aq (by simp[I]),q c J o n O t nx p u M⟩
theorem BP:aw ["self","number"] ["self","number"] (am wT):=L2.Eu
theorem zR(F:En K "own_letter" "Yard.own_letter" wT f fd)(Y:jA K ys)(L:cb K ys.DR "twin" ft)(M:Binds K dt ["self"] [])(N:DQ P w K mg μ aF 3 ft dt ["self"] (Bd ys.DR)):
  DQ P w K mg μ aF 4 f fd ["self","number"] (wq K ys):=by
 refine F.ok BP λ_ _ _ s H _ Q E O h=>?_
 obtain⟨a,st,k,t,c,rfl,e,R,d,q⟩:=h
 refine⟨_,ae (gi (cj (aD DZ (ap (pv 0) Λ) (pv 1) (λ_ _=>rfl)) Y.ct L N O M .nil ar) (jt (ap (pv 0) Λ) (pv 1) eK))
  (aj (ay (aD DZ (ap (pv 0) Λ) (pv 1) (λ_ _=>rfl)))),?_⟩
 obtain⟨JC,p,S⟩:=e.χ
 rw[d]at p
 cases p
 obtain⟨v,r,x,u,T,rfl,A,U,_⟩:=Paired.at2 S R
 have B:=(gQ0 r)
 refine⟨_,_,_,_,_,Λ,e.ρ,Y.cl,Y.n4,Λ,_,c,_,_,Λ,Λ,DT.of d,aq r,x,u,_,Λ,A,Λ,x,u,T,t,Λ,A,U,λb C i g j X l D m=>?_⟩
 refine⟨_,_,_,_,_,Λ,j _ _ e.ρ,Y.cl,Y.n4,Λ,_,c,_,k,Λ,Λ,j _ _ d,fK B,?_⟩
 have n:Ee [a.le] H (ο g a.le (.π (c.set k (.ref b)))):=(DP.E8 j).trans (cN (by simp))
 have o:(ο g a.le (.π (c.set k (.ref b)))) a.le=Α (.π (c.set k (.ref b))):=ac
 have Z:=aQ D (j _ _ d) (by intro z;cases z)
 have n2:i≠a.le:=λz=>by rw[z,d]at l;cases l
 have G:(ο g a.le (.π (c.set k (.ref b)))) b=Α (.ρ ys.DR C (su t i)):=by rw[ag Z];exact D
 have I:(ο g a.le (.π (c.set k (.ref b)))) i=Α (.π (nV t.ω)):=by rw[ag n2];exact m
 generalize ο g a.le (.π (c.set k (.ref b)))=J at n o G I⊢
 have Xr:=n _ _ (by simp;exact aQ e.ρ d (by intro z;cases z)) e.ρ
 exact⟨_,_,_,_,_,Λ,Xr,Y.cl,Y.n4,Λ,_,_,_,_,Λ,Λ,DT.of o,aq (by simp[B]),q b C i J n X l o G I⟩
theorem R4:aw ["self","piece","place"] ["self","piece","place"] (am Cf):=L2.Eu
theorem CJ(F:En K "lay" "Yard.lay" Cf f fd)(Y:jA K ys):DQ P w K mg μ aF 1 f fd ["self","piece","place"] (Bf K ys):=by
 refine F.ok R4 λ_ _ _ s H _ Q E hr h=>?_
 obtain⟨a,st,v,S,p,G,rfl,m,I,T,J,q⟩:=h
 refine⟨_,aj (gi (aI zF (aD DZ (ap (pv 0) Λ) (pv 2) (λ_ _=>rfl)) (bM (aa (pv 1) ad))) (jt (ap (pv 0) Λ) (pv 2) eK)),?_⟩
 obtain⟨i,j,U⟩:=m.GO
 obtain⟨v0,n,X,l,rfl,Z,A⟩:=Paired.at2 U T
 have L:=(gQ0 n)
 have Rx:=Paired.length A
 refine⟨_,_,_,_,_,Λ,m.ρ,Y.cl,Y.n5,Λ,_,i,_,_,Λ,Λ,DT.of j,aq n,by show 1<=ό;decide,λt ht=>?_⟩
 have d:=(DP.refl H).new (o:=.tup [v]) ht
 have B:(ο H t (.tup [v])) t=Α (.tup [v]):=ac
 generalize ο H t (.tup [v])=C at d B⊢
 have fin:∀(z:Ν)(g:Hp),DP H g->F6 g (.ref z) (G++[S])->Q .Eh (ο g a.li (.π (i.set p (.ref z)))):=λz g c hz=>by
  have M:Ee [a.li] H (ο g a.li (.π (i.set p (.ref z)))):=(DP.E8 c).trans (cN (by simp))
  refine q _ M (F0.NH m j M ac ?_)
  obtain⟨tz,vz,ez,r,D⟩:=hz
  cases ez
  have nz:=aQ r (c _ _ j) (by intro y;cases y)
  exact⟨z,_,Λ,by rw[ag nz];exact r,Ei.E8 (ex:=[a.li]) (λb N=>by simp at N;subst N;exact⟨_,c _ _ j⟩) (cN (by simp)) D⟩
 refine⟨X,t,l,_,Λ,Λ,Ec.of (d _ _ Z),Ec.of B,by simp,by rw[Ω];simp;omega,λO=>?_,λO x Kg=>?_⟩
 ·subst O
  cases A
  refine⟨_,_,_,_,_,Λ,d _ _ m.ρ,Y.cl,Y.n5,Λ,_,i,_,p,Λ,Λ,d _ _ j,fK L,?_⟩
  exact fin t C d ⟨t,[v],Λ,B,.cons (let ⟨u,e,hu⟩:=I;⟨u,e,d _ _ hu⟩) .nil⟩
 ·have c:=d.new (o:=.tup (l++[v])) Kg
  have R:(ο C x (.tup (l++[v]))) x=Α (.tup (l++[v])):=ac
  generalize ο C x (.tup (l++[v]))=g at c R⊢
  refine⟨_,_,_,_,_,Λ,c _ _ m.ρ,Y.cl,Y.n5,Λ,_,i,_,p,Λ,Λ,c _ _ j,fK L,?_⟩
  exact fin x g c ⟨x,_,Λ,R,Ei.snoc (let ⟨u,e,hu⟩:=I;⟨u,e,c _ _ hu⟩) (Ei.same c A)⟩
theorem R6:aw ["self","place"] ["self","place"] (am rF):=L2.Eu
theorem xG(F:En K "lying" "Yard.lying" rF f fd)(T:eD mg)(Y:jA K ys):DQ P w K mg μ aF 1 f fd ["self","place"] (tD K ys):=by
 refine F.ok R6 λ_ _ _ s H _ Q E u h=>?_
 obtain⟨a,v,p,x,rfl,c,i,q⟩:=h
 refine⟨_,aj (ay (bS cI Λ T.list PySem.Pv.boot_list (aa (aD DZ (ap (pv 0) Λ) (pv 1) (λ_ _=>rfl)) ad))),?_⟩
 obtain⟨j,l,m⟩:=c.GO
 obtain⟨z,b,n,d,rfl,r,t⟩:=Paired.at2 m i
 refine⟨_,_,_,_,_,Λ,c.ρ,Y.cl,Y.n5,Λ,_,j,_,_,Λ,Λ,DT.of l,aq b,n,_,Λ,.inr (Ec.of r),λD e=>?_⟩
 have g:=(DP.refl H).new (o:=.π d) e
 exact q D d _ g e ac (Ei.same g t)
noncomputable def fH(ln:bV)(m c len:Int):bV:={ln with r:=ln.r - 1,h:=if decide (c=len - 1)=Δ then Β else Α m,qs:=ln.qs++[(m,c)]}
noncomputable def c7(s:YS)(m:Nat)(c:Int)(l:Nat)(t:bD)(ln:bV):YS:={s with DO:=if c=0 then s.DO.set m {t with ω:=t.ω++[l]} else s.DO,γ:=s.γ.set l (fH ln m c t.len)}
inductive nQ(K:ϧ)(ys:Ys)(vs:List V)(H:Hp)(Q:VK)(E:XK):Prop
 |mk (a:YA) (s:YS) (v:V) (m:Nat) (c:Int) (l:Nat) (t:bD) (ln:bV) (_:vs=[.ref a.y,v,.int l]) (_:F0 K ys H a s) (_:AS H v ((m:Int),c)) (_:s.DO[m]?=Α t) (_:s.γ[l]?=Α ln) (_:cp ln.r ln.h m c=Δ) (_:t.ω.length<=1000) (_:ln.qs.length<100000) (_:∀H',Ee [a.la,a.le] H H'->F0 K ys H' a (c7 s m c l t ln)->Q .Eh H')
noncomputable def cv(s:YS)(m:Nat)(t:bD):YS:={s with DO:=s.DO.set m {t with δ:=t.δ+1}}
inductive wG(K:ϧ)(ys:Ys)(vs:List V)(H:Hp)(Q:VK)(E:XK):Prop
 |mk (a:YA) (s:YS) (m l:Nat) (t:bD) (ln:bV) (_:vs=[.ref a.y,.int m,.int l]) (_:F0 K ys H a s) (_:s.DO[m]?=Α t) (_:s.γ[l]?=Α ln) (_:cp ln.r ln.h m t.δ=Δ) (_:t.ω.length<=1000) (_:ln.qs.length<100000) (_:∀H',Ee [a.la,a.le] H H'->F0 K ys H' a (c7 (cv s m t) m t.δ l {t with δ:=t.δ+1} ln)->Q .Eh H')
structure Own(P:Program)(w:Î)(K:ϧ)(mg:Str->Option Τ)(μ:Ü)(ys:Ys)(fl ft fp:Ν)(dl dt dp:Ý):Prop where
 ml:cb K ys.DU "own_lane" fl
 bl:Binds K dl ["self","lane"] []
 Gl:DQ P w K mg μ aF 4 fl dl ["self","lane"] (wu K ys)
 mt:cb K ys.DU "own_letter" ft
 bt:Binds K dt ["self","number"] []
 Gt:DQ P w K mg μ aF 4 ft dt ["self","number"] (wq K ys)
 mp:cb K ys.Ep "put" fp
 bp:Binds K dp ["self","letter","count","last"] []
 Gp:DQ P w K mg μ aF 2 fp dp ["self","letter","count","last"] (Ba ys.Ep)
abbrev NEn:List Str:=["self","piece","lane","last"]
abbrev NGi:List Str:=["self","number","lane","letter"]
theorem R7:aw NEn ["self","piece","lane"] (am rN):=L2.Eu
theorem xP(F:En K "enter" "Yard.enter" rN f fd)(Y:jA K ys)(O:Own P w K mg μ ys fl ft fp dl dt dp):
  DQ P w K mg μ aF 5 f fd ["self","piece","lane"] (nQ K ys):=by
 refine F.ok R7 λ_ _ _ s H _ Q E Z h=>?_
 obtain⟨a,n,v,m,c,l,t,ln,rfl,u,⟨pt,rfl,R⟩,hm,hl,EI,HB,hql,q⟩:=h
 have Fn:Ea 2 _:=Z.mono (by decide)
 refine⟨_,ae (tS (aP (az bN (aD DV (pv 1) ao (λ_ _=>rfl)) ao (aC _))
   (aj (aX (cF plainAttrs_list PySem.F.slot_list_append PySem.F.type_list_append bX (ap (aH (pv 0) Y.cl O.mt O.Gt Z O.bt .nil ar (aa (aD DV (pv 1) ao (λ_ _=>rfl)) ad)) Λ) (aa (pv 2) ad)))) aE))
  (ae (aB (i:=3) R7.nd Λ (ύ Λ) (cP bN (aD DV (pv 1) ao (λ_ _=>rfl)) (aI e8 (ap (aD DZ (ap (pv 0) Λ) (aD DV (pv 1) ao (λ_ _=>rfl)) (λ_ _=>rfl)) Λ) ao) (aC _)))
  (aj (aX (aH (aH (pv 0) Y.cl O.ml O.Gl Z O.bl .nil ar (aa (pv 2) ad)) Y.L.cl O.mp O.Gp Fn O.bp .nil ar (aa (aD DV (pv 1) ao (λ_ _=>rfl)) (aa (aD DV (pv 1) ao (λ_ _=>rfl)) (aa (pv 3) ad))))))),?_⟩
 refine⟨λD H'=>D=start NEn [.ref a.y,.ref pt,.int l]/\Ee [a.le] H H'/\∃t1:bD,t1.len=t.len/\F0 K ys H' a {n with DO:=if c=0 then n.DO.set m {t with ω:=t.ω++[l]} else n.DO}/\(if c=0 then n.DO.set m {t with ω:=t.ω++[l]} else n.DO)[m]?=Α t1,?_,?_⟩
 ·refine⟨_,_,1,_,Λ,Λ,Ec.of R,aq (j:=1) Λ,Λ,_,Λ,?_⟩
  rw[bK]
  by_cases A:c=0
  ·rw[Ζ A]
   obtain⟨DX,G,pl⟩:=u.χ
   refine aL ⟨a.y,a.dy,_,Λ,u.ρ,Λ,pt,_,0,_,Λ,Λ,Ec.of R,aq (j:=0) Λ,a,n,m,t,DX,Λ,u,hm,G,λx dx wa S T nx nw g1 I p=>?_⟩
   refine⟨x,_,_,_,_,Λ,I,Y.ct,Y.t6,Λ,.inl ⟨Λ,_,DT.of p⟩,_,_,_,Λ,Λ,p,by rw[aW,Ω];omega,?_⟩
   have nxw:=aQ I p (by intro z;cases z)
   have nlw:=ah G nw
   have J:Ee [a.le] H (ο S wa (.π (nV t.ω++[.int l]))):=λb o nb e=>by rw[ag (ah e nw)];exact T b o nb e
   have Js:=F0.Kq u G J (k:=m) (x:=x) (dx:=dx) (wa:=wa) (by rw[ag nlw];exact g1) (t:={t with ω:=t.ω++[l]}) (by rw[ag nxw];exact I) (by rw[ac,lg];rfl) nw
   have Us:=(gQ0 hm)
   refine⟨Λ,J,{t with ω:=t.ω++[l]},Λ,?_,?_⟩
   ·rw[Ι A];exact Js
   ·rw[Ι A];simp[Us]
  ·rw[Η A]
   refine aJ ⟨Λ,DP.E8 (DP.refl H),t,Λ,?_,?_⟩
   ·rw[Θ A];exact u
   ·rw[Θ A];exact hm
 ·rintro D S ⟨rfl,T,t1,M,C,hm1⟩
  have U:S pt=Α (.tup [.int m,.int c]):=by
   obtain⟨DX,G,_⟩:=u.χ
   exact T _ _ (by simp;exact aQ R G (by intro z;cases z)) R
  obtain⟨Xs,Xt,Xu⟩:=C.χ
  obtain⟨v1,hv1,x1,dx1,wa1,rfl,I,_⟩:=Paired.at2 Xu hm1
  refine⟨_,_,1,_,Λ,Λ,Ec.of U,aq (j:=1) Λ,_,_,_,_,_,Λ,C.ρ,Y.cl,Y.n4,Λ,_,_,0,_,Λ,Λ,Ec.of U,aq (j:=0) Λ,_,_,_,_,Λ,Λ,DT.of Xt,aq hv1,_,_,_,_,_,Λ,I,Y.ct,Y.t3,Λ,_,_,Λ,Λ,Λ,?_⟩
  obtain⟨Ed,N,JL⟩:=C.υ
  refine⟨_,_,_,Λ,C.ρ,Λ,a,_,l,_,_,Λ,C,hl,N,λx dx pa Es H2 J nx np g2 FV=>?_⟩
  have Kt:=J _ _ (by simp;exact aQ U N (by intro z;cases z)) U
  have FH:=Paired.length FV.Fv
  refine⟨x,_,_,Λ,FV.ρ,Λ,_,_,0,_,Λ,Λ,Ec.of Kt,aq (j:=0) Λ,_,_,1,_,Λ,Λ,Ec.of Kt,aq (j:=1) Λ,x,_,_,_,_,_,_,_,_,c,decide (c=t.len - 1),?_,FV,by omega,(λho=>by rw[EI]at ho;cases ho),λ_ t3 H3 o3 G7=>?_⟩
  ·rw[bK,M];rfl
  have nxl:=ah N nx
  have npl:=ah N np
  have o4:Ee [a.la] S H3:=λb o nb e=>o3 b o (ah e nx) (ah e np) (J b o nb e)
  have GP:=F0.HQ C N o4 (k:=l) (x:=x) (dx:=dx) (pa:=pa) (o3 _ _ nxl npl g2) (ln:=fH ln m c t.len) G7 np
  exact q H3 ((T.mono (by simp)).trans (o4.mono (by simp))) GP
theorem R8:aw NGi ["self","number","lane"] (am xi):=L2.Eu
theorem Ad(F:En K "go_in" "Yard.go_in" xi f fd)(Y:jA K ys)(O:Own P w K mg μ ys fl ft fp dl dt dp)(S:cb K ys.DU "enter" fe)(T:Binds K de ["self","piece","lane"] [])(U:DQ P w K mg μ aF 5 fe de ["self","piece","lane"] (nQ K ys)):
  DQ P w K mg μ aF 6 f fd ["self","number","lane"] (wG K ys):=by
 refine F.ok R8 λ_ _ _ s H _ Q E L h=>?_
 obtain⟨a,p,m,l,t,X,rfl,n,M,Z,EI,HB,r,q⟩:=h
 have HX:Ea 4 _:=L.mono (by decide)
 refine⟨_,ae (aB (i:=3) R8.nd Λ (ύ Λ) (aH (pv 0) Y.cl O.mt O.Gt HX O.bt .nil ar (aa (pv 1) ad)))
  (ae (eL (pv 3) ao oF)
  (aj (aX (aH (pv 0) Y.cl S U L T .nil ar (aa (bM (aa (pv 1) (aa (aI e8 (ap (pv 3) Λ) ao) ad))) (aa (pv 2) ad)))))),?_⟩
 obtain⟨DX,u,pl⟩:=n.χ
 refine⟨_,_,_,Λ,n.ρ,Λ,a,p,m,t,_,Λ,n,M,u,λx dx wa v o1 N nw g1 A j=>?_⟩
 refine⟨x,_,_,_,_,Λ,A,Y.ct,Y.t5,Λ,_,_,Λ,Λ,_,_,A,by show 6<1000;decide,?_⟩
 have B:=ah u N
 have Ls:=aQ j A (by intro z;cases z)
 have C:Ee [a.le] H (ο v x (.ρ ys.DR dx (aS "gone" (.int (t.δ+1)) (su t wa)))):=λb o nb e=>by rw[ag (ah e N)];exact o1 b o nb e
 have D:(ο v x (.ρ ys.DR dx (aS "gone" (.int (t.δ+1)) (su t wa)))) x=Α (.ρ ys.DR dx (su {t with δ:=t.δ+1} wa)):=ac
 have G:=F0.Kq n u C (k:=m) (x:=x) (dx:=dx) (wa:=wa) (by rw[ag B];exact g1) (t:={t with δ:=t.δ+1}) D (by rw[ag Ls];exact j) nw
 generalize ο v x (.ρ ys.DR dx (aS "gone" (.int (t.δ+1)) (su t wa)))=I at C D G⊢
 refine⟨_,_,_,Λ,G.ρ,Λ,x,_,_,_,_,Λ,D,Y.ct,Y.t5,Λ,_,_,Λ,Λ,by show 2<=ό;decide,λpt Iv=>?_⟩
 have eg:t.δ+1 - 1=t.δ:=by omega
 have J:=(DP.refl I).new (o:=.tup [.int m,.int t.δ]) Iv
 have R:(ο I pt (.tup [.int m,.int t.δ])) pt=Α (.tup [.int m,.int t.δ]):=ac
 dsimp only
 rw[eg]
 generalize ο I pt (.tup [.int m,.int t.δ])=H3 at J R⊢
 have Us:=(gQ0 M)
 refine⟨a,cv p m t,_,m,_,l,{t with δ:=t.δ+1},X,Λ,Eg.same G J,⟨pt,Λ,R⟩,by unfold cv;simp[Us],Z,EI,HB,r,λH' o' NJ=>?_⟩
 exact q H' ((C.mono (by simp)).trans ((DP.E8 J).trans o')) NJ
theorem Ds(us:List Nat)(i:Nat):oS (nV us) Β (Α (i:Int))=nV (us.take i):=by
 unfold oS
 have b:HT.Hm (nV us).length 0 Β=0:=rfl
 rw[b,show HT.Hm (nV us).length (nV us).length (Α (i:Int))=min i (nV us).length from HT.HA _ _ i,List.drop_zero,Nat.sub_zero]
 unfold nV
 rw[List.map_take,ϊ]
 refine Wn λj=>?_
 simp only[List.getElem?_take,Å]
 by_cases a:j<i
 ·by_cases c:j<us.length
  ·rw[Ι (by omega),Ι a]
  ·rw[Θ (by omega),Ι a,Ā (æ ‹_›)];rfl
 ·rw[Θ (by omega),Θ a]
theorem AF(us:List Nat)(i:Nat):oS (nV us) (Α (i:Int)) (Α ((i:Int)+1))=nV ((us.drop i).take 1):=by
 unfold oS
 rw[show HT.Hm (nV us).length 0 (Α (i:Int))=min i (nV us).length from HT.HA _ _ i,show((i:Int)+1)=((i+1:Nat):Int) by omega,show HT.Hm (nV us).length (nV us).length (Α ((i+1:Nat):Int))=min (i+1) (nV us).length from HT.HA _ _ (i+1),aW]
 by_cases h:i<us.length
 ·rw[Nat.min_eq_left (‹_›),Nat.min_eq_left (ê ‹_›),show i+1 - i=1 by omega]
  unfold nV
  rw[List.map_take,List.map_drop]
 ·rw[Nat.min_eq_right (by omega),Nat.min_eq_right (æ ‹_›),Nat.sub_self,take_zero,List.drop_eq_nil_of_le (æ ‹_›)];rfl
theorem ug(us:List Nat):nV us=(iz us).map V.int:=(yn us).symm
theorem yo(k:Nat):∀us:List Nat,(iz us).idxOf (k:Int)=us.idxOf k
 |[]=>rfl
 | u:: us=>by
  have a:=yo k us
  unfold iz at a⊢
  rw[Ϭ,List.idxOf_cons,List.idxOf_cons,a]
  by_cases h:u=k
  ·subst h;simp
  ·have b:((u:Int) == (k:Int))=Ε:=by simp;exact mt Ä ‹_›
   have c:(u == k)=Ε:=by simp;exact h
   rw[b,c]
inductive Mv
 |FD (k l:Nat)|on (k l:Nat)|F7 (k:Nat)|back (k:Nat)
noncomputable def eO:Mv->List V
 |.FD k l=>[.str "in",.int k,.int l]
 |.on k l=>[.str "on",.int k,.int l]
 |.F7 k=>[.str "lie",.int k]
 |.back k=>[.str "back",.int k]
noncomputable def cU(s:YS)(l:Nat)(m c:Int):Bool:=match s.γ[l]? with
 |some ln=>cp ln.r ln.h m c
 |none=>Ε
noncomputable def bB(s:YS)(k:Nat):Option (Int×Int):=match s.γ[k]? with
 |some ln=>ln.qs.head?
 |none=>Β
noncomputable def jF(a:YA)(l g:Nat):List Nat:=if (a.ps.getD l (0,0)).2=(g:Int) then [] else a.wy (a.ps.getD l (0,0)).2.toNat g (Α l)
noncomputable def ci(a:YA)(s:YS)(k:Nat):List Nat:=match bB s k with
 |none=>[]
 | some q=>match s.DO[q.1.toNat]? with
  |none=>[]
  |some t=>if q.2=0 then (jF a k t.ι.toNat).filter λl=>!decide (l∈t.ω) else (t.ω.drop (t.ω.idxOf k+1)).take 1
noncomputable def cn(a:YA)(t:bD):List Nat:=if t.δ=0 then a.wy t.start.toNat t.ι.toNat Β else t.ω.take 1
noncomputable def iX(a:YA)(s:YS)(k:Nat):List Mv:=match s.DO[k]? with
 |none=>[]
 |some t=>if t.δ=t.len then [] else ((cn a t).filter λl=>cU s l k t.δ).map (Mv.FD k)
noncomputable def j0(a:YA)(s:YS)(k:Nat):List Mv:=match bB s k with
 |none=>[]
 |some q=>((ci a s k).filter λl=>cU s l q.1 q.2).map (Mv.on k)
noncomputable def fS(a:YA)(s:YS)(k:Nat):List Mv:=match bB s k with
 |none=>[]
 | some q=>match s.DO[q.1.toNat]? with
  |none=>[]
  |some t=>if t.ι=(a.ps.getD k (0,0)).2 then [.F7 k] else []
noncomputable def dI(s:YS)(k:Nat):List Mv:=match s.γ[k]? with
 |some ln=>if 0<ln.b then [.back k] else []
 |none=>[]
structure yM(a:YA):Prop where
 ends:∀(l:Nat)(pr:Int×Int),a.ps[l]?=Α pr->∃e:Nat,pr.2=(e:Int)/\e<a.n
 EH:∀p g k,(a.wy p g k).length<=400
structure Xv(a:YA)(s:YS):Prop where
 γ:s.γ.length=a.ps.length
 ε:s.ε.length=a.n
 lets:∀(m:Nat)(t:bD),s.DO[m]?=Α t->∃x y:Nat,t.start=(x:Int)/\t.ι=(y:Int)/\x<a.n/\y<a.n
 EG:∀(m:Nat)(t:bD),s.DO[m]?=Α t->(∀l∈t.ω,l<a.ps.length)/\t.ω.length<=1000
 Fv:∀(k:Nat)(ln:bV),s.γ[k]?=Α ln->∀q∈ln.qs,∃(m:Nat)(t:bD),q.1=(m:Int)/\s.DO[m]?=Α t/\k∈t.ω
 EH:s.DO.length<=60
structure JM(K:ϧ)(c:Cs)(TC:Ν)(J:TJ)(ys:Ys)(H:Hp)(a:YA)(s:YS):Prop where
 Y:F0 K ys H a s
 T:Rz c TC J H a
 O:yM a
 G:Xv a s
theorem JM.same(W:Wy K TC fw dw J)(h:JM K c TC J ys H a s)(e:DP H H'):JM K c TC J ys H' a s:=⟨Eg.same h.Y e,F5.keep W h.T (DP.Er e),h.O,h.G⟩
inductive tw(K:ϧ)(c:Cs)(TC:Ν)(J:TJ)(ys:Ys)(f:YA->YS->Nat->List Mv)(len:YS->Nat)(vs:List V)(H:Hp)(Q:VK)(E:XK):Prop
 |mk (a:YA) (s:YS) (k:Nat) (_:vs=[.ref a.y,.int k]) (_:JM K c TC J ys H a s) (_:k<len s) (_:∀(D:Ν)(E2:List V)(H':Hp),DP H H'->H D=Β->H' D=Α (.π E2)->Paired (FJ H') E2 ((f a s k).map eO)->Q (.ref D) H')
def r6(K:ϧ)(c:Cs)(TC:Ν)(J:TJ)(ys:Ys):Sp:=tw K c TC J ys iX (λs=>s.DO.length)
def rq(K:ϧ)(c:Cs)(TC:Ν)(J:TJ)(ys:Ys):Sp:=tw K c TC J ys j0 (λs=>s.γ.length)
def t7(K:ϧ)(c:Cs)(TC:Ν)(J:TJ)(ys:Ys):Sp:=tw K c TC J ys fS (λs=>s.γ.length)
def kI(K:ϧ)(c:Cs)(TC:Ν)(J:TJ)(ys:Ys):Sp:=tw K c TC J ys (λ_ s k=>dI s k) (λs=>s.γ.length)
inductive kH(K:ϧ)(c:Cs)(TC:Ν)(J:TJ)(ys:Ys)(vs:List V)(H:Hp)(Q:VK)(E:XK):Prop
 |mk (a:YA) (s:YS) (k:Nat) (_:vs=[.ref a.y,.int k]) (_:JM K c TC J ys H a s) (_:k<s.γ.length) (_:∀(D:Ν)(H':Hp),DP H H'->H D=Β->H' D=Α (.π (nV (ci a s k)))->Q (.ref D) H')
inductive tu(c:Cs)(C:Ν)(J:TJ)(vs:List V)(H:Hp)(Q:VK)(E:XK):Prop
 |mk (a:YA) (l g:Nat) (_:vs=[.ref a.tb,.int l,.int g]) (_:Rz c C J H a) (_:yM a) (_:l<a.ps.length) (_:g<a.n) (_:∀(D:Ν)(H':Hp),DP H H'->H D=Β->H' D=Α (.π (nV (jF a l g)))->Q (.ref D) H')
theorem oU(b:Nat->Bool)(f:Nat->Mv)(C:us.length<ό)(q:H p=Α (.π (nV us)))
  (E:∀(u:Nat)(a:Hp)(acc:List V)(N:List V->Hp->Prop),u∈us->DP H a->(b u=Δ->∀v c,DP a c->FJ c v (eO (f u))->N (acc++[v]) c)->(b u=Ε->N acc a)->
   g (.int u) σ0 a λj c=>tt j c λb r=>if b=Δ then te j r λy m=>N (acc++[y]) m else N acc r)
  (F:∀D x a,DP H a->a D=Β->Paired (FJ a) x (((us.filter b).map f).map eO)->Q (.ref D) (ο a D (.π x))):dM (vJ K p) g tt te σ0 Q H:=by
 refine bQ us.length C (λi acc d=>DP H d/\Paired (FJ d) acc ((((us.take i).filter b).map f).map eO)) ⟨DP.refl _,.nil⟩ (λi acc d h=>by
   rw[Paired.length h.2,ϊ,ϊ]
   have J:=Æ b (us.take i)
   have L:=ć i us
   exact À ‹_› ‹_›) (λi acc d A h=>?_) (λacc d h=>?_)
 ·obtain⟨s,l⟩:=h
  have n:=Μ A
  refine⟨⟨_,_,DT.of (s _ _ q),dH n⟩,λv c y=>?_⟩
  obtain⟨rfl,y⟩:=y
  have o:=y _ (DT.of (s _ _ q))
  rw[dH n]at o
  cases o
  refine E us[i] c acc (λG m=>DP H m/\Paired (FJ m) G ((((us.take (i+1)).filter b).map f).map eO)) (ă A) s (λt v r B o=>⟨s.trans B,?_⟩) (λt=>⟨s,?_⟩)
  ·rw[ä,n,ë]
   have e:(Α us[i]).toList.filter b=[us[i]]:=by simp[t]
   rw[e,Ì,Ì]
   exact Paired.snoc o (Paired.mono (λ_ _ z=>z.keep (DP.Er B)) l)
  ·rw[ä,n,ë]
   have e:(Α us[i]).toList.filter b=[]:=by simp[t]
   rw[e,ĕ]
   exact l
 ·obtain⟨s,l⟩:=h
  rw[â]at l
  exact⟨⟨_,DT.of (s _ _ q),by rw[aW];exact Ρ _⟩,λD I=>F D acc d s I l⟩
noncomputable def Cn(s:Ç):Scope:=match s with
 |.Return (Α (.ListComp _ _ sc _)) _=>sc
 |_=>zQ0
noncomputable def Dg(s:Ç):Scope:=match s with
 |.If _ [s'] _ _=>Cn s'
 |_=>zQ0
abbrev NMi:List Str:=["self","number","letter","wanted"]
abbrev NWa:List Str:=["self","lane","piece","letter","behind"]
abbrev NMo:List Str:=["self","lane","piece","wanted"]
theorem NK:aw NMi ["self","number"] (am pB):=L2.Eu
theorem Xw:ES NMi (am pB) (Cn ((aK pB).getD 3 (.Pass ⟨0,0,0,0⟩))) ["self","number","letter"] [0,1,2]:=L2.FC
theorem Xx:(["lane","self","number","letter"]:List Str).Nodup:=by decide +kernel
theorem zW(F:En K "moves_in" "Yard.moves_in" pB f fd)(Y:jA K ys)(W:Wy K TC fw dw J)(Kp:DQ P w K mg μ aF 3 fw dw ["self","place","goal","came"] (eZ J))
  (mo:cb K ys.Ep "open_to" fo) (bo:Binds K GB ["self","letter","count"] []) (Go:DQ P w K mg μ aF 1 fo GB ["self","letter","count"] (nN ys.Ep)):
  DQ P w K mg μ aF 4 f fd ["self","number"] (r6 K c TC J ys):=by
 refine F.ok NK λ_ _ _ s H _ Q E hr h=>?_
 obtain⟨a,I,k,rfl,e,hk,q⟩:=h
 have Ex:Ea 1 _:=hr.mono (by decide)
 refine⟨_,ae (aB (i:=2) NK.nd Λ (Ĥ Λ) (aD DZ (ap (pv 0) Λ) (pv 1) (λ_ _=>rfl)))
  (ae (aP (az bN (ap (pv 2) Λ) (ap (pv 2) Λ) (aC _)) (aj (ay (aU ad))) aE)
  (ae (aB (i:=3) NK.nd Λ (ύ Λ) (tV (cQ (az bN (ap (pv 2) Λ) ao (aC _)) (aH (ap (pv 0) Λ) W.cl W.m Kp hr W.b .nil ar (aa (ap (pv 2) Λ) (aa (ap (pv 2) Λ) (aa b9 ad)))) (pM tO (ap (pv 2) Λ) zy (oq ao)))))
  (aj (ay (bv (own:=["lane"]) (capN:=["self","number","letter"]) (cap:=[0,1,2]) Xw Λ (aR (pv 3)) (λC s' H' fp=>⟨ax (i:=0) Xx Λ (ύ Λ),bY (bA (aH (aD (show G0 _ (rS K) from DZ) (show PE _ _ (rh K (pj 1) "lanes") from ap (pv 1) Λ) (pv 0) (λ_ _=>rfl)) Y.L.cl mo Go Ex bo .nil ar (aa (pv 2) (aa (show PE _ _ (rh K (pj 3) "gone") from ap (pv 3) Λ) ad)))),bM (aa cx (aa (pv 2) (aa (pv 0) ad)))⟩)))))),?_⟩
 have Z:=e.Y
 obtain⟨DX,Fm,pl⟩:=Z.χ
 obtain⟨t,ht⟩:∃t,I.DO[k]?=Α t:=⟨_,Μ hk⟩
 obtain⟨v,hv,x,o,wa,rfl,p,hw,_⟩:=Paired.at2 pl ht
 obtain⟨x0,y0,e1,e2,O7,OQ⟩:=e.G.lets k t ht
 obtain⟨HB,hw9⟩:=e.G.EG k t ht
 unfold iX at q
 rw[ht]at q
 refine⟨_,_,_,_,_,Λ,Z.ρ,Y.cl,Y.n4,Λ,_,_,_,_,Λ,Λ,DT.of Fm,aq hv,x,_,o,_,_,Λ,p,Y.ct,Y.t5,Λ,x,_,o,_,_,Λ,p,Y.ct,Y.t3,Λ,Λ,_,Λ,?_⟩
 rw[bK]
 by_cases S:t.δ=t.len
 ·rw[Ζ S]
  dsimp only at q
  rw[Ι S]at q
  exact aL ⟨Ϧ _,λD M=>q D [] _ ((DP.refl H).new M) M ac .nil⟩
 rw[Η S]
 dsimp only at q
 rw[Θ S]at q
 refine aJ ⟨λv U=>∃D,v=.ref D/\DP H U/\U D=Α (.π (nV (cn a t))),?_,?_⟩
 ·refine⟨x,_,o,_,_,Λ,p,Y.ct,Y.t5,Λ,Λ,_,Λ,?_⟩
  rw[bK]
  unfold cn
  by_cases d:t.δ=0
  ·rw[Ζ d,Ι d]
   obtain⟨IG,fst,HJ,EK,FK⟩:=e.T.i
   refine aL ⟨a.y,ys.DU,a.dy,_,_,Λ,Z.ρ,Y.cl,Y.n1,Λ,a.tb,IG,fst,Λ,HJ,FK,x,ys.DR,o,_,_,Λ,p,Y.ct,Y.t1,Λ,x,ys.DR,o,_,_,Λ,p,Y.ct,Y.t2,Λ,?_⟩
   rw[e1,e2,Υ,Υ]
   exact⟨_,_,_,_,_,_,Λ,e.T.j,O7,OQ,λD U B M X=>⟨D,Λ,B,X⟩⟩
  ·rw[Η d,Θ d]
   refine aJ ⟨x,ys.DR,o,_,_,Λ,p,Y.ct,Y.t6,Λ,_,Λ,wa,_,Λ,DT.of hw,λD M=>⟨D,Λ,(DP.refl H).new M,?_⟩⟩
   rw[ac,show((1:Int))=((1:Nat):Int) from Λ,Ds]
 rintro v U ⟨D,rfl,B,X⟩
 have II:=e.same W B
 have Hs:=II.Y
 have F9:=B _ _ p
 obtain⟨Ed,EU,JL⟩:=Hs.υ
 have Ln:(cn a t).length<=1000:=by
  unfold cn
  by_cases d:t.δ=0
  ·rw[Ι d];exact À (e.O.EH _ _ _) (by decide)
  ·rw[Θ d];rw[Š];omega
 have Jb:∀u∈cn a t,u<a.ps.length:=λu A=>by
  unfold cn at A
  by_cases d:t.δ=0
  ·rw[Ι d,e1,e2,Υ,Υ]at A;exact e.T.ok _ _ _ O7 OQ u A
  ·rw[Θ d]at A;exact HB u (Ŧ A)
 refine⟨D,Λ,⟨_,DT.of X⟩,?_⟩
 refine oU (λl=>cU I l k t.δ) (Mv.FD k) (by rw[Ω];omega) X (λu H2 acc N A R L4 KD=>?_) (λD2 Mg H2 R Hr hp=>?_)
 ·have Iw:=II.same W R
  obtain⟨NM,NN,NO⟩:=Iw.Y.υ
  have MG:u<I.γ.length:=by rw[e.G.γ];exact Jb u A
  obtain⟨g,El⟩:∃g,I.γ[u]?=Α g:=⟨_,Μ MG⟩
  obtain⟨vl,IE,xl,GI,MH,NP,rfl,hL,_⟩:=Paired.at2 NO El
  refine⟨_,_,_,_,_,Λ,Iw.Y.ρ,Y.cl,Y.n3,Λ,_,_,_,_,Λ,Λ,DT.of NN,aq IE,_,_,_,Λ,hL.ρ,Λ,x,_,o,_,_,Λ,R _ _ F9,Y.ct,Y.t5,Λ,_,_,_,_,_,_,_,_,Λ,hL.ρ,_,Λ,?_⟩
  have eo:cU I u k t.δ=cp g.r g.h k t.δ:=by unfold cU;rw[El]
  cases ho:cp g.r g.h k t.δ with
  |false=>exact aJ (KD (by rw[eo,ho]))
  |true=>exact aL ⟨by show 3<=ό;decide,λz hz=>L4 (by rw[eo,ho]) _ _ ((DP.refl H2).new hz) ⟨z,Λ,ac⟩⟩
 ·exact q D2 Mg _ ((B.trans R).new Hr) (B.free (R.free Hr)) ac (Paired.mono (λ_ _ z=>z.keep (DP.Er ((DP.refl H2).new Hr))) hp)
theorem l6(h:Ei H Es qs):(qs.head?=Β/\sJ Es=.Eh)∨∃q pt,qs.head?=Α q/\sJ Es=.ref pt/\H pt=Α (.tup [.int q.1,.int q.2]):=by
 cases h with
 |nil=>exact .inl ⟨Λ,Λ⟩
 |cons x r=>obtain⟨t,rfl,a⟩:=x;exact .inr ⟨_,t,Λ,Λ,a⟩
theorem L5:aw ["table","lane","goal","end"] ["table","lane","goal"] (am Uh):=L2.Eu
theorem CA(F:En K "onward" "onward" Uh f fd)(L:kC K c)(W:Wy K C fw dw J)(x:DQ P w K mg μ aF 3 fw dw ["self","place","goal","came"] (eZ J))
  (M:qT K c fe de) (y:DQ P w K mg μ aF 1 fe de ["self","lane"] (pz c Ï)):DQ P w K mg μ aF 4 f fd ["table","lane","goal"] (tu c C J):=by
 refine F.ok L5 λ_ _ _ s H _ Q E t h=>?_
 obtain⟨a,l,g,rfl,d,z,A,B,q⟩:=h
 have G:Ea 1 _:=t.mono (by decide)
 refine⟨_,ae (aB (i:=3) L5.nd Λ (ύ Λ) (aH (ap (pv 0) Λ) L.cl M.m y G M.b .nil ar (aa (pv 1) ad)))
  (aj (ay (cQ (az bN (pv 3) (pv 2) (aC _)) (aU ad) (aH (pv 0) W.cl W.m x t W.b .nil ar (aa (pv 3) (aa (pv 2) (aa (pv 1) ad))))))),?_⟩
 obtain⟨u,fs,v,I,N⟩:=d.i
 have r:=Μ A
 have O:a.ps.getD l (0,0)=a.ps[l]:=by rw[Χ,r];rfl
 unfold jF at q
 rw[O]at q
 obtain⟨e,ee,R⟩:=z.ends l _ r
 refine⟨_,C,u,_,_,Λ,v,W.cl,W.nl,I,_,_,_,Λ,d.l.1,Λ,_,_,_,_,_,_,l,_,Λ,d.l,r,?_⟩
 rw[ee]at q⊢
 rw[Υ]at q
 refine⟨Λ,_,Λ,?_⟩
 rw[bK]
 by_cases o:(e:Int)=(g:Int)
 ·rw[Ζ o]
  rw[Ι o]at q
  exact aL ⟨Ϧ _,λD p=>q D _ ((DP.refl H).new p) p ac⟩
 ·rw[Η o]
  rw[Θ o]at q
  exact aJ ⟨a.tb,u,fs,Λ,v,N,a.tb,a.n,a.wy,e,g,Α l,Λ,d.j,R,B,λD U S p T=>q D _ S p T⟩
theorem L6:aw NWa ["self","lane"] (am iP):=L2.Eu
theorem Xy:ES NWa (am iP) (Dg ((aK iP).getD 3 (.Pass ⟨0,0,0,0⟩))) ["letter"] [3]:=L2.FC
theorem Xz:(["way","letter"]:List Str).Nodup:=by decide +kernel
theorem uY(F:En K "wanted" "Yard.wanted" iP f fd)(Y:jA K ys)(W:Wy K TC fw dw J)
  (mf:cb K ys.Ep "front" ff) (bf:Binds K df ["self"] []) (Gf:DQ P w K mg μ aF 1 ff df ["self"] (jP ys.Ep))
  (mo:mg "onward"=Α (.ref fo)) (ko:Ϯ K (.ref fo)=Δ) (bo:Binds K GB ["table","lane","goal"] []) (Go:DQ P w K mg μ aF 4 fo GB ["table","lane","goal"] (tu c TC J)):
  DQ P w K mg μ aF 5 f fd ["self","lane"] (kH K c TC J ys):=by
 refine F.ok L6 λ_ _ _ s H _ Q E hr h=>?_
 obtain⟨a,st,k,rfl,d,hk,q⟩:=h
 have Ex:Ea 1 _:=hr.mono (by decide)
 refine⟨_,ae (aB (i:=2) L6.nd Λ (ύ Λ) (cj (aD DZ (ap (pv 0) Λ) (pv 1) (λ_ _=>rfl)) Y.L.cl mf Gf Ex bf .nil ar))
  (ae (aP (az jw (pv 2) b9 (aC _)) (aj (ay (aU ad))) aE)
  (ae (aB (i:=3) L6.nd Λ (Ĥ Λ) (aD DZ (ap (pv 0) Λ) (aD DV (pv 2) ao (λ_ _=>rfl)) (λ_ _=>rfl)))
  (ae (aP (az bN (aD DV (pv 2) ao (λ_ _=>rfl)) ao (aC _))
   (aj (ay (bv (own:=["way"]) (capN:=["letter"]) (cap:=[3]) Xy Λ (aR (au Go hr Λ mo ko bo .nil ar (aa (ap (pv 0) Λ) (aa (pv 1) (aa (ap (pv 3) Λ) ad))))) (λC s' H' fp=>⟨ax (i:=0) Xz Λ (ύ Λ),bY (az (show eU _ (compareOp .NotIn) (TK K Δ) from ow) (pv 0) (show PE _ _ (rh K (pj 1) "way") from ap (pv 1) Λ) (by with_unfolding_all rfl)),pv 0⟩)))) aE)
  (ae (aB (i:=4) L6.nd Λ (ύ Λ) (aI c6 (cF plainAttrs_list PySem.F.slot_list_index PySem.F.type_list_index vd (ap (pv 3) Λ) (aa (pv 1) ad)) ao))
  (aj (ay (pM tO (ap (pv 3) Λ) (oq (pv 4)) (oq (aI c6 (pv 4) ao))))))))),?_⟩
 have o:=d.Y
 obtain⟨Ed,EU,JL⟩:=o.υ
 obtain⟨g,El⟩:∃g,st.γ[k]?=Α g:=⟨_,Μ hk⟩
 obtain⟨vl,IE,xl,GI,MH,NP,rfl,X,_⟩:=Paired.at2 JL El
 refine⟨_,_,_,_,_,Λ,o.ρ,Y.cl,Y.n3,Λ,_,_,_,_,Λ,Λ,DT.of EU,aq IE,_,_,_,Λ,X.ρ,Λ,_,_,_,_,_,_,_,_,Λ,X,?_⟩
 unfold ci bB at q
 rw[El]at q
 dsimp only at q
 rcases l6 X.Fv with ⟨A,Z⟩|⟨pq,pt,A,Z,Iv⟩
 ·rw[A]at q
  rw[Z]
  exact⟨Λ,_,Λ,aL ⟨Ϧ _,λD n=>q D _ ((DP.refl H).new n) n ac⟩⟩
 rw[A]at q
 rw[Z]
 have Ut:=ċ A
 obtain⟨m,t,em,B,Jc⟩:=d.G.Fv k g El pq Ut
 obtain⟨x0,p,e1,e2,O7,OQ⟩:=d.G.lets m t B
 obtain⟨HB,hw9⟩:=d.G.EG m t B
 rw[em]at Iv
 dsimp only at q
 rw[em,Υ,B]at q
 dsimp only at q
 refine⟨Λ,_,Λ,aJ ?_⟩
 obtain⟨DX,Fm,pl⟩:=o.χ
 obtain⟨v,hv,x,I,wa,rfl,M,R,_⟩:=Paired.at2 pl B
 refine⟨_,_,_,_,_,Λ,o.ρ,Y.cl,Y.n4,Λ,_,_,0,_,Λ,Λ,Ec.of Iv,aq (j:=0) Λ,_,_,_,_,Λ,Λ,DT.of Fm,aq hv,_,_,1,_,Λ,Λ,Ec.of Iv,aq (j:=1) Λ,Λ,_,Λ,?_⟩
 rw[bK]
 by_cases S:pq.2=0
 ·rw[Ζ S]
  rw[Ι S,e2,Υ]at q
  refine aL ⟨a.y,ys.DU,a.dy,_,_,Λ,o.ρ,Y.cl,Y.n1,Λ,x,ys.DR,I,_,_,Λ,M,Y.ct,Y.t2,Λ,?_⟩
  rw[e2]
  refine⟨a,k,p,Λ,d.T,d.O,by rw[←d.G.γ];exact hk,OQ,λD H1 U n gD=>⟨D,Λ,⟨_,DT.of gD⟩,?_⟩⟩
  have Nq:(jF a k p).length<=400:=by
   unfold jF
   by_cases z:(a.ps.getD k (0,0)).2=(p:Int)
   ·rw[Ι z];exact Ϧ _
   ·rw[Θ z];exact d.O.EH _ _ _
  refine gK (λv=>match v with|.int i=>!decide (i∈iz t.ω)|_=>Ε) (λv=>v) (by rw[aW,Ω];omega) (DT.of gD) (λy acc N hy h=>?_) (λD2 Hr=>?_)
  ·obtain⟨u,hu,rfl⟩:=jz hy
   refine⟨x,_,I,_,_,Λ,U _ _ M,Y.ct,Y.t6,Λ,_,_,Λ,.inl (DT.of (U _ _ R)),Λ,by rw[ug];exact hZ _,_,Λ,?_⟩
   rw[ug,kd]
   have h:N (if (!decide ((u:Int)∈iz t.ω))=Δ then acc++[V.int u] else acc) H1:=h
   cases hb:decide ((u:Int)∈iz t.ω) with
   | true =>
    rw[hb]at h
    exact aJ h
   | false =>
    rw[hb]at h
    exact aL (h)
  ·have e:((nV (jF a k p)).filter (λv=>match v with|.int i=>!decide (i∈iz t.ω)|_=>Ε)).map (λv=>v)=nV ((jF a k p).filter λl=>!decide (l∈t.ω)):=by
    rw[List.map_id']
    unfold nV
    rw[List.filter_map]
    congr 1
    refine Wc λu _=>?_
    show(!decide ((u:Int)∈iz t.ω))=_
    rw[sC]
   rw[e]
   exact q D2 _ (U.new Hr) (U.free Hr) ac
 ·rw[Η S]
  rw[Θ S]at q
  refine aJ ⟨x,ys.DR,I,_,_,Λ,M,Y.ct,Y.t6,Λ,.inl ⟨Λ,_,DT.of R⟩,wa,iz t.ω,(k:Int),Λ,Λ,by rw[←ug];exact R,ER.mpr ⟨k,Jc,Λ⟩,by unfold iz;rw[ϊ];omega,_,_,Λ,Λ,?_⟩
  rw[yo]
  refine⟨x,_,I,_,_,Λ,M,Y.ct,Y.t6,Λ,_,Λ,_,_,Λ,Λ,_,Λ,_,_,Λ,DT.of R,λD n=>?_⟩
  have e:oS (nV t.ω) (Α (((t.ω.idxOf k:Nat):Int)+1)) (Α (((t.ω.idxOf k:Nat):Int)+1+1))=nV ((t.ω.drop (t.ω.idxOf k+1)).take 1):=by
   have:=AF t.ω (t.ω.idxOf k+1)
   rw[←this]
   rfl
  dsimp only
  rw[e]
  exact q D _ ((DP.refl H).new n) n ac
theorem NQ:aw NMo ["self","lane"] (am pA):=L2.Eu
theorem X0:ES NMo (am pA) (Cn ((aK pA).getD 2 (.Pass ⟨0,0,0,0⟩))) ["self","lane","piece"] [0,1,2]:=L2.FC
theorem X1:(["other","self","lane","piece"]:List Str).Nodup:=by decide +kernel
theorem zV(F:En K "moves_on" "Yard.moves_on" pA f fd)(Y:jA K ys)(W:Wy K TC fw dw J)
  (mf:cb K ys.Ep "front" ff) (bf:Binds K df ["self"] []) (Gf:DQ P w K mg μ aF 1 ff df ["self"] (jP ys.Ep))
  (ma:cb K ys.DU "wanted" fa) (ba:Binds K da ["self","lane"] []) (Ga:DQ P w K mg μ aF 5 fa da ["self","lane"] (kH K c TC J ys))
  (mo:cb K ys.Ep "open_to" fo) (bo:Binds K GB ["self","letter","count"] []) (Go:DQ P w K mg μ aF 1 fo GB ["self","letter","count"] (nN ys.Ep)):
  DQ P w K mg μ aF 6 f fd ["self","lane"] (rq K c TC J ys):=by
 refine F.ok NQ λ_ _ _ s H _ Q E hr h=>?_
 obtain⟨a,n,k,rfl,o,X,q⟩:=h
 have Ex:Ea 1 _:=hr.mono (by decide)
 refine⟨_,ae (aB (i:=2) NQ.nd Λ (Ĥ Λ) (cj (aD DZ (ap (pv 0) Λ) (pv 1) (λ_ _=>rfl)) Y.L.cl mf Gf Ex bf .nil ar))
  (ae (aB (i:=3) NQ.nd Λ (ύ Λ) (aH (pv 0) Y.cl ma Ga hr ba .nil ar (aa (pv 1) ad)))
  (aj (ay (bv (own:=["other"]) (capN:=["self","lane","piece"]) (cap:=[0,1,2]) X0 Λ (aR (pv 3)) (λC s' H' fp=>⟨ax (i:=0) X1 Λ (ύ Λ),bY (bA (aH (aD (show G0 _ (rS K) from DZ) (show PE _ _ (rh K (pj 1) "lanes") from ap (pv 1) Λ) (pv 0) (λ_ _=>rfl)) Y.L.cl mo Go Ex bo .nil ar (aa (aD (show G0 _ (jr K) from DV) (pv 3) ao (λ_ _=>rfl)) (aa (aD (show G0 _ (jr K) from DV) (pv 3) ao (λ_ _=>rfl)) ad)))),bM (aa cx (aa (pv 2) (aa (pv 0) ad)))⟩))))),?_⟩
 have Z:=o.Y
 obtain⟨Ed,EU,JL⟩:=Z.υ
 obtain⟨p,El⟩:∃p,n.γ[k]?=Α p:=⟨_,Μ X⟩
 obtain⟨vl,IE,xl,GI,MH,NP,rfl,hL,_⟩:=Paired.at2 JL El
 refine⟨_,_,_,_,_,Λ,Z.ρ,Y.cl,Y.n3,Λ,_,_,_,_,Λ,Λ,DT.of EU,aq IE,_,_,_,Λ,hL.ρ,Λ,_,_,_,_,_,_,_,_,Λ,hL,_,_,_,Λ,Z.ρ,Λ,a,n,k,Λ,o,X,λD H1 A hD S=>?_⟩
 refine⟨D,Λ,⟨_,DT.of S⟩,?_⟩
 have II:=o.same W A
 have eF:bB n k=p.qs.head?:=by unfold bB;rw[El]
 have Jb:∀u∈ci a n k,u<a.ps.length:=λu d=>by
  unfold ci at d
  rw[eF]at d
  cases hq:p.qs.head? with
  |none=>rw[hq]at d;cases d
  | some g =>
   rw[hq]at d
   obtain⟨m,t,em,hm,Jc⟩:=o.G.Fv k p El g (ċ hq)
   obtain⟨x0,y0,e1,e2,O7,OQ⟩:=o.G.lets m t hm
   dsimp only at d
   rw[em,Υ,hm]at d
   dsimp only at d
   by_cases I:g.2=0
   ·rw[Ι I,e2,Υ]at d
    have d:=(ϩ.mp d).1
    unfold jF at d
    by_cases z:(a.ps.getD k (0,0)).2=(y0:Int)
    ·rw[Ι z]at d;cases d
    ·rw[Θ z]at d
     have OR:k<a.ps.length:=by rw[←o.G.γ];exact X
     obtain⟨e,ee,R9⟩:=o.O.ends k _ (Μ OR)
     have JN:a.ps.getD k (0,0)=a.ps[k]:=by rw[Χ,Μ OR];rfl
     rw[JN,ee,Υ]at d
     exact o.T.ok _ _ _ R9 OQ u d
   ·rw[Θ I]at d
    exact(o.G.EG m t hm).1 u (Pp (Ŧ d))
 have HB:(ci a n k).length<=1000:=by
  unfold ci
  cases bB n k with
  |none=>exact Ϧ _
  | some g =>
   dsimp only
   cases n.DO[g.1.toNat]? with
   |none=>exact Ϧ _
   | some t =>
    dsimp only
    by_cases I:g.2=0
    ·rw[Ι I]
     refine À (Æ _ _) ?_
     unfold jF
     by_cases z:(a.ps.getD k (0,0)).2=((t.ι.toNat:Nat):Int)
     ·rw[Ι z];exact Ϧ _
     ·rw[Θ z];exact À (o.O.EH _ _ _) (by decide)
    ·rw[Θ I,Š];omega
 unfold j0 at q
 rw[eF]at q
 rcases l6 hL.Fv with ⟨U,ef⟩|⟨g,pt,U,ef,Iv⟩
 ·have e0:ci a n k=[]:=by unfold ci;rw[eF,U]
  rw[U]at q
  rw[e0]at S
  refine oU (λl=>Ε) (Mv.on k) (by rw[Ω];decide) S (λu B acc N d v L4 KD=>by cases d) (λD2 Mg B v x hp=>?_)
  exact q D2 Mg _ ((A.trans v).new x) (A.free (v.free x)) ac (Paired.mono (λ_ _ z=>z.keep (DP.Er ((DP.refl B).new x))) hp)
 rw[U]at q
 dsimp only at q
 rw[ef]
 refine oU (λl=>cU n l g.1 g.2) (Mv.on k) (by rw[Ω];omega) S (λu B acc N d v L4 KD=>?_) (λD2 Mg B v x hp=>?_)
 ·have Iw:=II.same W v
  obtain⟨NM,NN,NO⟩:=Iw.Y.υ
  have MG:u<n.γ.length:=by rw[o.G.γ];exact Jb u d
  obtain⟨EC,F8⟩:∃p,n.γ[u]?=Α p:=⟨_,Μ MG⟩
  obtain⟨vu,hvu,xu,M,pau,pvu,rfl,R,_⟩:=Paired.at2 NO F8
  have Kt:=v _ _ (A _ _ Iv)
  refine⟨_,_,_,_,_,Λ,Iw.Y.ρ,Y.cl,Y.n3,Λ,_,_,_,_,Λ,Λ,DT.of NN,aq hvu,_,M,_,Λ,R.ρ,Λ,_,_,0,_,Λ,Λ,Ec.of Kt,aq (j:=0) Λ,_,_,1,_,Λ,Λ,Ec.of Kt,aq (j:=1) Λ,_,M,_,_,_,_,_,_,Λ,R.ρ,_,Λ,?_⟩
  have eo:cU n u g.1 g.2=cp EC.r EC.h g.1 g.2:=by unfold cU;rw[F8]
  cases ho:cp EC.r EC.h g.1 g.2 with
  |false=>exact aJ (KD (by rw[eo,ho]))
  |true=>exact aL ⟨by show 3<=ό;decide,λz hz=>L4 (by rw[eo,ho]) _ _ ((DP.refl B).new hz) ⟨z,Λ,ac⟩⟩
 ·exact q D2 Mg _ ((A.trans v).new x) (A.free (v.free x)) ac (Paired.mono (λ_ _ z=>z.keep (DP.Er ((DP.refl B).new x))) hp)
theorem RA:aw ["self","lane","piece"] ["self","lane"] (am rD):=L2.Eu
theorem xE(F:En K "moves_lie" "Yard.moves_lie" rD f fd)(Y:jA K ys)(L:kC K c)(W:Wy K TC fw dw J)
  (mf:cb K ys.Ep "front" ff) (bf:Binds K df ["self"] []) (Gf:DQ P w K mg μ aF 1 ff df ["self"] (jP ys.Ep)) (M:qT K c fe de) (Ge:DQ P w K mg μ aF 1 fe de ["self","lane"] (pz c Ï)):
  DQ P w K mg μ aF 2 f fd ["self","lane"] (t7 K c TC J ys):=by
 refine F.ok RA λ_ _ _ s H _ Q E N h=>?_
 obtain⟨a,O,k,rfl,g,R,q⟩:=h
 refine⟨_,ae (aB (i:=2) RA.nd Λ (ύ Λ) (cj (aD DZ (ap (pv 0) Λ) (pv 1) (λ_ _=>rfl)) Y.L.cl mf Gf N bf .nil ar))
  (ae (aP (PW.pt (fZ (az jw (pv 2) b9 (aC _)) (dD (az jE (ap (aD DZ (ap (pv 0) Λ) (aD DV (pv 2) ao (λ_ _=>rfl)) (λ_ _=>rfl)) Λ) (aH (ap (ap (pv 0) Λ) Λ) L.cl M.m Ge N M.b .nil ar (aa (pv 1) ad)) (aC _))))) (aj (ay (aU ad))) aE)
  (aj (ay (aU (aa (bM (aa cx (aa (pv 1) ad))) ad))))),?_⟩
 have p:=g.Y
 obtain⟨Ed,EU,JL⟩:=p.υ
 obtain⟨e,El⟩:∃e,O.γ[k]?=Α e:=⟨_,Μ R⟩
 obtain⟨vl,IE,S,U,MH,NP,rfl,B,_⟩:=Paired.at2 JL El
 refine⟨_,_,_,_,_,Λ,p.ρ,Y.cl,Y.n3,Λ,_,_,_,_,Λ,Λ,DT.of EU,aq IE,S,U,_,Λ,B.ρ,Λ,S,U,_,_,_,_,_,_,Λ,B,?_⟩
 have eF:bB O k=e.qs.head?:=by unfold bB;rw[El]
 unfold fS at q
 rw[eF]at q
 rcases l6 B.Fv with ⟨u,C⟩|⟨pq,pt,u,C,X⟩
 ·rw[u]at q
  rw[C]
  exact⟨Λ,_,Λ,aL (aL ⟨Ϧ _,λD d=>q D [] _ ((DP.refl H).new d) d ac .nil⟩)⟩
 rw[u]at q
 rw[C]
 obtain⟨m,t,Z,hm,Jc⟩:=g.G.Fv k e El pq (ċ u)
 rw[Z]at X
 dsimp only at q
 rw[Z,Υ,hm]at q
 dsimp only at q
 obtain⟨DX,Fm,pl⟩:=p.χ
 obtain⟨v,hv,x,dx,wa,rfl,hx,hw,_⟩:=Paired.at2 pl hm
 obtain⟨IG,I,HJ,EK,FK⟩:=g.T.i
 have OR:k<a.ps.length:=by rw[←g.G.γ];exact R
 have he:=Μ OR
 have JN:a.ps.getD k (0,0)=a.ps[k]:=by rw[Χ,he];rfl
 rw[JN]at q
 refine⟨Λ,_,Λ,aJ ⟨a.y,ys.DU,a.dy,_,_,Λ,p.ρ,Y.cl,Y.n4,Λ,pt,_,0,_,Λ,Λ,Ec.of X,aq (j:=0) Λ,a.le,DX,(m:Int),_,Λ,Λ,DT.of Fm,aq hv,x,ys.DR,dx,_,_,Λ,hx,Y.ct,Y.t2,Λ,a.y,ys.DU,a.dy,_,_,Λ,p.ρ,Y.cl,Y.n1,Λ,a.tb,TC,IG,I,_,Λ,HJ,W.cl,W.nl,EK,a.lx,a.Ef,_,Λ,g.T.l.1,Λ,a.lx,a.Ef,a.lt,(a.n:Int),a.DX,a.ps,k,_,Λ,g.T.l,he,Λ,_,Λ,?_⟩⟩
 rw[bK]
 by_cases A:t.ι=a.ps[k].2
 ·rw[Ζ A]
  rw[Ι A]at q
  refine aJ ⟨by show 2<=ό;decide,λz hz=>⟨by show 1<=ό;decide,λD d=>?_⟩⟩
  have s2:=(DP.refl H).new (o:=.tup [.str "lie",.int k]) hz
  have gz:(ο H z (.tup [.str "lie",.int k])) z=Α (.tup [.str "lie",.int k]):=ac
  exact q D [.ref z] _ (s2.new d) (s2.free d) ac (.cons ⟨z,Λ,by rw[ag (ah gz d)];exact gz⟩ .nil)
 ·rw[Η A]
  rw[Θ A]at q
  exact aL ⟨Ϧ _,λD d=>q D [] _ ((DP.refl H).new d) d ac .nil⟩
theorem X2:aw ["self","lane"] ["self","lane"] (am og):=L2.Eu
theorem va(F:En K "moves_back" "Yard.moves_back" og f fd)(Y:jA K ys):DQ P w K mg μ aF 1 f fd ["self","lane"] (kI K c TC J ys):=by
 refine F.ok X2 λ_ _ _ s H _ Q E C h=>?_
 obtain⟨a,l,k,rfl,m,n,q⟩:=h
 refine⟨_,aj (ay (cQ (az ua (ap (aD DZ (ap (pv 0) Λ) (pv 1) (λ_ _=>rfl)) Λ) ao (aC _)) (aU (aa (bM (aa cx (aa (pv 1) ad))) ad)) (aU ad))),?_⟩
 have i:=m.Y
 obtain⟨p,r,t⟩:=i.υ
 obtain⟨g,El⟩:∃g,l.γ[k]?=Α g:=⟨_,Μ n⟩
 obtain⟨G,u,v,x,I,M,rfl,A,_⟩:=Paired.at2 t El
 unfold dI at q
 rw[El]at q
 dsimp only at q
 refine⟨_,_,_,_,_,Λ,i.ρ,Y.cl,Y.n3,Λ,_,p,_,_,Λ,Λ,DT.of r,aq u,v,_,x,_,_,Λ,A.ρ,Y.L.cl,Y.L.n2,Λ,_,_,Λ,Λ,_,Λ,?_⟩
 by_cases e:0<g.b
 ·rw[Ζ e]
  rw[Ι e]at q
  refine aL ⟨by show 2<=ό;decide,λz B=>⟨by show 1<=ό;decide,λD d=>?_⟩⟩
  have j:=(DP.refl H).new (o:=.tup [.str "back",.int k]) B
  have gz:(ο H z (.tup [.str "back",.int k])) z=Α (.tup [.str "back",.int k]):=ac
  exact q D [.ref z] _ (j.new d) (j.free d) ac (.cons ⟨z,Λ,by rw[ag (ah gz d)];exact gz⟩ .nil)
 ·rw[Η e]
  rw[Θ e]at q
  exact aJ ⟨Ϧ _,λD d=>q D [] _ ((DP.refl H).new d) d ac .nil⟩
theorem qb(h:H F=Α (.π xs)):E7 H (ο H F o):=λb u e n=>by
 have a:b≠F:=λz=>by rw[z,h]at e;cases e;exact n
 rw[ag a];exact e
theorem eT{a:Type}(f:Nat->List a)(i:Nat):(ϋ (i+1)).flatMap f=(ϋ i).flatMap f++f i:=by
 rw[ē,OX];simp
theorem bO{a:Type}{f:Nat->List a}(h:∀i,(f i).length<=1000):∀i,((ϋ i).flatMap f).length<=1000* i
 |0=>by simp
 |i+1=>by rw[eT,ϗ];have:=bO h i;have:=h i;omega
theorem eQ(O:yM a)(G:Xv a s)(k:Nat):(iX a s k).length<=1000:=by
 unfold iX
 cases d:s.DO[k]? with
 |none=>exact Ϧ _
 | some t =>
  dsimp only
  by_cases b:t.δ=t.len
  ·rw[Ι b];exact Ϧ _
  rw[Θ b,ϊ]
  refine À (Æ _ _) ?_
  unfold cn
  by_cases c:t.δ=0
  ·rw[Ι c];exact À (O.EH _ _ _) (by decide)
  ·rw[Θ c,Š];omega
theorem eP(O:yM a)(k:Nat):(j0 a s k).length<=1000:=by
 unfold j0
 cases d:bB s k with
 |none=>exact Ϧ _
 | some b =>
  dsimp only
  rw[ϊ]
  refine À (Æ _ _) ?_
  unfold ci
  rw[d]
  dsimp only
  cases s.DO[b.1.toNat]? with
  |none=>exact Ϧ _
  | some t =>
   dsimp only
   by_cases c:b.2=0
   ·rw[Ι c]
    refine À (Æ _ _) ?_
    unfold jF
    by_cases z:(a.ps.getD k (0,0)).2=((t.ι.toNat:Nat):Int)
    ·rw[Ι z];exact Ϧ _
    ·rw[Θ z];exact À (O.EH _ _ _) (by decide)
   ·rw[Θ c,Š];omega
theorem dv(a:YA)(s:YS)(k:Nat):(fS a s k).length<=1000:=by
 unfold fS
 cases bB s k with
 |none=>exact Ϧ _
 | some c =>
  dsimp only
  cases s.DO[c.1.toNat]? with
  |none=>exact Ϧ _
  | some t =>
   dsimp only
   by_cases b:t.ι=(a.ps.getD k (0,0)).2
   ·rw[Ι b];show 1<=1000;decide
   ·rw[Θ b];exact Ϧ _
theorem lh(s:YS)(k:Nat):(dI s k).length<=1000:=by
 unfold dI
 cases s.γ[k]? with
 |none=>exact Ϧ _
 | some c =>
  dsimp only
  by_cases a:0<c.b
  ·rw[Ι a];show 1<=1000;decide
  ·rw[Θ a];exact Ϧ _
noncomputable def cy(a:YA)(s:YS):List Mv:=(ϋ s.DO.length).flatMap (iX a s)++(ϋ s.γ.length).flatMap (j0 a s)++(ϋ s.γ.length).flatMap (fS a s)++(ϋ s.γ.length).flatMap (dI s)
inductive nO(K:ϧ)(c:Cs)(TC:Ν)(J:TJ)(ys:Ys)(vs:List V)(H:Hp)(Q:VK)(E:XK):Prop
 |mk (a:YA) (s:YS) (_:vs=[.ref a.y]) (_:JM K c TC J ys H a s) (_:∀(D:Ν)(E2:List V)(H':Hp),DP H H'->H D=Β->H' D=Α (.π E2)->Paired (FJ H') E2 ((cy a s).map eO)->Q (.ref D) H')
theorem Paired.app{a:List α}{b:List β}(h:Paired R a b):∀{as:List α}{bs:List β},Paired R as bs->Paired R (as++a) (bs++b):=λc=>by
 induction c with
 |nil=>exact h
 |cons x r d=>exact .cons x d
theorem jV{xs c:List Mv}(f:H F=Β)(g:DP H H2)(h:H2 F=Α (.π vs))(i:Paired (FJ H2) vs (xs.map eO))(a:DP H2 H3)(j:Paired (FJ H3) E2 (c.map eO)):
  DP H (ο H3 F (.π (vs++E2)))/\(ο H3 F (.π (vs++E2))) F=Α (.π (vs++E2))/\Paired (FJ (ο H3 F (.π (vs++E2)))) (vs++E2) ((xs++c).map eO):=by
 refine⟨λb o e=>by rw[ag (ah e f)];exact a _ _ (g _ _ e),ac,?_⟩
 have d:E7 H3 (ο H3 F (.π (vs++E2))):=qb (a _ _ h)
 rw[Ì]
 have l:=Paired.mono (λ_ _ z=>z.keep (E7.trans (DP.Er a) d)) i
 have m:=Paired.mono (λ_ _ z=>z.keep d) j
 exact Paired.app m l
abbrev NMs:List Str:=["self","found","number","lane"]
theorem JD:aw NMs ["self"] (am rE):=L2.Eu
structure X3(P:Program)(w:Î)(K:ϧ)(mg:Str->Option Τ)(μ:Ü)(c:Cs)(TC:Ν)(J:TJ)(ys:Ys)(fi fo fl fb:Ν)(di GB dl db:Ý):Prop where
 mi:cb K ys.DU "moves_in" fi
 bi:Binds K di ["self","number"] []
 Gi:DQ P w K mg μ aF 4 fi di ["self","number"] (r6 K c TC J ys)
 mo:cb K ys.DU "moves_on" fo
 bo:Binds K GB ["self","lane"] []
 Go:DQ P w K mg μ aF 6 fo GB ["self","lane"] (rq K c TC J ys)
 ml:cb K ys.DU "moves_lie" fl
 bl:Binds K dl ["self","lane"] []
 Gl:DQ P w K mg μ aF 2 fl dl ["self","lane"] (t7 K c TC J ys)
 mb:cb K ys.DU "moves_back" fb
 bb:Binds K db ["self","lane"] []
 Gb:DQ P w K mg μ aF 1 fb db ["self","lane"] (kI K c TC J ys)
theorem xF(F:En K "moves" "Yard.moves" rE f fd)(T:eD mg)(Y:jA K ys)(W:Wy K TC fw dw J)(M:X3 P w K mg μ c TC J ys fi fo fl fb di GB dl db):
  DQ P w K mg μ aF 7 f fd ["self"] (nO K c TC J ys):=by
 refine F.ok JD λ_ _ _ s H _ Q E hr h=>?_
 obtain⟨a,b,rfl,e,q⟩:=h
 have Ex:Ea 1 _:=hr.mono (by decide)
 have Fn:Ea 2 _:=hr.mono (by decide)
 have HX:Ea 4 _:=hr.mono (by decide)
 refine⟨_,ae (aB (i:=1) JD.nd Λ (ύ Λ) (aU ad))
  (ae (aT Ϗ Λ (aO Λ T.range (aa (aG aA Λ T.len PySem.boot_len (aa (ap (pv 0) Λ) ad)) ad)) (ax (i:=2) JD.nd Λ (ύ Λ)) (aj (aX (cF plainAttrs_list slot_list_extend type_list_extend dA (pv 1) (aa (aH (pv 0) Y.cl M.mi M.Gi HX M.bi .nil ar (aa (pv 2) ad)) ad)))))
  (ae (aT Ϗ Λ (aO Λ T.range (aa (aG aA Λ T.len PySem.boot_len (aa (ap (pv 0) Λ) ad)) ad)) (ax (i:=3) JD.nd Λ (ύ Λ)) (aj (aX (cF plainAttrs_list slot_list_extend type_list_extend dA (pv 1) (aa (aH (pv 0) Y.cl M.mo M.Go hr M.bo .nil ar (aa (pv 3) ad)) ad)))))
  (ae (aT Ϗ Λ (aO Λ T.range (aa (aG aA Λ T.len PySem.boot_len (aa (ap (pv 0) Λ) ad)) ad)) (ax (i:=3) JD.nd Λ (ύ Λ)) (aj (aX (cF plainAttrs_list slot_list_extend type_list_extend dA (pv 1) (aa (aH (pv 0) Y.cl M.ml M.Gl Fn M.bl .nil ar (aa (pv 3) ad)) ad)))))
  (ae (aT Ϗ Λ (aO Λ T.range (aa (aG aA Λ T.len PySem.boot_len (aa (ap (pv 0) Λ) ad)) ad)) (ax (i:=3) JD.nd Λ (ύ Λ)) (aj (aX (cF plainAttrs_list slot_list_extend type_list_extend dA (pv 1) (aa (aH (pv 0) Y.cl M.mb M.Gb Ex M.bb .nil ar (aa (pv 3) ad)) ad)))))
  (aj (ay (pv 1))))))),?_⟩
 have hlet:=e.G.EH
 have NR:b.γ.length<=40:=by rw[e.G.γ];exact e.T.EH
 refine⟨Ϧ _,λj R=>?_⟩
 have s0:=(DP.refl H).new (o:=.π []) R
 have g0:(ο H j (.π [])) j=Α (.π []):=ac
 generalize ο H j (.π [])=H0 at s0 g0⊢
 have X5:∃d,DP H H0/\H0 j=Α (.π d)/\Paired (FJ H0) d (([]:List Mv).map eO):=⟨[],s0,g0,.nil⟩
 obtain⟨Ks,OS,g0',p0'⟩:=X5
 have S:=(e.same W OS).Y
 obtain⟨U,gl0,pl0⟩:=S.χ
 have X6:=Paired.length pl0
 refine⟨_,_,_,_,_,Λ,S.ρ,Y.cl,Y.n4,Λ,_,_,Λ,.inl (DT.of gl0),_,Λ,Φ _,by omega,?_⟩
 rw[Υ,X6]
 refine aV (n:=b.DO.length) (λi t g=>∃u v:Option V,(∃d,DP H g/\g j=Α (.π d)/\Paired (FJ g) d (((ϋ i).flatMap (iX a b)).map eO))/\t=[Α (.ref a.y),Α (.ref j),u,v]) ?_ ?_ ?_
 ·exact⟨_,_,⟨Ks,OS,g0',by simpa using p0'⟩,Λ⟩
 ·rintro i t g B ⟨u,v,⟨d,p,l,r⟩,rfl⟩
  rw[Þ]
  have x:=e.same W p
  refine⟨.inl ⟨Λ,_,DT.of l⟩,_,_,_,Λ,x.Y.ρ,Λ,a,b,i,Λ,x,B,λD m H3 z hD C A=>?_⟩
  have l1:d.length<=1000000:=by
   rw[Paired.length r,ϊ]
   have h0:=bO (eQ e.O e.G) b.DO.length
   have h1:=bO (eP (s:=b) e.O) b.γ.length
   have h2:=bO (dv a b) b.γ.length
   have hh:=bO (eQ e.O e.G) i
   try simp only[ϗ]
   omega
  have l2:m.length<=1000:=by rw[Paired.length A,ϊ];exact(eQ e.O e.G) i
  obtain⟨I,L,N⟩:=jV R p l r z A
  refine⟨j,D,d,m,Λ,Λ,z _ _ l,C,by rw[Ω];omega,_,_,⟨d++m,I,L,?_⟩,Λ⟩
  rw[eT]
  exact N
 rintro σ0 H1 ⟨a20,a30,X,rfl⟩
 obtain⟨vs1,Z,g1',p1'⟩:=X
 have Hs:=(e.same W Z).Y
 obtain⟨tv1,gl1,Xu⟩:=Hs.υ
 have X7:=Paired.length Xu
 refine⟨_,_,_,_,_,Λ,Hs.ρ,Y.cl,Y.n3,Λ,_,_,Λ,.inl (DT.of gl1),_,Λ,Φ _,by omega,?_⟩
 rw[Υ,X7]
 refine aV (n:=b.γ.length) (λi t g=>∃u v:Option V,(∃d,DP H g/\g j=Α (.π d)/\Paired (FJ g) d ((((ϋ b.DO.length).flatMap (iX a b))++(ϋ i).flatMap (j0 a b)).map eO))/\t=[Α (.ref a.y),Α (.ref j),u,v]) ?_ ?_ ?_
 ·exact⟨_,_,⟨vs1,Z,g1',by simpa using p1'⟩,Λ⟩
 ·rintro i t g B ⟨u,v,⟨d,p,l,r⟩,rfl⟩
  rw[Þ]
  have x:=e.same W p
  refine⟨.inl ⟨Λ,_,DT.of l⟩,_,_,_,Λ,x.Y.ρ,Λ,a,b,i,Λ,x,B,λD m H3 z hD C A=>?_⟩
  have l1:d.length<=1000000:=by
   rw[Paired.length r,ϊ]
   have h0:=bO (eQ e.O e.G) b.DO.length
   have h1:=bO (eP (s:=b) e.O) b.γ.length
   have h2:=bO (dv a b) b.γ.length
   have hh:=bO (eP (s:=b) e.O) i
   try simp only[ϗ]
   omega
  have l2:m.length<=1000:=by rw[Paired.length A,ϊ];exact(eP (s:=b) e.O) i
  obtain⟨I,L,N⟩:=jV R p l r z A
  refine⟨j,D,d,m,Λ,Λ,z _ _ l,C,by rw[Ω];omega,_,_,⟨d++m,I,L,?_⟩,Λ⟩
  rw[eT]
  rw[←Ļ];exact N
 rintro σ1 g ⟨a21,a31,inv2,rfl⟩
 obtain⟨Mg,s2',g2',p2'⟩:=inv2
 have Js:=(e.same W s2').Y
 obtain⟨tv2,gl2,pl2⟩:=Js.υ
 have X8:=Paired.length pl2
 refine⟨_,_,_,_,_,Λ,Js.ρ,Y.cl,Y.n3,Λ,_,_,Λ,.inl (DT.of gl2),_,Λ,Φ _,by omega,?_⟩
 rw[Υ,X8]
 refine aV (n:=b.γ.length) (λi t g=>∃u v:Option V,(∃d,DP H g/\g j=Α (.π d)/\Paired (FJ g) d ((((ϋ b.DO.length).flatMap (iX a b)++(ϋ b.γ.length).flatMap (j0 a b))++(ϋ i).flatMap (fS a b)).map eO))/\t=[Α (.ref a.y),Α (.ref j),u,v]) ?_ ?_ ?_
 ·exact⟨_,_,⟨Mg,s2',g2',by simpa using p2'⟩,Λ⟩
 ·rintro i t g B ⟨u,v,⟨d,p,l,r⟩,rfl⟩
  rw[Þ]
  have x:=e.same W p
  refine⟨.inl ⟨Λ,_,DT.of l⟩,_,_,_,Λ,x.Y.ρ,Λ,a,b,i,Λ,x,B,λD m H3 z hD C A=>?_⟩
  have l1:d.length<=1000000:=by
   rw[Paired.length r,ϊ]
   have h0:=bO (eQ e.O e.G) b.DO.length
   have h1:=bO (eP (s:=b) e.O) b.γ.length
   have h2:=bO (dv a b) b.γ.length
   have hh:=bO (dv a b) i
   try simp only[ϗ]
   omega
  have l2:m.length<=1000:=by rw[Paired.length A,ϊ];exact(dv a b) i
  obtain⟨I,L,N⟩:=jV R p l r z A
  refine⟨j,D,d,m,Λ,Λ,z _ _ l,C,by rw[Ω];omega,_,_,⟨d++m,I,L,?_⟩,Λ⟩
  rw[eT]
  rw[←Ļ];exact N
 rintro σ2 H3 ⟨a22,a32,X9,rfl⟩
 obtain⟨vs3,s3',g3',p3'⟩:=X9
 have GP:=(e.same W s3').Y
 obtain⟨tv3,KO,pl3⟩:=GP.υ
 have XA:=Paired.length pl3
 refine⟨_,_,_,_,_,Λ,GP.ρ,Y.cl,Y.n3,Λ,_,_,Λ,.inl (DT.of KO),_,Λ,Φ _,by omega,?_⟩
 rw[Υ,XA]
 refine aV (n:=b.γ.length) (λi t g=>∃u v:Option V,(∃d,DP H g/\g j=Α (.π d)/\Paired (FJ g) d ((((ϋ b.DO.length).flatMap (iX a b)++(ϋ b.γ.length).flatMap (j0 a b)++(ϋ b.γ.length).flatMap (fS a b))++(ϋ i).flatMap (dI b)).map eO))/\t=[Α (.ref a.y),Α (.ref j),u,v]) ?_ ?_ ?_
 ·exact⟨_,_,⟨vs3,s3',g3',by simpa using p3'⟩,Λ⟩
 ·rintro i t g B ⟨u,v,⟨d,p,l,r⟩,rfl⟩
  rw[Þ]
  have x:=e.same W p
  refine⟨.inl ⟨Λ,_,DT.of l⟩,_,_,_,Λ,x.Y.ρ,Λ,a,b,i,Λ,x,B,λD m H3 z hD C A=>?_⟩
  have l1:d.length<=1000000:=by
   rw[Paired.length r,ϊ]
   have h0:=bO (eQ e.O e.G) b.DO.length
   have h1:=bO (eP (s:=b) e.O) b.γ.length
   have h2:=bO (dv a b) b.γ.length
   have hh:=bO (lh b) i
   try simp only[ϗ]
   omega
  have l2:m.length<=1000:=by rw[Paired.length A,ϊ];exact(lh b) i
  obtain⟨I,L,N⟩:=jV R p l r z A
  refine⟨j,D,d,m,Λ,Λ,z _ _ l,C,by rw[Ω];omega,_,_,⟨d++m,I,L,?_⟩,Λ⟩
  rw[eT]
  rw[←Ļ];exact N
 rintro σ3 H4 ⟨a23,a33,XB,rfl⟩
 obtain⟨d,p,l,r⟩:=XB
 exact(q j d _ p R l r)
structure RB(K:ϧ):Prop where
 ss:Į K (.type "str") (.type "str")=Α Δ
 ns:Į K (.type "int") (.type "str")=Α Ε
 tt:Į K (.type "tuple") (.type "tuple")=Α Δ
theorem jL(h:a≠b):decide (V.str a=V.str b)=Ε:=Η λz=>h (by injection z)
theorem kL(a:Str):decide (V.str a=V.str a)=Δ:=Ζ Λ
inductive wD(vs:List V)(H:Hp)(Q:VK)(E:XK):Prop
 |mk (p:Ν) (xs:List V) (_:vs=[.ref p]) (_:H p=Α (.tup xs)) (_:xs.length<=100) (_:(∀x∈xs,(∃t,x=.str t)∨∃i,x=.int i)) (_:∀H',DP H H'->Q (.bl Δ) H')
noncomputable def AM(s:Ç):Scope:=match s with
 |.Return (Α (.BoolOp _ [_,.Call _ [.ListComp _ _ sc _] _ _] _)) _=>sc
 |_=>zQ0
theorem pV(m:Mv):(eO m).length<=100/\∀x∈eO m,(∃t,x=V.str t)∨∃i,x=V.int i:=by
 cases m<;>refine⟨by simp[eO],λx a=>?_⟩<;>simp only[eO,ϥ,Õ,or_false]at a
 ·rcases a with rfl|rfl|rfl
  ·exact .inl ⟨_,Λ⟩
  ·exact .inr ⟨_,Λ⟩
  ·exact .inr ⟨_,Λ⟩
 ·rcases a with rfl|rfl|rfl
  ·exact .inl ⟨_,Λ⟩
  ·exact .inr ⟨_,Λ⟩
  ·exact .inr ⟨_,Λ⟩
 ·rcases a with rfl|rfl
  ·exact .inl ⟨_,Λ⟩
  ·exact .inr ⟨_,Λ⟩
 ·rcases a with rfl|rfl
  ·exact .inl ⟨_,Λ⟩
  ·exact .inr ⟨_,Λ⟩
noncomputable def uj(a:YA)(s:YS):Mv->List Mv
 |.FD k _=>iX a s k
 |.on k _=>j0 a s k
 |.F7 k=>fS a s k
 |.back k=>dI s k
def Bp(s:YS):Mv->Prop
 |.FD k _=>k<s.DO.length
 |.on k _=>k<s.γ.length
 |.F7 k=>k<s.γ.length
 |.back k=>k<s.γ.length
inductive wA(K:ϧ)(c:Cs)(TC:Ν)(J:TJ)(ys:Ys)(vs:List V)(H:Hp)(Q:VK)(E:XK):Prop
 |mk (a:YA) (s:YS) (p:Ν) (m:Mv) (_:vs=[.ref a.y,.ref p]) (_:JM K c TC J ys H a s) (_:H p=Α (.tup (eO m))) (_:Bp s m) (_:∀(D:Ν)(E2:List V)(H':Hp),DP H H'->H D=Β->H' D=Α (.π E2)->Paired (FJ H') E2 ((uj a s m).map eO)->Q (.ref D) H')
theorem XC:aw ["move"] ["move"] (am pD):=L2.Eu
theorem XD:ES ["move"] (am pD) (AM ((aK pD).getD 0 (.Pass ⟨0,0,0,0⟩))) [] []:=L2.FC
theorem XE:(["thing"]:List Str).Nodup:=by decide +kernel
theorem Ab(F:En K "is_move" "is_move" pD f fd)(T:eD mg)(Z:RB K)(d:mg "is_whole"=Α (.ref fh))(g:Ϯ K (.ref fh)=Δ)(j:Binds K dh ["value"] [])(G:DQ P w K mg μ aF 1 fh dh ["value"] iN):
  DQ P w K mg μ aF 2 f fd ["move"] wD:=by
 refine F.ok XC λ_ _ _ s H _ Q E l h=>?_
 obtain⟨p,xs,rfl,c,x,m,q⟩:=h
 refine⟨_,aj (ay (e7 (aG jc Λ T.OF å (aa (pv 0) (aa (gO (v:=.ty "tuple") Λ T.tuple PySem.Pv.boot_tuple Λ) ad)))
  (dZ (aG (jd Λ) Λ T.all ĸ (aa (bv (own:=["thing"]) (capN:=[]) (cap:=[]) XD Λ (js (pv 0)) (λC A a B=>⟨ax (i:=0) XE Λ (ύ Λ),c4,
   Pw (aG (show cZ _ (.builtin "isinstance") (Qu K) from jc) Λ T.OF å (aa (pv 0) (aa (gO (v:=.ty "str") Λ T.str PySem.Pv.boot_str Λ) ad))) (dZ (au G l Λ d g j .nil ar (aa (pv 0) ad)))⟩)) ad))))),?_⟩
 refine⟨_,_,_,_,Λ,.tup c,Z.tt,_,Λ,aL ⟨p,Λ,⟨_,Ec.of c⟩,?_⟩⟩
 refine bQ xs.length (by rw[Ω];omega) (λi acc a=>a=H/\acc=(Ϛ i Δ).map V.bl) ⟨Λ,Λ⟩ (λi acc a h=>by rw[h.2];simp) (λi acc a n h=>?_) (λacc a h=>?_)
 ·obtain⟨rfl,rfl⟩:=h
  refine⟨⟨xs,xs[i],Ec.of c,Μ n⟩,λv I y=>?_⟩
  obtain⟨rfl,y⟩:=y
  have o:=y xs (Ec.of c)
  have e:(Ϛ i Δ).map V.bl++[V.bl Δ]=(Ϛ (i+1) Δ).map V.bl:=by rw[ph,Ì];rfl
  rcases m v (Ϙ o) with ⟨t,rfl⟩|⟨z,rfl⟩
  ·exact⟨_,_,_,_,Λ,.str t,Z.ss,_,Λ,aL ⟨Λ,e⟩⟩
  ·exact⟨_,_,_,_,Λ,.int z,Z.ns,_,Λ,aJ ⟨.int z,Λ,.int z,Λ,e⟩⟩
 ·obtain⟨rfl,rfl⟩:=h
  refine⟨⟨xs,Ec.of c,Ρ _⟩,λD r=>⟨D,Ϛ xs.length Δ,Λ,DT.of ac,?_⟩⟩
  have e:(Ϛ xs.length Δ).all id=Δ:=by rw[Ŏ];intro b u;rw[Ū u];rfl
  rw[e]
  exact q _ ((DP.refl a).new r)
theorem XF:aw ["self","move"] ["self","move"] (am xb):=L2.Eu
theorem zY(F:En K "moves_like" "Yard.moves_like" xb f fd)(T:eD mg)(Y:jA K ys)(W:Wy K TC fw dw J)(M:X3 P w K mg μ c TC J ys fi fo fl fb di GB dl db)
  (mm:mg "is_move"=Α (.ref fm)) (km:Ϯ K (.ref fm)=Δ) (bm:Binds K dm ["move"] []) (Gm:DQ P w K mg μ aF 2 fm dm ["move"] wD)
  (U:mg "is_within"=Α (.ref fn)) (X:Ϯ K (.ref fn)=Δ) (Z:Binds K dn ["value","least","most"] []) (Gn:DQ P w K mg μ aF 2 fn dn ["value","least","most"] eJ):
  DQ P w K mg μ aF 7 f fd ["self","move"] (wA K c TC J ys):=by
 refine F.ok XF λ_ _ _ s H _ Q E G h=>?_
 obtain⟨a,i,p,m,rfl,hI,I,e,q⟩:=h
 have Ex:Ea 1 _:=G.mono (by decide)
 have L:Ea 2 _:=G.mono (by decide)
 have HX:Ea 4 _:=G.mono (by decide)
 refine⟨_,ae (aP (iT (PW.pt (fZ (bE (bA (au Gm L Λ mm km bm .nil ar (aa (pv 1) ad)))) (dD (az mB (aG aA Λ T.len PySem.boot_len (aa (pv 1) ad)) ao (aC _)))))) (aj (ay (aU ad))) aE)
  (ae (aP (az bN (aD DV (pv 1) ao (λ_ _=>rfl)) cx (aC _))
   (aj (ay (cQ (bA (au Gn L Λ U X Z .nil ar (aa (aD DV (pv 1) ao (λ_ _=>rfl)) (aa ao (aa (aI e8 (aG aA Λ T.len PySem.boot_len (aa (ap (pv 0) Λ) ad)) ao) ad)))))
    (aH (pv 0) Y.cl M.mi M.Gi HX M.bi .nil ar (aa (aD DV (pv 1) ao (λ_ _=>rfl)) ad)) (aU ad)))) aE)
  (ae (aP (bE (bA (au Gn L Λ U X Z .nil ar (aa (aD DV (pv 1) ao (λ_ _=>rfl)) (aa ao (aa (aI e8 (aG aA Λ T.len PySem.boot_len (aa (ap (pv 0) Λ) ad)) ao) ad)))))) (aj (ay (aU ad))) aE)
  (ae (aP (az bN (aD DV (pv 1) ao (λ_ _=>rfl)) cx (aC _)) (aj (ay (aH (pv 0) Y.cl M.mo M.Go G M.bo .nil ar (aa (aD DV (pv 1) ao (λ_ _=>rfl)) ad)))) aE)
  (ae (aP (az bN (aD DV (pv 1) ao (λ_ _=>rfl)) cx (aC _)) (aj (ay (aH (pv 0) Y.cl M.ml M.Gl L M.bl .nil ar (aa (aD DV (pv 1) ao (λ_ _=>rfl)) ad)))) aE)
  (aj (ay (cQ (az bN (aD DV (pv 1) ao (λ_ _=>rfl)) cx (aC _)) (aH (pv 0) Y.cl M.mb M.Gb Ex M.bb .nil ar (aa (aD DV (pv 1) ao (λ_ _=>rfl)) ad)) (aU ad)))))))),?_⟩
 refine⟨λb r=>b=Ε/\DP H r,?_,?_⟩
 ·refine⟨p,_,Λ,I,(pV m).1,(pV m).2,λr z=>⟨_,Λ,aJ ?_⟩⟩
  refine⟨p,_,Λ,.inr (Ec.of (z _ _ I)),_,_,Λ,Λ,_,Λ,?_,z⟩
  cases m<;>rfl
 rintro b r ⟨rfl,z⟩
 refine aJ ?_
 have B:=hI.same W z
 have d:=z _ _ I
 have N:=λD n g t u v x=>q D n g (z.trans t) (z.free u) v x
 have o:=B.Y
 obtain⟨O,Fm,R⟩:=o.χ
 have χ:=Paired.length R
 obtain⟨C,S,JL⟩:=o.υ
 have υ:=Paired.length JL
 clear z q I hI
 have A:∀k:Nat,k<i.γ.length->lN (.int k) 0 (((C.length:Nat):Int) - 1)=Δ:=λk hk=>Ζ (by omega)
 cases m with
 | FD k l =>
  have d:=d
  have e:k<i.DO.length:=e
  refine⟨p,_,0,_,Λ,Λ,Ec.of d,aq (j:=0) Λ,Λ,_,Λ,?_⟩
  rw[kL]
  refine aL ⟨p,_,1,_,Λ,Λ,Ec.of d,aq (j:=1) Λ,a.y,ys.DU,a.dy,_,_,Λ,o.ρ,Y.cl,Y.n4,Λ,a.le,_,Λ,.inl (DT.of Fm),_,_,Λ,Λ,.int k,0,((O.length:Nat):Int) - 1,Λ,.int _,_,Λ,?_⟩
  rw[show lN (.int k) 0 (((O.length:Nat):Int) - 1)=Δ from Ζ (by omega)]
  exact aL ⟨a.y,a.dy,_,Λ,o.ρ,Λ,p,_,1,_,Λ,Λ,Ec.of d,aq (j:=1) Λ,a,i,k,Λ,B,e,λD n g t u v x=>N D n g t u v x⟩
 | on k l =>
  have d:=d
  have e:=e
  refine⟨p,_,0,_,Λ,Λ,Ec.of d,aq (j:=0) Λ,Λ,_,Λ,?_⟩
  rw[jL (by decide +kernel)]
  refine aJ ⟨p,_,1,_,Λ,Λ,Ec.of d,aq (j:=1) Λ,a.y,ys.DU,a.dy,_,_,Λ,o.ρ,Y.cl,Y.n3,Λ,a.la,_,Λ,.inl (DT.of S),_,_,Λ,Λ,.int k,0,((C.length:Nat):Int) - 1,Λ,.int _,_,Λ,?_⟩
  rw[A k e]
  refine aJ ⟨p,_,0,_,Λ,Λ,Ec.of d,aq (j:=0) Λ,Λ,_,Λ,?_⟩
  rw[kL]
  exact aL ⟨a.y,a.dy,_,Λ,o.ρ,Λ,p,_,1,_,Λ,Λ,Ec.of d,aq (j:=1) Λ,a,i,k,Λ,B,e,λD n g t u v x=>N D n g t u v x⟩
 | F7 k =>
  have d:=d
  have e:=e
  refine⟨p,_,0,_,Λ,Λ,Ec.of d,aq (j:=0) Λ,Λ,_,Λ,?_⟩
  rw[jL (by decide +kernel)]
  refine aJ ⟨p,_,1,_,Λ,Λ,Ec.of d,aq (j:=1) Λ,a.y,ys.DU,a.dy,_,_,Λ,o.ρ,Y.cl,Y.n3,Λ,a.la,_,Λ,.inl (DT.of S),_,_,Λ,Λ,.int k,0,((C.length:Nat):Int) - 1,Λ,.int _,_,Λ,?_⟩
  rw[A k e]
  refine aJ ⟨p,_,0,_,Λ,Λ,Ec.of d,aq (j:=0) Λ,Λ,_,Λ,?_⟩
  rw[jL (by decide +kernel)]
  refine aJ ⟨p,_,0,_,Λ,Λ,Ec.of d,aq (j:=0) Λ,Λ,_,Λ,?_⟩
  rw[kL]
  exact aL ⟨a.y,a.dy,_,Λ,o.ρ,Λ,p,_,1,_,Λ,Λ,Ec.of d,aq (j:=1) Λ,a,i,k,Λ,B,e,λD n g t u v x=>N D n g t u v x⟩
 | back k =>
  have d:=d
  have e:=e
  refine⟨p,_,0,_,Λ,Λ,Ec.of d,aq (j:=0) Λ,Λ,_,Λ,?_⟩
  rw[jL (by decide +kernel)]
  refine aJ ⟨p,_,1,_,Λ,Λ,Ec.of d,aq (j:=1) Λ,a.y,ys.DU,a.dy,_,_,Λ,o.ρ,Y.cl,Y.n3,Λ,a.la,_,Λ,.inl (DT.of S),_,_,Λ,Λ,.int k,0,((C.length:Nat):Int) - 1,Λ,.int _,_,Λ,?_⟩
  rw[A k e]
  refine aJ ⟨p,_,0,_,Λ,Λ,Ec.of d,aq (j:=0) Λ,Λ,_,Λ,?_⟩
  rw[jL (by decide +kernel)]
  refine aJ ⟨p,_,0,_,Λ,Λ,Ec.of d,aq (j:=0) Λ,Λ,_,Λ,?_⟩
  rw[jL (by decide +kernel)]
  refine aJ ⟨p,_,0,_,Λ,Λ,Ec.of d,aq (j:=0) Λ,Λ,_,Λ,?_⟩
  rw[kL]
  exact aL ⟨a.y,a.dy,_,Λ,o.ρ,Λ,p,_,1,_,Λ,Λ,Ec.of d,aq (j:=1) Λ,a,i,k,Λ,B,e,λD n g t u v x=>N D n g t u v x⟩
noncomputable def cr(ln:bV):bV:={ln with b:=ln.b+1,qs:=ln.qs.tail}
noncomputable def qc(ln:bV):bV:={ln with r:=ln.r+1,b:=ln.b - 1}
inductive GC(a:YA)(s:YS):Mv->YS->Prop
 | FD {k l:Nat} {t:bD} {ln:bV} (ht:s.DO[k]?=Α t) (hg:t.δ≠t.len) (hl:l∈cn a t) (El:s.γ[l]?=Α ln) (ho:cp ln.r ln.h k t.δ=Δ):
  GC a s (.FD k l) (c7 (cv s k t) k t.δ l {t with δ:=t.δ+1} ln)
 | on {k l m:Nat} {c:Int} {lk ln:bV} {t:bD} (hk:s.γ[k]?=Α lk) (hq:lk.qs.head?=Α ((m:Int),c)) (ht:s.DO[m]?=Α t) (hl:l∈ci a s k) (El:(s.γ.set k (cr lk))[l]?=Α ln) (ho:cp ln.r ln.h m c=Δ):
  GC a s (.on k l) (c7 {s with γ:=s.γ.set k (cr lk)} m c l t ln)
 | F7 {k m e:Nat} {c:Int} {lk:bV} {t:bD} {qs:List (Int×Int)} (hk:s.γ[k]?=Α lk) (hq:lk.qs.head?=Α ((m:Int),c)) (ht:s.DO[m]?=Α t) (hg:t.ι=(e:Int)) (he:(a.ps.getD k (0,0)).2=(e:Int)) (Hg:s.ε[e]?=Α qs):
  GC a s (.F7 k) {s with γ:=s.γ.set k (cr lk),ε:=s.ε.set e (qs++[((m:Int),c)])}
 |back {k:Nat} {lk:bV} (hk:s.γ[k]?=Α lk) (hb:0<lk.b):GC a s (.back k) {s with γ:=s.γ.set k (qc lk)}
theorem GC.done(h:GC a s m s'):s'.done=s.done:=by
 cases h<;>rfl
structure Sml(s:YS):Prop where
 q:∀(k:Nat)(ln:bV),s.γ[k]?=Α ln->ln.qs.length<=10000
 l:∀(p:Nat)(qs:List (Int×Int)),s.ε[p]?=Α qs->qs.length<=10000
 d:s.done.length<=100000
theorem kX(h:cU s l m c=Δ):∃a,s.γ[l]?=Α a/\cp a.r a.h m c=Δ:=by
 unfold cU at h
 cases b:s.γ[l]? with
 |none=>rw[b]at h;cases h
 |some a=>rw[b]at h;exact⟨a,Λ,h⟩
theorem yg(h:m∈iX a s k):∃l t b,m=.FD k l/\s.DO[k]?=Α t/\t.δ≠t.len/\l∈cn a t/\s.γ[l]?=Α b/\cp b.r b.h k t.δ=Δ:=by
 unfold iX at h
 cases d:s.DO[k]? with
 |none=>rw[d]at h;cases h
 | some t =>
  rw[d]at h
  dsimp only at h
  by_cases c:t.δ=t.len
  ·rw[Ι c]at h;cases h
  rw[Θ c]at h
  obtain⟨l,e,rfl⟩:=Ö.mp h
  obtain⟨f,g⟩:=ϩ.mp e
  obtain⟨b,i,j⟩:=kX g
  exact⟨l,t,b,Λ,Λ,c,f,i,j⟩
theorem ye(h:m∈j0 a s k):∃l q lk c,m=.on k l/\s.γ[k]?=Α lk/\lk.qs.head?=Α q/\l∈ci a s k/\s.γ[l]?=Α c/\cp c.r c.h q.1 q.2=Δ:=by
 unfold j0 at h
 cases b:bB s k with
 |none=>rw[b]at h;cases h
 | some q =>
  rw[b]at h
  dsimp only at h
  obtain⟨l,e,rfl⟩:=Ö.mp h
  obtain⟨f,g⟩:=ϩ.mp e
  obtain⟨c,i,j⟩:=kX g
  unfold bB at b
  cases d:s.γ[k]? with
  |none=>rw[d]at b;cases b
  |some lk=>rw[d]at b;exact⟨l,q,_,c,Λ,Λ,b,f,i,j⟩
theorem uh(h:m∈fS a s k):∃q lk t,m=.F7 k/\s.γ[k]?=Α lk/\lk.qs.head?=Α q/\s.DO[q.1.toNat]?=Α t/\t.ι=(a.ps.getD k (0,0)).2:=by
 unfold fS at h
 cases b:bB s k with
 |none=>rw[b]at h;cases h
 | some q =>
  rw[b]at h
  dsimp only at h
  cases c:s.DO[q.1.toNat]? with
  |none=>rw[c]at h;cases h
  | some t =>
   rw[c]at h
   dsimp only at h
   by_cases d:t.ι=(a.ps.getD k (0,0)).2
   ·rw[Ι d]at h
    have f:m=.F7 k:=by simpa using h
    unfold bB at b
    cases e:s.γ[k]? with
    |none=>rw[e]at b;cases b
    |some lk=>rw[e]at b;exact⟨q,_,t,f,Λ,b,c,d⟩
   ·rw[Θ d]at h;cases h
theorem qa(h:m∈dI s k):∃lk,m=.back k/\s.γ[k]?=Α lk/\0<lk.b:=by
 unfold dI at h
 cases c:s.γ[k]? with
 |none=>rw[c]at h;cases h
 | some lk =>
  rw[c]at h
  dsimp only at h
  by_cases a:0<lk.b
  ·rw[Ι a]at h;exact⟨_,by simpa using h,Λ,a⟩
  ·rw[Θ a]at h;cases h
theorem ve(h:m∈cy a s):Bp s m/\m∈uj a s m:=by
 unfold cy at h
 rw[ϯ,ϯ,ϯ]at h
 rcases h with ((h|h)|h)|h
 ·obtain⟨k,b,h⟩:=Č.mp h
  obtain⟨l,t,c,rfl,_⟩:=yg h
  exact⟨È.mp b,h⟩
 ·obtain⟨k,b,h⟩:=Č.mp h
  obtain⟨l,q,lk,c,rfl,_⟩:=ye h
  exact⟨È.mp b,h⟩
 ·obtain⟨k,b,h⟩:=Č.mp h
  obtain⟨q,lk,t,rfl,_⟩:=uh h
  exact⟨È.mp b,h⟩
 ·obtain⟨k,b,h⟩:=Č.mp h
  obtain⟨lk,rfl,_⟩:=qa h
  exact⟨È.mp b,h⟩
noncomputable def yQ:Mv->ġ
 |.FD k l =>.tuple [.str "in",.int k,.int l]
 |.on k l =>.tuple [.str "on",.int k,.int l]
 |.F7 k =>.tuple [.str "lie",.int k]
 |.back k =>.tuple [.str "back",.int k]
theorem jQ(h:ġ.strOk x=Δ):Ho (.str x) 0:=⟨by simp[gS,h],by simp[q5]⟩
theorem nU(m:Mv):Ho (yQ m) 1:=by
 cases m<;>refine m6 (m:=0) λy a=>?_<;>simp only[ϥ,Õ,or_false]at a
 ·rcases a with rfl|rfl|rfl
  ·exact jQ (by decide +kernel)
  ·exact fj _
  ·exact fj _
 ·rcases a with rfl|rfl|rfl
  ·exact jQ (by decide +kernel)
  ·exact fj _
  ·exact fj _
 ·rcases a with rfl|rfl
  ·exact jQ (by decide +kernel)
  ·exact fj _
 ·rcases a with rfl|rfl
  ·exact jQ (by decide +kernel)
  ·exact fj _
theorem y6(m:Mv)(h:H p=Α (.tup (eO m))):pe K H (.ref p) (yQ m):=by
 cases m<;>refine .tup (Ec.of h) ?_
 ·exact .cons (.str _) (.cons (.int _) (.cons (.int _) .nil))
 ·exact .cons (.str _) (.cons (.int _) (.cons (.int _) .nil))
 ·exact .cons (.str _) (.cons (.int _) .nil)
 ·exact .cons (.str _) (.cons (.int _) .nil)
theorem oR:∀{b:List V}{a:List Mv},Paired (FJ H) b (a.map eO)->lU K H b (a.map yQ)
 |[],[],_ =>.nil
 |_:: _,m:: a,.cons ⟨t,e,h⟩ r=>by subst e;exact .cons (y6 m h) (oR r)
 |[],_:: _,h=>by cases h
 |_:: _,[],h=>by cases h
theorem DF{a:List Mv}(h:m∈a):((a.map yQ).any λy=>Ō y (yQ m))=Δ:=by
 rw[ō]
 exact⟨_,Ö.mpr ⟨m,h,Λ⟩,SeqAt.eqv_refl _ (nU m).1⟩
inductive BM(K:ϧ)(c:Cs)(TC:Ν)(J:TJ)(ys:Ys)(vs:List V)(H:Hp)(Q:VK)(E:XK):Prop
 |mk (a:YA) (s:YS) (p:Ν) (m:Mv) (_:vs=[.ref a.y,.ref p]) (_:JM K c TC J ys H a s) (_:H p=Α (.tup (eO m))) (_:m∈cy a s) (_:Sml s) (_:∀(H':Hp)(s':YS),GC a s m s'->Ee a.four H H'->F0 K ys H' a {s' with done:=s.done++[eO m]}->Q .Eh H')
structure DoM(P:Program)(w:Î)(K:ϧ)(mg:Str->Option Τ)(μ:Ü)(c:Cs)(TC:Ν)(J:TJ)(ys:Ys)(fk fg fe fp fb fy:Ν)(dk dg de dp db dy:Ý):Prop where
 mk':cb K ys.DU "moves_like" fk
 bk:Binds K dk ["self","move"] []
 Gk:DQ P w K mg μ aF 7 fk dk ["self","move"] (wA K c TC J ys)
 mg':cb K ys.DU "go_in" fg
 bg:Binds K dg ["self","number","lane"] []
 Gg:DQ P w K mg μ aF 6 fg dg ["self","number","lane"] (wG K ys)
 me:cb K ys.DU "enter" fe
 be:Binds K de ["self","piece","lane"] []
 Ge:DQ P w K mg μ aF 5 fe de ["self","piece","lane"] (nQ K ys)
 mp:cb K ys.Ep "pull" fp
 bp:Binds K dp ["self"] []
 Gp:DQ P w K mg μ aF 1 fp dp ["self"] (rn ys.Ep)
 mb:cb K ys.Ep "bring" fb
 bb:Binds K db ["self"] []
 Gb:DQ P w K mg μ aF 1 fb db ["self"] (tL ys.Ep)
 my:cb K ys.DU "lay" fy
 L7:Binds K dy ["self","piece","place"] []
 Gy:DQ P w K mg μ aF 1 fy dy ["self","piece","place"] (Bf K ys)
theorem XG:aw ["self","move"] ["self","move"] (am WQ):=L2.Eu
theorem RC(F:En K "do" "Yard.do" WQ f fd)(Y:jA K ys)(L:kC K c)(W:Wy K TC fw dw J)(O:Own P w K mg μ ys fl ft fpu dl dt dpu)
  (D:DoM P w K mg μ c TC J ys fk fg fe fp fb fy dk dg de dp db dy) (Me:qT K c fen den) (Gen:DQ P w K mg μ aF 1 fen den ["self","lane"] (pz c Ï)):
  DQ P w K mg μ aF 8 f fd ["self","move"] (BM K c TC J ys):=by
 refine F.ok XG λ_ _ _ s H _ Q E hr h=>?_
 obtain⟨a,u,p,m,rfl,hI,hp,hm,hS,q⟩:=h
 have hu:=hr.units
 have Ex:Ea 1 _:=hr.mono (by decide)
 have HX:Ea 4 _:=hr.mono (by decide)
 have NU:Ea 5 _:=hr.mono (by decide)
 have Uu:Ea 6 _:=hr.mono (by decide)
 refine⟨_,ae (aP (az (uV hu) (pv 1) (aH (pv 0) Y.cl D.mk' D.Gk hr D.bk .nil ar (aa (pv 1) ad)) (by with_unfolding_all rfl)) (aj aY) aE)
  (ae (tS (aP (az bN (aD DV (pv 1) ao (λ_ _=>rfl)) cx (aC _))
   (aj (aX (aH (pv 0) Y.cl D.mg' D.Gg Uu D.bg .nil ar (aa (aD DV (pv 1) ao (λ_ _=>rfl)) (aa (aD DV (pv 1) ao (λ_ _=>rfl)) ad)))))
   (aj (aP (az bN (aD DV (pv 1) ao (λ_ _=>rfl)) cx (aC _))
    (aj (aX (aH (pv 0) Y.cl D.me D.Ge NU D.be .nil ar (aa (cj (aH (pv 0) Y.cl O.ml O.Gl HX O.bl .nil ar (aa (aD DV (pv 1) ao (λ_ _=>rfl)) ad)) Y.L.cl D.mp D.Gp Ex D.bp .nil ar) (aa (aD DV (pv 1) ao (λ_ _=>rfl)) ad)))))
    (aj (aP (az bN (aD DV (pv 1) ao (λ_ _=>rfl)) cx (aC _))
     (aj (aX (aH (pv 0) Y.cl D.my D.Gy Ex D.L7 .nil ar (aa (cj (aH (pv 0) Y.cl O.ml O.Gl HX O.bl .nil ar (aa (aD DV (pv 1) ao (λ_ _=>rfl)) ad)) Y.L.cl D.mp D.Gp Ex D.bp .nil ar) (aa (aH (ap (ap (pv 0) Λ) Λ) L.cl Me.m Gen Ex Me.b .nil ar (aa (aD DV (pv 1) ao (λ_ _=>rfl)) ad)) ad)))))
     (aj (aX (cj (aH (pv 0) Y.cl O.ml O.Gl HX O.bl .nil ar (aa (aD DV (pv 1) ao (λ_ _=>rfl)) ad)) Y.L.cl D.mb D.Gb Ex D.bb .nil ar)))))))))
  (aj (aX (cF plainAttrs_list PySem.F.slot_list_append PySem.F.type_list_append bX (ap (pv 0) Λ) (aa (pv 1) ad))))),?_⟩
 obtain⟨DY,RD⟩:=ve hm
 refine⟨_,_,_,Λ,hI.Y.ρ,Λ,a,u,p,m,Λ,hI,hp,DY,λDl E2 N s1 hDl gDl hpr=>?_⟩
 refine⟨_,_,_,_,Λ,y6 m (s1 _ _ hp),DT.of gDl,oR hpr,(nU m).le (by decide),λz hz=>by obtain⟨m',_,rfl⟩:=Ö.mp hz;exact(nU m').le (by decide),_,Λ,?_⟩
 rw[DF RD]
 refine aJ ?_
 have II:=hI.same W s1
 have g:=s1 _ _ hp
 have I:=II.Y
 refine⟨λσ' H'=>σ'=start ["self","move"] [.ref a.y,.ref p]/\∃s',GC a u m s'/\Ee a.four N H'/\F0 K ys H' a s',?_,?_⟩
 ·
  have Ku:∀(k:Nat)(lk:bV)(pq:Int×Int),u.γ[k]?=Α lk->lk.qs.head?=Α pq->∀(Ed:List V),N a.la=Α (.π Ed)->∀(x dx pa:Ν)(Es:List V)(H2:Hp),Ee [a.la] N H2->N x=Β->N pa=Β->H2 a.la=Α (.π (Ed.set k (.ref x)))->Em H2 ys.Ep x dx pa lk.r lk.b lk.h Es lk.qs->
    ∀(Q':VK)(E':XK),(∀(v:V)(M:Hp),AS M v pq->Ee [a.la] N M->F0 K ys M a {u with γ:=u.γ.set k (cr lk)}->Q' v M)->rn ys.Ep [.ref x] H2 Q' E':=by
   intro k lk pq A S Ed X x dx pa Es H2 o2 nx np g2 U Q' E' hQ
   refine⟨x,_,_,_,_,_,_,_,Λ,U,λe0=>?_,λv rest ev M Z G7=>?_⟩
   ·exfalso
    have hl:=Paired.length U.Fv
    rw[e0]at hl
    cases Hg:lk.qs with
    |nil=>rw[Hg]at S;cases S
    |cons _ _=>rw[Hg]at hl;cases hl
   ·have o4:=λb o nb e=>Z b o (ah e nx) (ah e np) (o2 b o nb e)
    refine hQ v M ?_ o4 (F0.HQ I X o4 (k:=k) (x:=x) (dx:=dx) (pa:=pa) (Z _ _ (ah X nx) (ah X np) g2) (ln:=cr lk) G7 np)
    have hz:=Fz.Jo Z U.ρ U.π U.Fv
    rw[ev]at hz
    cases Hg:lk.qs with
    |nil=>rw[Hg]at S;cases S
    | cons q0 r0 =>
     rw[Hg]at S hz
     cases S
     cases hz with
     |cons z _=>exact z
  obtain⟨Ed,X,JL⟩:=I.υ
  have p3:∀{M:Hp}{ex:List Ν}{xs:List V},N p=Α (.tup xs)->Ee ex N M->(∀b∈ex,b∈a.four)->M p=Α (.tup xs):=λh o he=>o _ _ (λz=>by obtain⟨xs,hz⟩:=I.Ja _ (he _ z);rw[h]at hz;cases hz) h
  cases m with
  | FD k l =>
   have g:=g
   obtain⟨l',t,ln,e0,ht,hg,hl,El,ho⟩:=yg (RD)
   cases e0
   refine⟨p,_,0,_,Λ,Λ,Ec.of g,aq (j:=0) Λ,Λ,_,Λ,?_⟩
   rw[kL]
   refine aL ⟨a.y,a.dy,_,Λ,I.ρ,Λ,p,_,1,_,Λ,Λ,Ec.of g,aq (j:=1) Λ,p,_,2,_,Λ,Λ,Ec.of g,aq (j:=2) Λ,a,u,k,l,t,ln,Λ,I,ht,El,ho,(hI.G.EG k t ht).2,į (hS.q l ln El) (by decide),λH' o' NJ=>⟨Λ,_,GC.FD ht hg hl El ho,o'.mono (by simp),NJ⟩⟩
  | on k l =>
   have g:=g
   obtain⟨l',pq,lk,ln,e0,A,S,hl,El,ho⟩:=ye (RD)
   cases e0
   obtain⟨m,t,em,ht,Jc⟩:=hI.G.Fv k lk A pq (ċ S)
   obtain⟨m0,cq⟩:=pq
   have em:=em
   subst em
   refine⟨p,_,0,_,Λ,Λ,Ec.of g,aq (j:=0) Λ,Λ,_,Λ,?_⟩
   rw[jL (by decide +kernel)]
   refine aJ ⟨p,_,0,_,Λ,Λ,Ec.of g,aq (j:=0) Λ,Λ,_,Λ,?_⟩
   rw[kL]
   refine aL ⟨a.y,a.dy,_,Λ,I.ρ,Λ,a.y,a.dy,_,Λ,I.ρ,Λ,p,_,1,_,Λ,Λ,Ec.of g,aq (j:=1) Λ,a,u,k,lk,Ed,Λ,I,A,X,λx dx pa Es H2 o2 nx np g2 U=>⟨x,dx,_,Λ,U.ρ,Λ,Ku k lk _ A S Ed X x dx pa Es H2 o2 nx np g2 U _ (λ_ _ _=>False) λv M hv Z GP=>?_⟩⟩
   have OI:=p3 g Z (by simp)
   have Fg:=(gQ0 A)
   obtain⟨B,RE,er,eh,eq⟩:∃B,(u.γ.set k (cr lk))[l]?=Α B/\B.r=ln.r/\B.h=ln.h/\B.qs.length<=10000:=by
    by_cases RF:k=l
    ·subst RF
     rw[A]at El
     cases El
     refine⟨cr lk,by simp[Fg],Λ,Λ,?_⟩
     have:=hS.q k lk A
     show lk.qs.tail.length<=10000
     rw[List.length_tail];omega
    ·exact⟨_,by rw[à RF];exact El,Λ,Λ,hS.q l ln El⟩
   have Fy:cp B.r B.h m cq=Δ:=by rw[er,eh];exact ho
   refine⟨p,_,2,_,Λ,Λ,Ec.of OI,aq (j:=2) Λ,a,_,v,m,_,l,t,B,Λ,GP,hv,ht,RE,Fy,(hI.G.EG m t ht).2,į eq (by decide),λH' o' NJ=>⟨Λ,_,GC.on A S ht hl RE Fy,(Z.mono (by simp)).trans (o'.mono (by simp)),NJ⟩⟩
  | F7 k =>
   have g:=g
   obtain⟨pq,lk,t0,e0,A,S,MF,hg⟩:=uh (RD)
   obtain⟨m,t,em,ht,Jc⟩:=hI.G.Fv k lk A pq (ċ S)
   obtain⟨m0,cq⟩:=pq
   have em:=em
   subst em
   have MF:u.DO[m]?=Α t0:=by rw[←MF];rfl
   rw[ht]at MF
   cases MF
   have Fg:=(gQ0 A)
   have OR:k<a.ps.length:=by rw[←hI.G.γ];exact Fg
   have he:=Μ OR
   have JN:a.ps.getD k (0,0)=a.ps[k]:=by rw[Χ,he];rfl
   obtain⟨e,ee,R9⟩:=hI.O.ends k _ he
   rw[JN,ee]at hg
   have hel:e<u.ε.length:=by rw[hI.G.ε];exact R9
   have Hg:=Μ hel
   refine⟨p,_,0,_,Λ,Λ,Ec.of g,aq (j:=0) Λ,Λ,_,Λ,?_⟩
   rw[jL (by decide +kernel)]
   refine aJ ⟨p,_,0,_,Λ,Λ,Ec.of g,aq (j:=0) Λ,Λ,_,Λ,?_⟩
   rw[jL (by decide +kernel)]
   refine aJ ⟨p,_,0,_,Λ,Λ,Ec.of g,aq (j:=0) Λ,Λ,_,Λ,?_⟩
   rw[kL]
   refine aL ⟨a.y,a.dy,_,Λ,I.ρ,Λ,a.y,a.dy,_,Λ,I.ρ,Λ,p,_,1,_,Λ,Λ,Ec.of g,aq (j:=1) Λ,a,u,k,lk,Ed,Λ,I,A,X,λx dx pa Es H2 o2 nx np g2 U=>⟨x,dx,_,Λ,U.ρ,Λ,Ku k lk _ A S Ed X x dx pa Es H2 o2 nx np g2 U _ (λ_ _ _=>False) λv M hv Z GP=>?_⟩⟩
   have OI:=p3 g Z (by simp)
   have Jq:=F5.keep W II.T (Ee.Er (λb hb=>by simp at hb;subst hb;exact⟨_,X⟩) Z)
   obtain⟨IG,fst,HJ,EK,FK⟩:=Jq.i
   refine⟨_,_,_,_,_,Λ,GP.ρ,Y.cl,Y.n1,Λ,_,_,_,_,_,Λ,HJ,W.cl,W.nl,EK,_,_,_,Λ,Jq.l.1,Λ,p,_,1,_,Λ,Λ,Ec.of OI,aq (j:=1) Λ,_,_,_,_,_,_,k,_,Λ,Jq.l,he,?_⟩
   rw[ee]
   exact⟨a,_,v,_,e,_,Λ,GP,hv,Hg,À (hS.l e _ Hg) (by decide),λH' o' NJ=>⟨Λ,_,GC.F7 A S ht hg (by rw[JN,ee]) Hg,(Z.mono (by simp)).trans (o'.mono (by simp)),NJ⟩⟩
  | back k =>
   have g:=g
   obtain⟨lk,e0,A,hb⟩:=qa (RD)
   refine⟨p,_,0,_,Λ,Λ,Ec.of g,aq (j:=0) Λ,Λ,_,Λ,?_⟩
   rw[jL (by decide +kernel)]
   refine aJ ⟨p,_,0,_,Λ,Λ,Ec.of g,aq (j:=0) Λ,Λ,_,Λ,?_⟩
   rw[jL (by decide +kernel)]
   refine aJ ⟨p,_,0,_,Λ,Λ,Ec.of g,aq (j:=0) Λ,Λ,_,Λ,?_⟩
   rw[jL (by decide +kernel)]
   refine aJ ⟨a.y,a.dy,_,Λ,I.ρ,Λ,p,_,1,_,Λ,Λ,Ec.of g,aq (j:=1) Λ,a,u,k,lk,Ed,Λ,I,A,X,λx dx pa Es H2 o2 nx np g2 U=>⟨x,dx,_,Λ,U.ρ,Λ,x,dx,pa,lk.r,lk.b,lk.h,Es,lk.qs,Λ,U,(λe0=>by rw[e0]at hb;exact Κ hb (by decide)),λ_ M Z G7=>?_⟩⟩
   have o4:Ee [a.la] N M:=λb o nb e=>Z b o (ah e nx) (ah e np) (o2 b o nb e)
   exact⟨Λ,_,GC.back A hb,o4.mono (by simp),F0.HQ I X o4 (k:=k) (x:=x) (dx:=dx) (pa:=pa) (Z _ _ (ah X nx) (ah X np) g2) (ln:=qc lk) G7 np⟩
 ·rintro σ' H2 ⟨rfl,s',hs,o2,Js⟩
  obtain⟨EZ,OO,pd⟩:=Js.HP
  have Qp:EZ.length=u.done.length:=by rw[Paired.length pd,hs.done]
  have Kg:=o2 _ _ (λz=>by obtain⟨xs,hz⟩:=I.Ja _ z;rw[g]at hz;cases hz) g
  have hd:=hS.d
  refine⟨_,_,_,_,_,Λ,Js.ρ,Y.cl,Y.n6,Λ,.inl ⟨Λ,_,DT.of OO⟩,_,_,_,Λ,Λ,OO,by rw[Ω];omega,?_⟩
  have GP:=Js.M9 OO ⟨p,Λ,Kg⟩
  rw[hs.done]at GP
  exact q _ s' hs ((DP.E8 s1).trans (o2.trans (cN (by simp)))) GP
theorem bL{a:Type}{L:List a}{y z:a}(h:(L.set k y)[j]?=Α z):(j=k/\z=y)∨(j≠k/\L[j]?=Α z):=by
 by_cases e:k=j
 ·subst e
  rw[List.getElem?_set_self']at h
  cases b:L[k]? with
  |none=>rw[b]at h;cases h
  |some x=>rw[b]at h;cases h;exact .inl ⟨Λ,Λ⟩
 ·rw[à e]at h
  exact .inr ⟨Ϟ e,h⟩
theorem cO{a:Type}{L:List a}{x y:a}(h:L[k]?=Α x):(L.set k y)[k]?=Α y:=by
 have:=(gQ0 h)
 simp[this]
theorem fV{a:Type}(f:a->Nat):∀{L:List a}{k:Nat}{x y:a},L[k]?=Α x->((L.set k y).map f).sum+f x=(L.map f).sum+f y
 |[],_,_,_,h=>by cases h
 |z:: L,0,x,y,h=>by cases h;simp only[Qj,Ϭ,Ù];omega
 | z:: L,k+1,x,y,h=>by
  have:=fV f (L:=L) (k:=k) (x:=x) (y:=y) h
  simp only[Qk,Ϭ,Ù];omega
theorem kF{a:Type}(f:a->Int):∀{L:List a}{k:Nat}{x y:a},L[k]?=Α x->((L.set k y).map f).sum+f x=(L.map f).sum+f y
 |[],_,_,_,h=>by cases h
 |z:: L,0,x,y,h=>by cases h;simp only[Qj,Ϭ,Ù];omega
 | z:: L,k+1,x,y,h=>by
  have:=kF f (L:=L) (k:=k) (x:=x) (y:=y) h
  simp only[Qk,Ϭ,Ù];omega
noncomputable def oQ(a:YA)(l:Nat):Int:=(a.ps.getD l (0,0)).2
noncomputable def iJ(s:YS):Nat:=(s.γ.map λln=>ln.qs.length).sum
noncomputable def ie(s:YS):Nat:=(s.ε.map λqs=>qs.length).sum
noncomputable def fW(s:YS):Int:=(s.DO.map λt=>t.δ).sum
structure Uv(a:YA)(s:YS)(m:Nat)(c:Int):Prop where
 γ:s.γ.length=a.ps.length
 ε:s.ε.length=a.n
 EH:s.DO.length<=60
 JE:a.ps.length<=40
 lets:∀(m:Nat)(t:bD),s.DO[m]?=Α t->∃x y:Nat,t.start=(x:Int)/\t.ι=(y:Int)/\x<a.n/\y<a.n
 EG:∀(m:Nat)(t:bD),s.DO[m]?=Α t->(∀l∈t.ω,l<a.ps.length)/\t.ω.Nodup
 Fv:∀(k:Nat)(ln:bV),s.γ[k]?=Α ln->∀q∈ln.qs,∃(m:Nat)(t:bD),q.1=(m:Int)/\s.DO[m]?=Α t/\k∈t.ω
 FL:∀(m:Nat)(t:bD),s.DO[m]?=Α t->0<=t.δ/\t.δ<=t.len/\t.len<=60
 EX:∀(m':Nat)(t:bD),s.DO[m']?=Α t->t.δ=0->t.ω=[]/\m'≠m
 last:∀(m:Nat)(t:bD),s.DO[m]?=Α t->∀(i l:Nat),t.ω[i]?=Α l->oQ a l=t.ι->i+1=t.ω.length
 head:∀(m':Nat)(t:bD),s.DO[m']?=Α t->∀(l:Nat)(ln:bV),t.ω.getLast?=Α l->s.γ[l]?=Α ln->(m'=m/\c=0)∨((m':Int),(0:Int))∈ln.qs∨oQ a l=t.ι
 first:∀(k:Nat)(ln:bV),s.γ[k]?=Α ln->∀(i j:Nat)(z:Int)(q:Int×Int),ln.qs[i]?=Α (z,0)->j<i->ln.qs[j]?=Α q->q.1≠z
 Ju:∀(k:Nat)(ln:bV),s.γ[k]?=Α ln->∀(m':Nat)(t:bD),((m':Int),(0:Int))∈ln.qs->s.DO[m']?=Α t->t.ω.getLast?=Α k
 δ:c=0->∀(k:Nat)(ln:bV),s.γ[k]?=Α ln->((m:Int),(0:Int))∉ln.qs
 sum:(iJ s:Int)+(ie s:Int)+1=fW s
structure Ff(a:YA)(s:YS):Prop where
 γ:s.γ.length=a.ps.length
 ε:s.ε.length=a.n
 EH:s.DO.length<=60
 JE:a.ps.length<=40
 lets:∀(m:Nat)(t:bD),s.DO[m]?=Α t->∃x y:Nat,t.start=(x:Int)/\t.ι=(y:Int)/\x<a.n/\y<a.n
 EG:∀(m:Nat)(t:bD),s.DO[m]?=Α t->(∀l∈t.ω,l<a.ps.length)/\t.ω.Nodup
 Fv:∀(k:Nat)(ln:bV),s.γ[k]?=Α ln->∀q∈ln.qs,∃(m:Nat)(t:bD),q.1=(m:Int)/\s.DO[m]?=Α t/\k∈t.ω
 FL:∀(m:Nat)(t:bD),s.DO[m]?=Α t->0<=t.δ/\t.δ<=t.len/\t.len<=60
 EX:∀(m':Nat)(t:bD),s.DO[m']?=Α t->t.δ=0->t.ω=[]
 last:∀(m:Nat)(t:bD),s.DO[m]?=Α t->∀(i l:Nat),t.ω[i]?=Α l->oQ a l=t.ι->i+1=t.ω.length
 head:∀(m':Nat)(t:bD),s.DO[m']?=Α t->∀(l:Nat)(ln:bV),t.ω.getLast?=Α l->s.γ[l]?=Α ln->((m':Int),(0:Int))∈ln.qs∨oQ a l=t.ι
 first:∀(k:Nat)(ln:bV),s.γ[k]?=Α ln->∀(i j:Nat)(z:Int)(q:Int×Int),ln.qs[i]?=Α (z,0)->j<i->ln.qs[j]?=Α q->q.1≠z
 Ju:∀(k:Nat)(ln:bV),s.γ[k]?=Α ln->∀(m':Nat)(t:bD),((m':Int),(0:Int))∈ln.qs->s.DO[m']?=Α t->t.ω.getLast?=Α k
 sum:(iJ s:Int)+(ie s:Int)=fW s
theorem gX:∀(n:Nat)(l:List Nat),l.Nodup->(∀x∈l,x<n)->l.length<=n
 | 0,l,_,h=>by
  cases l with
  |nil=>exact Ρ _
  |cons x _=>exact Κ (h x ώ) (by omega)
 | n+1,l,hn,h=>by
  have c:=gX n (l.filter λx=>decide (x≠n)) (hn.filter _) λx d=>by
   obtain⟨a,b⟩:=ϩ.mp d
   have:=h x a
   have:=of_decide_eq_true b
   omega
  have i:l.length<=(l.filter λx=>decide (x≠n)).length+1:=by
   clear c h
   induction l with
   |nil=>exact Ϧ _
   | cons x l f =>
    rw[Ć]at hn
    by_cases e:x=n
    ·subst e
     have:(l.filter λy=>decide (y≠x))=l:=Q1.mpr λy g=>Ζ λz=>hn.1 (z▸g)
     rw[ģ (by simp),this]
     exact Ρ _
    ·rw[Ŵ (by simpa using e)]
     have:=f hn.2
     simp only[ï]
     exact Ð ‹_›
  omega
theorem Ff.ok(h:Ff a s):Xv a s:=⟨h.γ,h.ε,h.lets,λm t b=>⟨(h.EG m t b).1,by have:=gX _ _ (h.EG m t b).2 (h.EG m t b).1;have:=h.JE;omega⟩,h.Fv,h.EH⟩
theorem yc{a:Type}{x:a}{l:List a}(h:x∈l.tail):x∈l:=List.mem_of_mem_tail h
theorem yr{a:Type}{l:List a}{x:a}(h:l.head?=Α x):l[0]?=Α x:=by cases l with
 |nil=>cases h
 |cons y r=>exact h
theorem ui{a:Type}{l:List a}{x:a}(h:x∈l):∃i:Nat,l[i]?=Α x:=by
 obtain⟨i,b,e⟩:=ĵ h
 exact⟨i,by rw[Μ b,e]⟩
theorem pi{a:Type}(l:List a)(i:Nat):l.tail[i]?=l[i+1]?:=by cases l with
 |nil=>simp
 |cons y r=>rfl
theorem pY{k m:Nat}(J:Ff a s)(o:s.γ[k]?=Α lk)(g:lk.qs.head?=Α ((m:Int),c)):Uv a {s with γ:=s.γ.set k (cr lk)} m c:=by
 have T:=yr g
 have E:∀(j:Nat)(f:bV),(s.γ.set k (cr lk))[j]?=Α f->∃b,s.γ[j]?=Α b/\(∀q∈f.qs,q∈b.qs)/\∃d,(∀i,f.qs[i]?=b.qs[i+d]?)/\(f.qs=b.qs∨(j=k/\b=lk/\f.qs=lk.qs.tail)):=λj f h=>by
  rcases bL h with ⟨rfl,rfl⟩|⟨ne,h⟩
  ·exact⟨_,o,λq g=>yc g,1,λi=>pi _ i,.inr ⟨Λ,Λ,Λ⟩⟩
  ·exact⟨f,h,λq g=>g,0,λi=>rfl,.inl Λ⟩
 have keep:∀(j:Nat)(b:bV),s.γ[j]?=Α b->∃f,(s.γ.set k (cr lk))[j]?=Α f/\∀q∈b.qs,q=((m:Int),c)∨q∈f.qs:=λj b h=>by
  by_cases e:j=k
  ·subst e
   rw[o]at h
   cases h
   refine⟨_,cO o,λq x=>?_⟩
   show _∨q∈lk.qs.tail
   cases A:lk.qs with
   |nil=>rw[A]at g;cases g
   | cons z r =>
    rw[A]at g x
    cases g
    exact(ϥ.mp x).imp id id
  ·exact⟨b,by rw[à (Ϟ e)];exact h,λq g =>.inr g⟩
 refine⟨by rw[←J.γ];simp,J.ε,J.EH,J.JE,J.lets,J.EG,?_,J.FL,?_,J.last,?_,?_,?_,?_,?_⟩
 ·intro j f h q x
  obtain⟨b,n,p,_⟩:=E j f h
  exact J.Fv j b n q (p q x)
 ·intro u t B Q
  refine⟨J.EX u t B Q,λe=>?_⟩
  subst e
  obtain⟨F,N,G,H,I⟩:=J.Fv k lk o _ (ċ g)
  have:u=F:=by have:(u:Int)=(F:Int):=G;exact Ä ‹_›
  subst this
  rw[B]at H
  cases H
  rw[J.EX u t B Q]at I
  cases I
 ·intro u t B l f A R
  obtain⟨b,n,p,_⟩:=E l f R
  rcases J.head u t B l b A n with h|h
  ·obtain⟨O,C,S⟩:=keep l b n
   have C:=C
   rw[R]at C
   cases C
   rcases S _ h with e|h
   ·injection e with Z G
    exact .inl ⟨Ä ‹_›,G.symm⟩
   ·exact .inr (.inl h)
  ·exact .inr (.inr h)
 ·intro j f h i U z q D Eo x
  obtain⟨b,n,_,d,C,_⟩:=E j f h
  rw[C]at D x
  exact J.first j b n (i+d) (U+d) z q D (by omega) x
 ·intro j f h u t L B
  obtain⟨b,n,p,_⟩:=E j f h
  exact J.Ju j b n u t (p _ L) B
 ·intro X j f h L
  subst X
  obtain⟨b,n,p,d,C,S⟩:=E j f h
  obtain⟨F,N,G,H,_⟩:=J.Fv k lk o _ (ċ g)
  have:m=F:=by have:(m:Int)=(F:Int):=G;exact Ä ‹_›
  subst this
  have Y:=J.Ju k lk o m N (ċ g) H
  have M:=J.Ju j b n m N (p _ L) H
  rw[Y]at M
  have M:=Ϝ M
  subst M
  rcases bL h with ⟨_,rfl⟩|⟨ne,_⟩
  ·obtain⟨i,D⟩:=ui L
   have D:lk.qs.tail[i]?=Α ((m:Int),0):=D
   rw[pi]at D
   exact J.first k lk o (i+1) 0 _ _ D (ť _) T Λ
  ·exact ne Λ
 ·have:=fV (λb:bV=>b.qs.length) (y:=cr lk) o
  have A:(cr lk).qs.length+1=lk.qs.length:=by
   show lk.qs.tail.length+1=_
   cases A:lk.qs with
   |nil=>rw[A]at g;cases g
   |cons _ _=>rfl
  have p:=J.sum
  unfold iJ at p⊢
  show((((s.γ.set k (cr lk)).map λb=>b.qs.length).sum:Nat):Int)+(ie s:Int)+1=fW s
  omega
theorem yb(J:Ff a s)(p:s.DO[k]?=Α t)(I:t.δ≠t.len):Uv a (cv s k t) k t.δ:=by
 have L:=J.FL k t p
 have lk:∀(m:Nat)(b:bD),(s.DO.set k {t with δ:=t.δ+1})[m]?=Α b->∃c,s.DO[m]?=Α c/\b.start=c.start/\b.ι=c.ι/\b.ω=c.ω/\b.len=c.len/\((m=k/\b.δ=t.δ+1)∨(m≠k/\b.δ=c.δ)):=λm b h=>by
  rcases bL h with ⟨rfl,rfl⟩|⟨ne,h⟩
  ·exact⟨t,p,Λ,Λ,Λ,Λ,.inl ⟨Λ,Λ⟩⟩
  ·exact⟨b,h,Λ,Λ,Λ,Λ,.inr ⟨ne,Λ⟩⟩
 refine⟨J.γ,J.ε,by show(s.DO.set _ _).length<=60;rw[Ĵ];exact J.EH,J.JE,?_,?_,?_,?_,?_,?_,?_,J.first,?_,?_,?_⟩
 ·intro m b h
  obtain⟨c,d,r,o,_⟩:=lk m b h
  rw[r,o];exact J.lets m c d
 ·intro m b h
  obtain⟨c,d,r,o,n,_⟩:=lk m b h
  rw[n];exact J.EG m c d
 ·intro j u h q D
  obtain⟨m,c,e,d,x⟩:=J.Fv j u h q D
  by_cases B:m=k
  ·subst B
   rw[p]at d
   cases d
   exact⟨m,_,e,cO p,x⟩
  ·exact⟨m,c,e,by show(s.DO.set _ _)[m]?=_;rw[à (Ϟ B)];exact d,x⟩
 ·intro m b h
  obtain⟨c,d,r,o,n,v,f⟩:=lk m b h
  have:=J.FL m c d
  rcases f with ⟨rfl,f⟩|⟨_,f⟩
  ·rw[p]at d
   cases d
   rw[v,f];omega
  ·rw[v,f];exact this
 ·intro m b h M
  obtain⟨c,d,r,o,n,v,f⟩:=lk m b h
  rcases f with ⟨rfl,f⟩|⟨ne,f⟩
  ·omega
  ·rw[n];exact⟨J.EX m c d (by omega),ne⟩
 ·intro m b h i l C z
  obtain⟨c,d,r,o,n,v,f⟩:=lk m b h
  rw[n]at C⊢
  rw[o]at z
  exact J.last m c d i l C z
 ·intro m b h l u z E
  obtain⟨c,d,r,o,n,v,f⟩:=lk m b h
  rw[n]at z
  rw[o]
  exact .inr (J.head m c d l u z E)
 ·intro j u h m b A F
  obtain⟨c,d,r,o,n,v,f⟩:=lk m b F
  rw[n]
  exact J.Ju j u h m c A d
 ·intro G j u h A
  obtain⟨m,c,e,d,x⟩:=J.Fv j u h _ A
  have:k=m:=by have:(k:Int)=(m:Int):=e;exact Ä ‹_›
  subst this
  rw[p]at d
  cases d
  rw[J.EX k t p G]at x
  cases x
 ·have:=kF (λt:bD=>t.δ) (y:={t with δ:=t.δ+1}) p
  have H:=J.sum
  unfold fW at H⊢
  show (iJ s:Int)+(ie s:Int)+1=((s.DO.set k {t with δ:=t.δ+1}).map λt=>t.δ).sum
  have:({t with δ:=t.δ+1}:bD).δ=t.δ+1:=rfl
  omega
theorem yl{l:List Nat}(h:l.getLast?=Α x):l[l.length - 1]?=Α x:=by rw[←h,ũ]
theorem mK(M:Uv a s m c)(C:s.DO[m]?=Α t)(E:s.γ[l]?=Α o)(T:c=0->l∉t.ω/\∀x∈t.ω,oQ a x≠t.ι)(h1:c≠0->l∈t.ω):Ff a (c7 s m c l t o):=by
 have ET:l<a.ps.length:=by rw[←M.γ];exact(gQ0 E)
 have lk:∀(b:Nat)(d:bD),(c7 s m c l t o).DO[b]?=Α d->∃f,s.DO[b]?=Α f/\d.start=f.start/\d.ι=f.ι/\d.len=f.len/\d.δ=f.δ/\((c=0/\b=m/\f=t/\d.ω=t.ω++[l])∨(¬(c=0/\b=m)/\d.ω=f.ω)):=λb d h=>by
  have h:(if c=0 then s.DO.set m {t with ω:=t.ω++[l]} else s.DO)[b]?=Α d:=h
  by_cases n:c=0
  ·rw[Ι n]at h
   rcases bL h with ⟨rfl,rfl⟩|⟨ne,h⟩
   ·exact⟨t,C,Λ,Λ,Λ,Λ,.inl ⟨n,Λ,Λ,Λ⟩⟩
   ·exact⟨d,h,Λ,Λ,Λ,Λ,.inr ⟨λz=>ne z.2,Λ⟩⟩
  ·rw[Θ n]at h
   exact⟨d,h,Λ,Λ,Λ,Λ,.inr ⟨λz=>n z.1,Λ⟩⟩
 have G:∀(b:Nat)(f:bD),s.DO[b]?=Α f->∃d,(c7 s m c l t o).DO[b]?=Α d/\(∀x∈f.ω,x∈d.ω)/\(b=m->l∈d.ω):=λb f h=>by
  by_cases n:c=0
  ·by_cases e:b=m
   ·subst e
    rw[C]at h
    cases h
    refine⟨_,by show(if c=0 then s.DO.set b {t with ω:=t.ω++[l]} else s.DO)[b]?=_;rw[Ι n];exact cO C,λx g=>Í _ g,λ_=>by show l∈t.ω++[l];simp⟩
   ·exact⟨f,by show(if c=0 then s.DO.set m {t with ω:=t.ω++[l]} else s.DO)[b]?=_;rw[Ι n,à (Ϟ e)];exact h,λx g=>g,λz=>Κ z e⟩
  ·refine⟨f,by show(if c=0 then s.DO.set m {t with ω:=t.ω++[l]} else s.DO)[b]?=_;rw[Θ n];exact h,λx g=>g,λz=>?_⟩
   subst z
   rw[C]at h
   cases h
   exact h1 n
 have N:∀(j:Nat)(p:bV),(c7 s m c l t o).γ[j]?=Α p->(j=l/\p.qs=o.qs++[((m:Int),c)])∨(j≠l/\s.γ[j]?=Α p):=λj p h=>by
  rcases bL h with ⟨rfl,rfl⟩|⟨ne,h⟩
  ·exact .inl ⟨Λ,Λ⟩
  ·exact .inr ⟨ne,h⟩
 have H:∀(j:Nat)(p:bV),(c7 s m c l t o).γ[j]?=Α p->∀q∈p.qs,(j=l/\q=((m:Int),c))∨∃D,s.γ[j]?=Α D/\q∈D.qs:=λj p h q r=>by
  rcases N j p h with ⟨rfl,e⟩|⟨ne,h⟩
  ·rw[e,ϯ]at r
   rcases r with r|r
   ·exact .inr ⟨o,E,r⟩
   ·exact .inl ⟨Λ,by simpa using r⟩
  ·exact .inr ⟨p,h,r⟩
 refine⟨by rw[←M.γ];show(s.γ.set _ _).length=_;simp,M.ε,?_,M.JE,?_,?_,?_,?_,?_,?_,?_,?_,?_,?_⟩
 ·show(if c=0 then s.DO.set m {t with ω:=t.ω++[l]} else s.DO).length<=60
  by_cases n:c=0
  ·rw[Ι n,Ĵ];exact M.EH
  ·rw[Θ n];exact M.EH
 ·intro b d h
  obtain⟨f,u,O,A,_⟩:=lk b d h
  rw[O,A];exact M.lets b f u
 ·intro b d h
  obtain⟨f,u,_,_,_,_,e⟩:=lk b d h
  obtain⟨Q,R⟩:=M.EG b f u
  rcases e with ⟨n,rfl,rfl,e⟩|⟨_,e⟩
  ·rw[e]
   refine⟨λx g=>?_,?_⟩
   ·rcases ϯ.mp g with g|g
    ·exact Q x g
    ·rw[ϙ.mp g];exact ET
   ·rw[kA]
    exact⟨R,by simp,λx g y hy=>by rw[ϙ.mp hy];exact λz=>(T n).1 (z▸g)⟩
  ·rw[e];exact⟨Q,R⟩
 ·intro j p h q r
  rcases H j p h q r with ⟨rfl,rfl⟩|⟨D,u,r⟩
  ·obtain⟨d,B,_,F⟩:=G m t C
   exact⟨m,d,Λ,B,F Λ⟩
  ·obtain⟨b,f,e,B,hj⟩:=M.Fv j D u q r
   obtain⟨d,F,U,_⟩:=G b f B
   exact⟨b,d,e,F,U j hj⟩
 ·intro b d h
  obtain⟨f,u,_,_,X,Y,_⟩:=lk b d h
  rw[X,Y];exact M.FL b f u
 ·intro b d h Z
  obtain⟨f,u,_,_,_,Y,e⟩:=lk b d h
  rw[Y]at Z
  obtain⟨Q,R⟩:=M.EX b f u Z
  rcases e with ⟨n,rfl,_⟩|⟨_,e⟩
  ·exact Κ Λ R
  ·rw[e];exact Q
 ·intro b d h i x v g
  obtain⟨f,u,_,A,_,_,e⟩:=lk b d h
  rw[A]at g
  rcases e with ⟨n,rfl,rfl,e⟩|⟨_,e⟩
  ·rw[e]at v⊢
   by_cases I:i<f.ω.length
   ·rw[Ϫ I]at v
    exact Κ g ((T n).2 x (Ϙ v))
   ·have:=(gQ0 v)
    rw[ϗ,Â]at this⊢
    omega
  ·rw[e]at v⊢
   exact M.last b f u i x v g
 ·intro b d h x p g Im
  obtain⟨f,u,_,A,_,_,e⟩:=lk b d h
  rcases e with ⟨n,rfl,rfl,e⟩|⟨ne,e⟩
  ·rw[e]at g
   have g:l=x:=by simpa using g
   subst g
   rcases N l p Im with ⟨_,J⟩|⟨ne,_⟩
   ·left
    rw[J,n];simp
   ·exact Κ Λ ne
  ·rw[e]at g
   rcases N x p Im with ⟨rfl,J⟩|⟨ne',L⟩
   ·rcases M.head b f u x o g E with z|z|z
    ·exact Κ ⟨z.2,z.1⟩ ne
    ·exact .inl (by rw[J];exact Í _ z)
    ·rw[A];exact .inr z
   ·rcases M.head b f u x p g L with z|z|z
    ·exact Κ ⟨z.2,z.1⟩ ne
    ·exact .inl z
    ·rw[A];exact .inr z
 ·intro j p h i i' z q v I r
  rcases N j p h with ⟨rfl,e⟩|⟨_,L⟩
  ·rw[e]at v r
   by_cases Le:i<o.qs.length
   ·rw[Ϫ Le]at v
    rw[Ϫ (hH ‹_› ‹_›)]at r
    exact M.first j o E i i' z q v I r
   ·have B:=(gQ0 v)
    rw[ϗ,Â]at B
    have ei:i=o.qs.length:=by omega
    subst ei
    rw[ā]at v
    have v:=Ϝ v
    injection v with O A
    subst O
    rw[Ϫ I]at r
    intro ez
    obtain⟨b,f,X,F,U⟩:=M.Fv j o E q (Ϙ r)
    have em0:(b:Int)=(m:Int):=by rw[←X];exact ez
    have:m=b:=by omega
    subst this
    rw[C]at F
    cases F
    exact(T A).1 U
  ·exact M.first j p L i i' z q v I r
 ·intro j p h b d S L
  obtain⟨f,u,_,_,_,_,e⟩:=lk b d L
  rcases H j p h _ S with ⟨rfl,J⟩|⟨D,B,S⟩
  ·injection J with O A
   have em:b=m:=Ä ‹_›
   subst em
   rcases e with ⟨_,_,_,e⟩|⟨ne,_⟩
   ·rw[e];simp
   ·exact Κ ⟨A.symm,Λ⟩ ne
  ·rcases e with ⟨n,rfl,rfl,e⟩|⟨ne,e⟩
   ·exact Κ S (M.δ n j D B)
   ·rw[e];exact M.Ju j D B b f S u
 ·have q1:=fV (λo:bV=>o.qs.length) (y:=fH o m c t.len) E
  have q2:(fH o m c t.len).qs.length=o.qs.length+1:=by show(o.qs++[_]).length=_;simp
  have q3:fW (c7 s m c l t o)=fW s:=by
   unfold fW
   show((if c=0 then s.DO.set m {t with ω:=t.ω++[l]} else s.DO).map λt=>t.δ).sum=_
   by_cases n:c=0
   ·rw[Ι n]
    have:=kF (λt:bD=>t.δ) (y:={t with ω:=t.ω++[l]}) C
    have e:({t with ω:=t.ω++[l]}:bD).δ=t.δ:=rfl
    omega
   ·rw[Θ n]
  have u:=M.sum
  rw[q3]
  unfold iJ at u⊢
  show((((s.γ.set l (fH o m c t.len)).map λo=>o.qs.length).sum:Nat):Int)+(ie s:Int)=fW s
  omega
theorem Al(M:Uv a s m c)(j:s.DO[m]?=Α t)(l:s.ε[e]?=Α b)(n:c=0->∀x,t.ω.getLast?=Α x->oQ a x=t.ι):Ff a {s with ε:=s.ε.set e (b++[((m:Int),c)])}:=by
 refine⟨M.γ,by show(s.ε.set _ _).length=_;rw[Ĵ];exact M.ε,M.EH,M.JE,M.lets,M.EG,M.Fv,M.FL,λd f h z=>(M.EX d f h z).1,M.last,?_,M.first,M.Ju,?_⟩
 ·intro d f h x o i p
  rcases M.head d f h x o i p with ⟨rfl,q⟩|z|z
  ·have h:=h
   rw[j]at h
   cases h
   exact .inr (n q x i)
  ·exact .inl z
  ·exact .inr z
 ·have:=fV (λb:List (Int×Int)=>b.length) (y:=b++[((m:Int),c)]) l
  have r:=M.sum
  unfold ie at r⊢
  show (iJ s:Int)+((((s.ε.set e (b++[((m:Int),c)])).map λb=>b.length).sum:Nat):Int)=fW s
  rw[ϗ,Â]at this
  omega
theorem Ff.back(J:Ff a s)(n:s.γ[k]?=Α lk)(e:RG.qs=lk.qs):Ff a {s with γ:=s.γ.set k RG}:=by
 have g:∀(j:Nat)(b:bV),(s.γ.set k RG)[j]?=Α b->∃c,s.γ[j]?=Α c/\b.qs=c.qs:=λj b h=>by
  rcases bL h with ⟨rfl,rfl⟩|⟨_,h⟩
  ·exact⟨_,n,e⟩
  ·exact⟨b,h,Λ⟩
 refine⟨by rw[←J.γ];simp,J.ε,J.EH,J.JE,J.lets,J.EG,?_,J.FL,J.EX,J.last,?_,?_,?_,?_⟩
 ·intro j b h q o
  obtain⟨c,d,f⟩:=g j b h
  rw[f]at o
  exact J.Fv j c d q o
 ·intro m t p x b r u
  obtain⟨c,d,f⟩:=g x b u
  rw[f]
  exact J.head m t p x c r d
 ·intro j b h
  obtain⟨c,d,f⟩:=g j b h
  rw[f]
  exact J.first j c d
 ·intro j b h
  obtain⟨c,d,f⟩:=g j b h
  rw[f]
  exact J.Ju j c d
 ·have:=fV (λl:bV=>l.qs.length) (y:=RG) n
  have v:=J.sum
  have z:=congrArg List.length e
  unfold iJ at v⊢
  show((((s.γ.set k RG).map λl=>l.qs.length).sum:Nat):Int)+(ie s:Int)=fW s
  omega
theorem Ff.step(J:Ff a s)(h:GC a s m s'):Ff a s':=by
 cases h with
 | @FD k l t ln ht hg hl El ho =>
  have M:=yb J ht hg
  refine mK (t:={t with δ:=t.δ+1}) M (cO ht) El (λb=>?_) (λb=>?_)
  ·have g:=J.EX k t ht b
   rw[g]
   exact⟨by simp,by simp⟩
  ·unfold cn at hl
   rw[Θ b]at hl
   exact Ŧ hl
 | @on k l m c lk ln t hk hq ht hl El ho =>
  have M:=pY J hk hq
  have g:ci a s k=if c=0 then (jF a k t.ι.toNat).filter (λl=>!decide (l∈t.ω)) else (t.ω.drop (t.ω.idxOf k+1)).take 1:=by
   unfold ci bB
   rw[hk]
   dsimp only
   rw[hq]
   dsimp only
   rw[Υ,ht]
  rw[g]at hl
  refine mK M ht El (λb=>?_) (λb=>?_)
  ·rw[Ι b]at hl
   obtain⟨j,u⟩:=ϩ.mp hl
   refine⟨by simpa using u,λx d q=>?_⟩
   subst b
   obtain⟨i,r⟩:=ui d
   have y:=J.last m t ht i x r q
   have n:=J.Ju k lk hk m t (ċ hq) ht
   have f:=yl n
   rw[show t.ω.length - 1=i by omega,r]at f
   have f:=Ϝ f
   subst f
   unfold jF at j
   obtain⟨z,A,B,v,_,_⟩:=J.lets m t ht
   rw[Ι (by show oQ a x=_;rw[q,v,Υ])]at j
   cases j
  ·rw[Θ b]at hl
   exact Pp (Ŧ hl)
 | @F7 k m e c lk t qs hk hq ht hg he Hg =>
  have M:=pY J hk hq
  have:=Al (s:={s with γ:=s.γ.set k (cr lk)}) M ht Hg (λb x d=>?_)
  ·exact this
  ·subst b
   have n:=J.Ju k lk hk m t (ċ hq) ht
   rw[n]at d
   have d:=Ϝ d
   subst d
   show(a.ps.getD k (0,0)).2=t.ι
   rw[he,hg]
 | @back k lk hk hb=>exact J.back hk Λ
noncomputable def vU(s:YS):Int:=(s.DO.map λt=>t.len).sum
theorem sU{a:Type}(f g:a->Int):∀{L:List a},(∀(m:Nat)(t:a),L[m]?=Α t->f t<=g t)->(L.map f).sum<=(L.map g).sum
 |[],_=>by simp
 | x:: L,h=>by
  have c:=h 0 x Λ
  have d:=sU f g (L:=L) λm t b=>h (m+1) t b
  simp only[Ϭ,Ù];omega
theorem lX{a:Type}(g:a->Int):∀{L:List a},(∀(m:Nat)(t:a),L[m]?=Α t->g t<=60)->(L.map g).sum<=60* L.length
 |[],_=>by simp
 | x:: L,h=>by
  have c:=h 0 x Λ
  have d:=lX g (L:=L) λm t b=>h (m+1) t b
  simp only[Ϭ,Ù,ï];omega
theorem Ff.MI(J:Ff a s):(ie s:Int)<=vU s/\(iJ s:Int)+(ie s:Int)<=3600:=by
 have d:=sU (λt:bD=>t.δ) (λt=>t.len) (L:=s.DO) λm t b=>(J.FL m t b).2.1
 have c:=J.sum
 have e:=lX (λt:bD=>t.len) (L:=s.DO) λm t b=>(J.FL m t b).2.2
 have f:=J.EH
 unfold fW at c
 unfold vU
 omega
theorem gs{a:Type}(f:a->Nat):∀{L:List a}{k:Nat}{x:a},L[k]?=Α x->f x<=(L.map f).sum
 |[],_,_,h=>by cases h
 |z:: L,0,x,h=>by cases h;simp only[Ϭ,Ù];exact Nat.le_add_right _ _
 | z:: L,k+1,x,h=>by
  have:=gs f (L:=L) (k:=k) (x:=x) h
  simp only[Ϭ,Ù];omega
theorem Ff.sml(J:Ff a s)(d:s.done.length<=100000):Sml s:=by
 have h:=J.MI.2
 refine⟨λk b e=>?_,λp c f=>?_,d⟩
 ·have:=gs (λb:bV=>b.qs.length) e
  unfold iJ at h
  omega
 ·have:=gs (λc:List (Int×Int)=>c.length) f
  unfold ie at h
  omega
abbrev yx(ys:Ys)(ex:List Ν):Ys:={ys with ex:=ex}
def ScV(x:V):Prop:=(∃i,x=.int i)∨∃t,x=.str t/\ġ.strOk t=Δ
structure XH(a:YA)(s:YS):Prop where
 γ:s.γ.length=a.ps.length
 ε:s.ε.length=a.n
 q0:∀(k:Nat)(ln:bV),s.γ[k]?=Α ln->ln.qs=[]
 l0:∀(p:Nat)(qs:List (Int×Int)),s.ε[p]?=Α qs->qs=[]
 lets:∀(m:Nat)(t:bD),s.DO[m]?=Α t->t.δ=0/\t.ω=[]/\0<=t.len/\t.len<=60/\∃x y:Nat,t.start=(x:Int)/\t.ι=(y:Int)/\x<a.n/\y<a.n
 done:∀d∈s.done,∀x∈d,ScV x
theorem vV{a:Type}(f:a->Nat):∀{L:List a},(∀(k:Nat)(x:a),L[k]?=Α x->f x=0)->(L.map f).sum=0
 |[],_=>rfl
 | x:: L,h=>by
  have c:=h 0 x Λ
  have d:=vV f (L:=L) λk y b=>h (k+1) y b
  simp only[Ϭ,Ù];omega
theorem AX{a:Type}(f:a->Int):∀{L:List a},(∀(k:Nat)(x:a),L[k]?=Α x->f x=0)->(L.map f).sum=0
 |[],_=>rfl
 | x:: L,h=>by
  have c:=h 0 x Λ
  have d:=AX f (L:=L) λk y b=>h (k+1) y b
  simp only[Ϭ,Ù];omega
theorem XH.jnv(h:XH a s)(EH:s.DO.length<=60)(v:a.ps.length<=40):Ff a s:=by
 refine⟨h.γ,h.ε,EH,v,λm t b=>(h.lets m t b).2.2.2.2,λm t b=>?_,λk c d q o=>?_,λm t b=>?_,λm t b _=>(h.lets m t b).2.1,λm t b i l e=>?_,λm t b l c f=>?_,λk c d i j z q e=>?_,λk c d m t r=>?_,?_⟩
 ·rw[(h.lets m t b).2.1];exact⟨(λl f=>by cases f),ĺ⟩
 ·rw[h.q0 k c d]at o;cases o
 ·obtain⟨g,u,n,x,_⟩:=h.lets m t b
  rw[g];exact⟨Φ _,n,x⟩
 ·rw[(h.lets m t b).2.1]at e;cases e
 ·rw[(h.lets m t b).2.1]at f;cases f
 ·rw[h.q0 k c d]at e;cases e
 ·rw[h.q0 k c d]at r;cases r
 ·have g:iJ s=0:=vV _ λk c d=>by rw[h.q0 k c d];rfl
  have u:ie s=0:=vV _ λp y A=>by rw[h.l0 p y A];rfl
  have n:fW s=0:=AX _ λm t b=>(h.lets m t b).1
  rw[g,u,n];rfl
theorem uT(f:a<n)(g:b<n)(c:1<=l/\l<=60)(d:QL (.int u)=Δ)(i:a≠b)(e:wy a b Β≠[])(j:m<60):ot n wy m (.int a) (.int b) (.int l) (.int u)=.good:=by
 unfold ot
 rw[show lN (.int (a:Int)) 0 ((n:Int) - 1)=Δ from Ζ (by omega),show lN (.int (b:Int)) 0 ((n:Int) - 1)=Δ from Ζ (by omega),show lN (.int l) 1 60=Δ from Ζ c,d,Θ (by decide),Θ (by decide),Θ (by decide)]
 rw[Θ (by
  rintro (h|h)
  ·have h:(a:Int)=(b:Int):=h
   omega
  ·have h:wy ((a:Int)).toNat ((b:Int)).toNat Β=[]:=h
   rw[Υ,Υ]at h
   exact e h),Θ (Nat.not_le_of_lt ‹_›)]
theorem p8(s:DP H H1)(o:Ee ex H1 H2)(a:∀b∈ex,H b=Β):DP H H2:=λb u e=>o b _ (λz=>by rw[a b z]at e;cases e) (s b u e)
theorem Ff.done(J:Ff a s)(d:List (List V)):Ff a {s with done:=d}:=⟨J.γ,J.ε,J.EH,J.JE,J.lets,J.EG,J.Fv,J.FL,J.EX,J.last,J.head,J.first,J.Ju,J.sum⟩
theorem XI(h:Ej.length=a.ps.length):XH a (Y0 Ej a.n):=by
 refine⟨by show(Ej.map qV).length=_;rw[ϊ];exact h,by show(Ϛ a.n []).length=_;rw[õ],λk i b=>?_,λp j c=>?_,λm t e=>?_,λd f=>?_⟩
 ·have b:(Ej.map qV)[k]?=Α i:=b
  rw[Å]at b
  cases g:Ej[k]? with
  |none=>rw[g]at b;cases b
  |some v=>rw[g]at b;cases b;rfl
 ·have c:=c
  exact Ū (Ϙ c)
 ·have e:=e
  cases e
 ·have f:=f
  cases f
noncomputable def tY(p:Int×Int):ġ:=.tuple [.int p.1,.int p.2]
theorem ja:∀{a:List V}{b:List (Int×Int)},Ei H a b->lU K H a (b.map tY)
 |_,_,.nil =>.nil
 |_,_,.cons ⟨t,e,h⟩ r =>.cons (by subst e;exact .tup (Ec.of h) (.cons (.int _) (.cons (.int _) .nil))) (ja r)
theorem jn(b:List (Int×Int)):Ho (.list (b.map tY)) 64:=(kJ (m:=1) λz c=>by
 obtain⟨p,_,rfl⟩:=Ö.mp c
 exact m6 (m:=0) λy a=>by
  simp only[ϥ,Õ,or_false]at a
  rcases a with rfl|rfl<;>exact fj _).le (by decide)
theorem zc(a:List Mv):Ho (.list (a.map yQ)) 64:=(kJ (m:=1) λz b=>by
 obtain⟨m,_,rfl⟩:=Ö.mp b
 exact nU m).le (by decide)
theorem L9:Ho (.list []) 64:=(kJ (m:=0) λz a=>by cases a).le (by decide)
theorem AA{a:Type}(f:a->ġ)(l:List a):Ō (.list (l.map f)) (.list [])=l.isEmpty:=by
 cases l<;>simp[Ō,ġ.eqvAll]
theorem neN{a:Type}{f:a->ġ}{l:List a}(b:pe K H x (.list (l.map f)))(c:pe K H y (.list []))(s:Ho (.list (l.map f)) 64)(q:Q (.bl (!l.isEmpty)) H):Cp K x y H Q:=
 ⟨_,_,b,c,s.shaped (Ρ _),L9.shaped (Ρ _),by rw[AA];exact q⟩
theorem GC.rooms(h:GC a s m s'):s'.rooms=s.rooms:=by cases h<;>rfl
theorem GC.len(h:GC a s m s'):s'.DO.length=s.DO.length:=by
 cases h with
 | @FD k l t ln ht hg hl El ho =>
  show(if t.δ=0 then (cv s k t).DO.set k _ else (cv s k t).DO).length=_
  have:(cv s k t).DO.length=s.DO.length:=Ĵ ..
  split
  ·rw[Ĵ];exact this
  ·exact this
 | @on k l m c lk ln t hk hq ht hl El ho =>
  show(if c=0 then s.DO.set m _ else s.DO).length=_
  split
  ·exact Ĵ ..
  ·rfl
 |F7=>rfl
 |back=>rfl
theorem Ff.post(J:Ff a s)(B:x<a.n)(C:y<a.n)(f:0<=l/\l<=60)(N:s.DO.length<60):Ff a (dO s x y l u):=by
 have c:∀(m:Nat)(t:bD),(dO s x y l u).DO[m]?=Α t->s.DO[m]?=Α t∨(m=s.DO.length/\t=⟨x,y,l,u,0,[]⟩):=λm t b=>by
  have b:(s.DO++[(⟨(x:Int),(y:Int),l,u,0,[]⟩:bD)])[m]?=Α t:=b
  by_cases g:m<s.DO.length
  ·rw[Ϫ g]at b;exact .inl b
  ·have D:=(gQ0 b)
   rw[ϗ,Â]at D
   have E:m=s.DO.length:=by omega
   subst E
   rw[ā]at b
   cases b
   exact .inr ⟨Λ,Λ⟩
 have F:∀(m:Nat)(t:bD),s.DO[m]?=Α t->(dO s x y l u).DO[m]?=Α t:=λm t b=>by
  show(s.DO++[(⟨(x:Int),(y:Int),l,u,0,[]⟩:bD)])[m]?=Α t
  rw[Ϫ (gQ0 b)];exact b
 refine⟨J.γ,J.ε,?_,J.JE,λm t b=>?_,λm t b=>?_,λk d j q G=>?_,λm t b=>?_,λm t b H=>?_,λm t b i p v I=>?_,λm t b p d z L=>?_,J.first,λk d j m t g b=>?_,?_⟩
 ·show(s.DO++[_]).length<=60
  rw[ϗ,Â];omega
 ·rcases c m t b with h|⟨_,rfl⟩
  ·exact J.lets m t h
  ·exact⟨x,y,Λ,Λ,B,C⟩
 ·rcases c m t b with h|⟨_,rfl⟩
  ·exact J.EG m t h
  ·exact⟨(λl f=>by cases f),ĺ⟩
 ·obtain⟨m,t,e,b,M⟩:=J.Fv k d j q G
  exact⟨m,t,e,F m t b,M⟩
 ·rcases c m t b with h|⟨_,rfl⟩
  ·exact J.FL m t h
  ·exact⟨Ĉ _,f.1,f.2⟩
 ·rcases c m t b with h|⟨_,rfl⟩
  ·exact J.EX m t h H
  ·rfl
 ·rcases c m t b with h|⟨_,rfl⟩
  ·exact J.last m t h i p v I
  ·cases v
 ·rcases c m t b with h|⟨_,rfl⟩
  ·exact J.head m t h p d z L
  ·cases z
 ·obtain⟨A,O,o,r,_⟩:=J.Fv k d j _ g
  have o:=o
  have o:m=A:=Ä ‹_›
  subst o
  rcases c m t b with h|⟨e,_⟩
  ·exact J.Ju k d j m t g h
  ·rw[e]at r
   rw[Ā (Ρ _)]at r
   cases r
 ·have h:=J.sum
  have e:fW (dO s x y l u)=fW s:=by
   show((s.DO++[(⟨(x:Int),(y:Int),l,u,0,[]⟩:bD)]).map _).sum=_
   rw[Ì,OV]
   simp[fW]
  rw[e];exact h
theorem CO{a:List Int}(b:a.length=m)(c:∀r∈a,1<=r/\r<=60):ud m (a.map V.int)=Δ:=by
 unfold ud
 rw[ϊ,b,Ζ Λ,ñ,Ŏ]
 intro v d
 obtain⟨r,e,rfl⟩:=Ö.mp d
 exact Ζ (c r e)
def YdP(K:ϧ)(c:Cs)(TC:Ν)(J:TJ)(ys:Ys)(ex:List Ν)(H:Hp)(tb:Ν)(ps:List (Int×Int))(n:Nat)(wy:Wf)(rs:List Int):VK:=λv H'=>∃a:YA,v=.ref a.y/\a.tb=tb/\a.ps=ps/\a.n=n/\a.wy=wy/\DP H H'/\(∀z∈a.four,H z=Β)/\JM K c TC J (yx ys ex) H' a (Y0 (rs.map V.int) n)/\Ff a (Y0 (rs.map V.int) n)
theorem yU{P:Program}{w:Î}(W:Wy K TC fw dw J)
  (u:F5 c TC J H tb lx Ef lt n DX ps wy) (F:∀p g k,(wy p g k).length<=400) (G:∀p∈ps,iB n p=Δ) (I:DT K H ra (rs.map V.int)) (x:rs.length=ps.length) (L:∀r∈rs,1<=r/\r<=60) (hp:ps.length<=40) (s:∀b∈ex,∃xs,H b=Α (.π xs)):
  ∀y d,H y=Β->H d=Β->d≠y->pw K c TC J (yx ys ex) [.ref y,.ref tb,.ref ra] (ο (ο H d (.own y)) y (.ρ ys.DU d [])) (λv M=>v=.Eh/\YdP K c TC J ys ex H tb ps n wy rs (.ref y) M) E:=by
 intro y d A N O
 have f:DP H (ο (ο H d (.own y)) y (.ρ ys.DU d [])):=DP.new (DP.new (DP.refl H) N) (by rw[ag (Ϟ O)];exact A)
 have Q:=CO x L
 refine⟨y,d,_,_,_,_,n,_,_,_,_,_,Λ,ac,u.keep W (DP.Er f),(λb R=>let ⟨xs,i⟩:=s b R;⟨xs,f _ _ i⟩),.inr ⟨ra,Λ,.inl (f.seq I),by rw[ϊ];omega,(λv S=>by obtain⟨r,_,rfl⟩:=Ö.mp S;exact .int r),λh=>by rw[Q]at h;cases h⟩,λ_ q j le m dn T U X Y Z Uq hY=>⟨Λ,?_⟩⟩
 have B:=λb o e=>U b o (λz=>by rw[ϙ.mp z,A]at e;cases e) (f _ _ e)
 have hO:yM ⟨y,d,tb,q,j,le,m,dn,lx,Ef,lt,n,DX,ps,wy⟩:=by
  refine⟨λl t hl=>?_,F⟩
  have C:=G t (Ϙ hl)
  unfold iB at C
  simp only[É,decide_eq_true_eq,ö,decide_eq_false_iff_not]at C
  exact⟨t.2.toNat,by omega,by show t.2.toNat<n;omega⟩
 have D:Ff ⟨y,d,tb,q,j,le,m,dn,lx,Ef,lt,n,DX,ps,wy⟩ (Y0 (rs.map V.int) n):=(XI (a:=⟨y,d,tb,q,j,le,m,dn,lx,Ef,lt,n,DX,ps,wy⟩) (by rw[ϊ];exact x)).jnv (Ϧ _) (by show ps.length<=40;omega)
 refine⟨⟨y,d,tb,q,j,le,m,dn,lx,Ef,lt,n,DX,ps,wy⟩,Λ,Λ,Λ,Λ,Λ,B,λz i=>?_,⟨hY,u.keep W (DP.Er B),hO,D.ok⟩,D⟩
 have i:=i
 simp only[ϥ,Õ,or_false]at i
 rcases i with rfl|rfl|rfl|rfl
 ·exact f.free X
 ·exact f.free Y
 ·exact f.free Z
 ·exact f.free Uq
noncomputable def qo(s:YS):Bool:=decide ((s.DO.map (·.len)).sum=(s.ε.map λq=>(q.length:Int)).sum)
noncomputable def XO(s:Ç):Scope:=match s with
 |.Return (Α (.Compare (.Call _ [.ListComp _ _ sc _] _ _) _ _ _)) _=>sc
 |_=>zQ0
noncomputable def XQ(s:Ç):Scope:=match s with
 |.Return (Α (.Compare _ _ [.Call _ [.ListComp _ _ sc _] _ _] _)) _=>sc
 |_=>zQ0
inductive nR(K:ϧ)(ys:Ys)(vs:List V)(H:Hp)(Q:VK)(E:XK):Prop
 |mk (y dy tb ro la le li dn:Ν) (s:YS) (_:vs=[.ref y]) (_:Eg K ys H y dy tb ro la le li dn s) (_:s.DO.length<=900) (_:s.ε.length<=900) (_:∀H',DP H H'->Q (.bl (qo s)) H')
theorem XR:aw ["self"] ["self"] (am i3):=L2.Eu
theorem XS:ES ["self"] (am i3) (XO ((aK i3).getD 0 (.Pass ⟨0,0,0,0⟩))) [] []:=L2.FC
theorem XT:ES ["self"] (am i3) (XQ ((aK i3).getD 0 (.Pass ⟨0,0,0,0⟩))) [] []:=L2.FC
theorem XU:(["letter"]:List Str).Nodup:=by decide +kernel
theorem XX:(["pieces"]:List Str).Nodup:=by decide +kernel
theorem xQ(F:En K "ended" "Yard.ended" i3 f fd)(T:eD mg)(Y:jA K ys):DQ P w K mg μ aF 1 f fd ["self"] (nR K ys):=by
 refine F.ok XR λ_ _ _ s H _ Q E hr h=>?_
 obtain⟨y,g,tb,ro,la,le,v,dn,a,rfl,b,h9,z,q⟩:=h
 refine⟨_,aj (ay (cP bN (aG (qB Λ) Λ T.sum A2 (aa (bv (own:=["letter"]) (capN:=[]) (cap:=[]) XS Λ (aR (ap (pv 0) Λ)) (λC A B G=>⟨ax (i:=0) XU Λ (ύ Λ),c4,(show PE _ _ (rh K (pj 0) "length") from ap (pv 0) Λ)⟩)) ad))
  (aG (qB Λ) Λ T.sum A2 (aa (bv (own:=["pieces"]) (capN:=[]) (cap:=[]) XT Λ (aR (ap (pv 0) Λ)) (λC A B G=>⟨ax (i:=0) XX Λ (ύ Λ),c4,aG (show cZ _ (.builtin "len") (Xm K) from aA) Λ T.len PySem.boot_len (aa (pv 0) ad)⟩)) ad)) (aC _))),?_⟩
 obtain⟨I,j,l⟩:=b.χ
 have J:=Paired.length l
 refine⟨y,_,g,_,_,Λ,b.ρ,Y.cl,Y.n4,Λ,_,Λ,⟨_,DT.of j⟩,?_⟩
 refine j6 (λi =>.int (a.DO.getD i ⟨0,0,0,0,0,[]⟩).len) (by rw[Ω];omega) (DT.of j) (λi x N c h=>?_) (λD L=>?_)
 ·obtain⟨lt,M,O,R,wa,rfl,S,_⟩:=Paired.at l c
  rw[Χ,M]at h
  exact⟨O,_,R,_,_,Λ,S,Y.ct,Y.t3,Λ,h⟩
 have U:(ϋ I.length).map (λi=>V.int (a.DO.getD i ⟨0,0,0,0,0,[]⟩).len)=(a.DO.map (·.len)).map V.int:=by
  rw[J,č]
  exact kU a.DO _ λs=>V.int s.len
 rw[U]
 have d:=(DP.refl H).new (o:=.π ((a.DO.map (·.len)).map V.int)) L
 have m:(ο H D (.π ((a.DO.map (·.len)).map V.int))) D=Α (.π ((a.DO.map (·.len)).map V.int)):=ac
 generalize ο H D (.π ((a.DO.map (·.len)).map V.int))=H1 at d m⊢
 refine⟨D,_,Λ,DT.of m,?_⟩
 have n:=b.same d
 obtain⟨X,p,r⟩:=n.GO
 have e:=Paired.length r
 refine⟨y,_,g,_,_,Λ,n.ρ,Y.cl,Y.n5,Λ,v,Λ,⟨_,DT.of p⟩,?_⟩
 refine j6 (λi =>.int ((a.ε.getD i []).length:Nat)) (by rw[Ω];omega) (DT.of p) (λi x N c h=>?_) (λZ Hr=>?_)
 ·obtain⟨qs,Hg,t,u,rfl,ht,hL⟩:=Paired.at r c
  rw[Χ,Hg]at h
  have IE:=Paired.length hL
  refine⟨t,u,Λ,.inr (Ec.of ht),?_⟩
  rw[IE]
  exact h
 have e2:(ϋ X.length).map (λi=>V.int ((a.ε.getD i []).length:Nat))=(a.ε.map λq=>(q.length:Int)).map V.int:=by
  rw[e,č]
  exact kU a.ε _ λq=>V.int (q.length:Nat)
 rw[e2]
 refine⟨Z,_,Λ,DT.of ac,Λ,?_⟩
 rw[bK]
 exact q _ (d.new Hr)
noncomputable def cM(m:Nat)(qs:List (Int×Int)):List Int:=(qs.filter λq=>decide (q.1=(m:Int))).map (·.2)
noncomputable def iR(x y:Nat):List Int:=(Pn x (y - x)).map λz:Nat=>(z:Int)
theorem dW(m:Nat)(xs a:List (Int×Int)):cM m (xs++a)=cM m xs++cM m a:=by
 unfold cM;rw[ë,Ì]
theorem fO(m a:Nat)(c:Int):cM m [((a:Int),c)]=if a=m then [c] else []:=by
 unfold cM
 by_cases h:a=m
 ·subst h;simp
 ·rw[Θ h,ģ (by simp;exact mt Ä ‹_›)];rfl
theorem uF{m:Nat}(h:∀q∈qs,q.1≠(m:Int)):cM m qs=[]:=by
 unfold cM
 rw[Ŕ.mpr (λq a=>by simpa using h q a)];rfl
theorem pI(h:x<y):iR x y=(x:Int):: iR (x+1) y:=by
 unfold iR
 rw[show y - x=(y - (x+1))+1 by omega,List.range'_succ];rfl
theorem iQ(h:y<=x):iR x y=[]:=by
 unfold iR
 rw[show y - x=0 by omega];rfl
theorem kQ(h:x<=y):iR x (y+1)=iR x y++[(y:Int)]:=by
 unfold iR
 rw[show y+1 - x=(y - x)+1 by omega,List.range'_1_concat,Ì]
 show _++[((x+(y - x):Nat):Int)]=_
 rw[show x+(y - x)=y by omega]
theorem zo(x y:Nat):(iR x y).length=y - x:=by unfold iR;rw[ϊ,List.length_range']
theorem vC{m:Nat}(h:a.head?=Α ((m:Int),c))(e:cM m a=iR x y):x<y/\c=(x:Int)/\cM m a.tail=iR (x+1) y/\∀b,b≠m->cM b a.tail=cM b a:=by
 cases a with
 |nil=>cases h
 | cons q a =>
  cases h
  rw[show((m:Int),c):: a=[((m:Int),c)]++a from Λ,dW,fO,Ι Λ]at e
  have d:x<y:=by
   rcases Ě x y with h|h
   ·exact h
   ·rw[iQ h]at e;cases e
  rw[pI d]at e
  have f:=e
  refine⟨d,(Ň f).1,(Ň f).2,λb g=>?_⟩
  rw[show((m:Int),c):: a=[((m:Int),c)]++a from Λ,dW,fO,Θ (Ϟ g)];rfl
theorem yD{m:Nat}(h:qs.getLast?=Α q)(a:q.1=(m:Int))(e:cM m qs=iR x y):q.2+1=(y:Int)/\x<y:=by
 obtain⟨f,rfl⟩:=Ũ.mp h
 obtain⟨d,c⟩:=q
 have a:=a
 subst a
 rw[dW,fO,Ι Λ]at e
 rcases Ě x y with b|b
 ·obtain⟨z,rfl⟩:∃z,y=z+1:=⟨y - 1,by omega⟩
  rw[kQ (Ů ‹_›)]at e
  have:=List.append_inj_right' e Λ
  have:c=(z:Int):=(Ň this).1
  exact⟨by show c+1=_;omega,b⟩
 ·rw[iQ b]at e
  exact Κ e (by simp)
def RH(s:YS)(p q:Int×Int):Prop:=(q.1=p.1/\q.2=p.2+1)∨(q.2=0/\∃(m:Nat)(t:bD),p.1=(m:Int)/\s.DO[m]?=Α t/\p.2=t.len - 1)
structure Fw(a:YA)(s:YS)(N D:Nat->Nat->Nat):Prop where
 g0:∀(m:Nat)(t:bD),s.DO[m]?=Α t->((N m 0+D m 0:Nat):Int)=t.δ
 gl:∀(m:Nat)(t:bD),s.DO[m]?=Α t->t.δ<=t.len
 JO:∀(m:Nat)(t:bD),s.DO[m]?=Α t->∀i,t.ω.length<i->N m i+D m i=0
 top:∀(m:Nat)(t:bD),s.DO[m]?=Α t->t.ω=[]->N m 0=0
 dn:∀(m:Nat)(t:bD),s.DO[m]?=Α t->∀i,i<t.ω.length->N m (i+1)+D m (i+1)<=N m i/\0<N m i/\(N m i:Int)<=t.len
 q:∀(m:Nat)(t:bD),s.DO[m]?=Α t->∀(i k:Nat)(ln:bV),t.ω[i]?=Α k->s.γ[k]?=Α ln->cM m ln.qs=iR (N m (i+1)+D m (i+1)) (N m i)
 own:∀(k:Nat)(ln:bV),s.γ[k]?=Α ln->∀p∈ln.qs,∃(m:Nat)(t:bD),p.1=(m:Int)/\s.DO[m]?=Α t/\k∈t.ω
 nd:∀(m:Nat)(t:bD),s.DO[m]?=Α t->t.ω.Nodup
 F7:∀(m:Nat)(t:bD),s.DO[m]?=Α t->∀(p:Nat)(qs:List (Int×Int)),s.ε[p]?=Α qs->cM m qs=if (p:Int)=t.ι then iR 0 (N m t.ω.length) else []
 HR:∀(p:Nat)(qs:List (Int×Int)),s.ε[p]?=Α qs->∀q∈qs,∃(m:Nat)(t:bD),q.1=(m:Int)/\s.DO[m]?=Α t
 hold:∀(k:Nat)(ln:bV),s.γ[k]?=Α ln->∀(m:Nat)(t:bD),s.DO[m]?=Α t->(ln.h=Α (m:Int)↔∃i,t.ω[i]?=Α k/\(N m i:Int)<t.len)
 Hh:∀(k:Nat)(ln:bV),s.γ[k]?=Α ln->∀z,ln.h=Α z->∃(m:Nat)(t:bD),z=(m:Int)/\s.DO[m]?=Α t
 room:∀(k:Nat)(ln:bV),s.γ[k]?=Α ln->s.rooms[k]?=Α (.int (ln.r+ln.b+ln.qs.length))/\0<=ln.r/\0<=ln.b
 KP:∀(k:Nat)(ln:bV),s.γ[k]?=Α ln->∀(i:Nat)(p q:Int×Int),ln.qs[i]?=Α p->ln.qs[i+1]?=Α q->RH s p q
 π:∀(k:Nat)(ln:bV),s.γ[k]?=Α ln->∀q,ln.qs.getLast?=Α q->ln.h=Α q.1∨(ln.h=Β/\∃(m:Nat)(t:bD),q.1=(m:Int)/\s.DO[m]?=Α t/\q.2=t.len - 1)
noncomputable def zr:Nat->Nat->Nat:=λ_ _=>0
noncomputable def dj(m0 i0:Nat):Nat->Nat->Nat:=λm i=>if m=m0/\i=i0 then 1 else 0
theorem gq(m i:Nat):dj m i m i=1:=Ι ⟨Λ,Λ⟩
theorem fR(h:m≠m0):dj m0 i0 m i=0:=Θ λz=>h z.1
theorem cR(h:i≠i0):dj m0 i0 m i=0:=Θ λz=>h z.2
theorem c9{l:List Nat}(h:l.Nodup){i j x:Nat}(a:l[i]?=Α x)(b:l[j]?=Α x):i=j:=by
 obtain⟨e,c⟩:=ϳ.mp a
 obtain⟨f,d⟩:=ϳ.mp b
 exact(List.getElem_inj h).mp (c.trans d.symm)
theorem yK{a:List (Int×Int)}(h:∀(i:Nat) (p q:Int×Int),a[i]?=Α p->a[i+1]?=Α q->RH s p q):∀(i:Nat)(p q:Int×Int),a.tail[i]?=Α p->a.tail[i+1]?=Α q->RH s p q:=λi p q b c=>by
 rw[List.getElem?_tail]at b c
 exact h (i+1) p q b c
theorem vj{b:Type}{a:List b}{q:b}(h:a.tail.getLast?=Α q):a.getLast?=Α q:=by
 cases a with
 |nil=>cases h
 | cons x a =>
  cases a with
  |nil=>cases h
  |cons y a=>rw[List.getLast?_cons_cons];exact h
theorem Fw.pull(G:Fw a s N zr){k m:Nat}(n:s.γ[k]?=Α lk)(u:lk.qs.head?=Α ((m:Int),c))(y:s.DO[m]?=Α t):
  ∃i,t.ω[i]?=Α k/\c=(N m (i+1):Int)/\N m (i+1)<N m i/\Fw a {s with γ:=s.γ.set k (cr lk)} N (dj m (i+1)):=by
 have I:=hX u
 obtain⟨g,U,e,D,J⟩:=G.own k lk n _ I
 have e:=e
 have e:g=m:=by omega
 subst e
 rw[y]at D;cases D
 obtain⟨i,z⟩:=ô J
 have X:=(gQ0 z)
 obtain⟨B,L,C,M⟩:=vC u (G.q g t y i k lk z n)
 have B:=B
 have C:=C
 refine⟨i,z,L,B,?_⟩
 have E:lk.qs=((g:Int),c):: lk.qs.tail:=by
  cases F:lk.qs with
  |nil=>rw[F]at u;cases u
  |cons x xs=>rw[F]at u;cases u;rfl
 refine⟨λm t h=>?_,G.gl,λm t h j o=>?_,G.top,λm t h j o=>?_,λm t h j f l o d=>?_,λf l d p H=>?_,G.nd,G.F7,G.HR,λf l d=>?_,λf l d=>?_,λf l d=>?_,λf l d=>?_,λf l d=>?_⟩
 ·have:=G.g0 m t h
  rw[cR (by omega)];exact this
 ·have A:=G.JO m t h j o
  by_cases e:m=g
  ·subst e
   rw[y]at h;cases h
   rw[cR (by omega)];exact A
  ·rw[fR e];exact A
 ·obtain⟨A,O,Q⟩:=G.dn m t h j o
  refine⟨?_,O,Q⟩
  have A:=A
  by_cases e:m=g/\j+1=i+1
  ·obtain⟨rfl,e⟩:=e
   have:j=i:=oo ‹_›
   subst this
   rw[gq];omega
  ·show N m (j+1)+dj g (i+1) m (j+1)<=_
   unfold dj;rw[Θ e];omega
 ·rcases bL d with ⟨rfl,rfl⟩|⟨R,d⟩
  ·show cM m lk.qs.tail=_
   by_cases e:m=g
   ·subst e
    rw[y]at h;cases h
    have:j=i:=c9 (G.nd _ _ y) o z
    subst this
    rw[gq];exact C
   ·rw[fR e,M m e];exact G.q m t h j f lk o n
  ·by_cases e:m=g/\j+1=i+1
   ·obtain⟨rfl,e⟩:=e
    have:j=i:=oo ‹_›
    subst this
    rw[y]at h;cases h
    rw[z]at o;cases o
    exact Κ Λ R
   ·unfold dj;rw[Θ e];exact G.q m t h j f l o d
 ·rcases bL d with ⟨rfl,rfl⟩|⟨_,d⟩
  ·exact G.own f lk n p (by rw[E];exact ϟ _ H)
  ·exact G.own f l d p H
 ·rcases bL d with ⟨rfl,rfl⟩|⟨_,d⟩
  ·exact G.hold f lk n
  ·exact G.hold f l d
 ·rcases bL d with ⟨rfl,rfl⟩|⟨_,d⟩
  ·exact G.Hh f lk n
  ·exact G.Hh f l d
 ·rcases bL d with ⟨rfl,rfl⟩|⟨_,d⟩
  ·obtain⟨S,T,Y⟩:=G.room f lk n
   refine⟨?_,T,?_⟩
   ·show s.rooms[f]?=Α (.int (lk.r+(lk.b+1)+lk.qs.tail.length))
    rw[S]
    have:lk.qs.length=lk.qs.tail.length+1:=by rw[E];rfl
    rw[this]
    congr 2;omega
   ·show 0<=lk.b+1;omega
  ·exact G.room f l d
 ·rcases bL d with ⟨rfl,rfl⟩|⟨_,d⟩
  ·exact yK (s:={s with γ:=s.γ.set f (cr lk)}) (G.KP f lk n)
  ·exact G.KP f l d
 ·rcases bL d with ⟨rfl,rfl⟩|⟨_,d⟩
  ·exact λq u=>G.π f lk n q (vj u)
  ·exact G.π f l d
theorem Fw.leave(G:Fw a s N zr)(D:s.DO[m]?=Α t)(O:t.δ≠t.len):Fw a (cv s m t) N (dj m 0):=by
 have Q:=G.gl m t D
 have g:∀(b:Nat)(c:bD),(cv s m t).DO[b]?=Α c->∃d,s.DO[b]?=Α d/\c.ω=d.ω/\c.len=d.len/\c.ι=d.ι/\(b≠m->c=d)/\(b=m->c.δ=t.δ+1/\d=t):=λb c h=>by
  have h:=h
  rcases bL h with ⟨rfl,rfl⟩|⟨L,h⟩
  ·exact⟨t,D,Λ,Λ,Λ,λz=>Κ Λ z,λ_=>⟨Λ,Λ⟩⟩
  ·exact⟨c,h,Λ,Λ,Λ,λ_=>rfl,λz=>Κ z L⟩
 have back:∀(b:Nat)(d:bD),s.DO[b]?=Α d->∃c,(cv s m t).DO[b]?=Α c/\c.ω=d.ω/\c.len=d.len:=λb d h=>by
  by_cases e:b=m
  ·subst e
   rw[D]at h;cases h
   exact⟨_,cO D,Λ,Λ⟩
  ·exact⟨d,by show(s.DO.set m _)[b]?=_;rw[à (Ϟ e)];exact h,Λ,Λ⟩
 refine⟨λb c h=>?_,λb c h=>?_,λb c h j B=>?_,λb c h E=>?_,λb c h j B=>?_,λb c h j o r B u=>?_,λo r u p y=>?_,λb c h=>?_,λb c h p F y=>?_,λp F y q C=>?_,λo r u b c h=>?_,λo r u z M=>?_,G.room,λo r u i p q y C=>?_,λo r u q C=>?_⟩
 ·obtain⟨d,f,l,n,x,ne,eq⟩:=g b c h
  have J:=G.g0 b d f
  by_cases e:b=m
  ·obtain⟨H,rfl⟩:=eq e
   subst e
   rw[gq,H,←J];show((N b 0+1:Nat):Int)=((N b 0+0:Nat):Int)+1;rfl
  ·rw[fR e,ne e];exact J
 ·obtain⟨d,f,l,n,x,ne,eq⟩:=g b c h
  by_cases e:b=m
  ·obtain⟨H,rfl⟩:=eq e
   rw[H,n];omega
  ·rw[ne e];exact G.gl b d f
 ·obtain⟨d,f,l,n,x,ne,eq⟩:=g b c h
  rw[cR (by omega)];exact G.JO b d f j (by rw[←l];exact B)
 ·obtain⟨d,f,l,n,x,ne,eq⟩:=g b c h
  exact G.top b d f (by rw[←l];exact E)
 ·obtain⟨d,f,l,n,x,ne,eq⟩:=g b c h
  rw[cR (ż _),n];exact G.dn b d f j (by rw[←l];exact B)
 ·obtain⟨d,f,l,n,x,ne,eq⟩:=g b c h
  rw[cR (ż _)];exact G.q b d f j o r (by rw[←l];exact B) u
 ·obtain⟨b,d,e,f,E⟩:=G.own o r u p y
  obtain⟨c,v,l,_⟩:=back b d f
  exact⟨b,c,e,v,by rw[l];exact E⟩
 ·obtain⟨d,f,l,_⟩:=g b c h
  rw[l];exact G.nd b d f
 ·obtain⟨d,f,l,n,x,_⟩:=g b c h
  rw[l,x];exact G.F7 b d f p F y
 ·obtain⟨b,d,e,f⟩:=G.HR p F y q C
  obtain⟨c,v,_⟩:=back b d f
  exact⟨b,c,e,v⟩
 ·obtain⟨d,f,l,n,x,_⟩:=g b c h
  rw[l,n];exact G.hold o r u b d f
 ·obtain⟨b,d,e,f⟩:=G.Hh o r u z M
  obtain⟨c,v,_⟩:=back b d f
  exact⟨b,c,e,v⟩
 ·rcases G.KP o r u i p q y C with z|⟨z,b,d,e,f,I⟩
  ·exact .inl z
  ·obtain⟨c,v,_,n⟩:=back b d f
   exact .inr ⟨z,b,c,e,v,by rw[n];exact I⟩
 ·rcases G.π o r u q C with z|⟨z,b,d,e,f,I⟩
  ·exact .inl z
  ·obtain⟨c,v,_,n⟩:=back b d f
   exact .inr ⟨z,b,c,e,v,by rw[n];exact I⟩
theorem Fw.enter(G:Fw a s N (dj m i))(H:s.DO[m]?=Α t)(hc:c=(N m i:Int))(J:c=0->i=t.ω.length/\l∉t.ω)(Z:c≠0->t.ω[i]?=Α l)(hlen:c+1<=t.len)(Q:s.γ[l]?=Α ln)(R:cp ln.r ln.h m c=Δ):
  Fw a (c7 s m c l t ln) (λd i'=>N d i'+dj m i d i') zr:=by
 obtain⟨IY,EI⟩:ln.r≠0/\if c=0 then ln.h=Β else ln.h=Α (m:Int):=by
  unfold cp at R
  by_cases hr:ln.r=0
  ·rw[Ι hr]at R;cases R
  ·rw[Θ hr]at R
   by_cases h:c=0
   ·rw[Ι h]at R⊢;exact⟨hr,of_decide_eq_true R⟩
   ·rw[Θ h]at R⊢;exact⟨hr,of_decide_eq_true R⟩
 obtain⟨I,JP,w1,el,eg,ego,hw⟩:∃I:bD,(c7 s m c l t ln).DO[m]?=Α I/\I.ω=(if c=0 then t.ω++[l] else t.ω)/\I.len=t.len/\I.ι=t.ι/\I.δ=t.δ/\I.ω[i]?=Α l:=by
  by_cases h:c=0
  ·refine⟨{t with ω:=t.ω++[l]},?_,by rw[Ι h],Λ,Λ,Λ,?_⟩
   ·show(if c=0 then s.DO.set m {t with ω:=t.ω++[l]} else s.DO)[m]?=_
    rw[Ι h];exact cO H
   ·show(t.ω++[l])[i]?=Α l
    rw[(J h).1,ā]
  ·refine⟨t,?_,by rw[Θ h],Λ,Λ,Λ,Z h⟩
   show(if c=0 then s.DO.set m {t with ω:=t.ω++[l]} else s.DO)[m]?=_
   rw[Θ h];exact H
 have A:∀(d:Nat)(f:bD),(c7 s m c l t ln).DO[d]?=Α f->(d=m/\f=I)∨(d≠m/\s.DO[d]?=Α f):=λd f h=>by
  by_cases e:d=m
  ·subst e
   rw[JP]at h;cases h;exact .inl ⟨Λ,Λ⟩
  ·refine .inr ⟨e,?_⟩
   have h:(if c=0 then s.DO.set m {t with ω:=t.ω++[l]} else s.DO)[d]?=Α f:=h
   by_cases g:c=0
   ·rw[Ι g,à (Ϟ e)]at h;exact h
   ·rw[Θ g]at h;exact h
 have back:∀(d:Nat)(B:bD),s.DO[d]?=Α B->∃f,(c7 s m c l t ln).DO[d]?=Α f/\(∀x∈B.ω,x∈f.ω)/\f.len=B.len:=λd B h=>by
  by_cases e:d=m
  ·subst e
   rw[H]at h;cases h
   refine⟨I,JP,λx T=>?_,el⟩
   rw[w1];split
   ·exact Í _ T
   ·exact T
  ·refine⟨B,?_,λx T=>T,Λ⟩
   show(if c=0 then s.DO.set m {t with ω:=t.ω++[l]} else s.DO)[d]?=_
   split
   ·rw[à (Ϟ e)];exact h
   ·exact h
 have RI:∀(j k:Nat),I.ω[j]?=Α k->j≠i->t.ω[j]?=Α k:=λj k n E=>by
  rw[w1]at n
  by_cases h:c=0
  ·rw[Ι h]at n
   have Eo:=(gQ0 n)
   rw[ϗ,Â]at Eo
   have:=(J h).1
   rwa [Ϫ (by omega)]at n
  ·rw[Θ h]at n;exact n
 have NW:I.ω.length=if c=0 then i+1 else t.ω.length:=by
  rw[w1];split
  ·rename_i h
   rw[ϗ,Â,(J h).1]
  ·rfl
 have LA:=λh=>(ϳ.mp (Z h)).1
 have QG:I.ω.Nodup:=by
  rw[w1];split
  ·rename_i h
   refine kA.mpr ⟨G.nd m t H,by simp,λx T y hy e=>?_⟩
   rw[ϙ]at hy
   subst hy;subst e
   exact(J h).2 T
  ·exact G.nd m t H
 have O:∀{u:Nat}{v:bV},(c7 s m c l t ln).γ[u]?=Α v->(u=l/\v=fH ln m c t.len)∨(u≠l/\s.γ[u]?=Α v):=λh=>bL h
 have Ji:∀d,d≠m->cM d (ln.qs++[((m:Int),c)])=cM d ln.qs:=λd hm=>by
  rw[dW,fO,Θ (Ϟ hm),ĕ]
 have Uw:cM m ln.qs=iR (N m (i+1)) (N m i)/\N m (i+1)<=N m i:=by
  by_cases h:c=0
  ·have e0:N m i=0:=by omega
   have f1:=G.JO m t H (i+1) (by have:=(J h).1;omega)
   rw[cR (by omega)]at f1
   have f1:N m (i+1)=0:=‹_›
   rw[e0,f1]
   refine⟨?_,Ρ _⟩
   rw[iQ (Ρ _)]
   refine uF λq F e=>?_
   obtain⟨d,f,e',NV,F1⟩:=G.own l ln Q q F
   have:d=m:=by rw[e]at e';omega
   subst this
   rw[H]at NV;cases NV
   exact(J h).2 F1
  ·have:=G.q m t H i l ln (Z h) Q
   rw[cR (by omega)]at this
   have hd:=(G.dn m t H i (LA h)).1
   rw[cR (by omega)]at hd
   exact⟨this,hd⟩
 have z0:∀d j,(zr d j)=0:=λ_ _=>rfl
 refine⟨λd f h=>?_,λd f h=>?_,λd f h j n=>?_,λd f h F1=>?_,λd f h j n=>?_,λd f h j u v n o=>?_,λu v o p C=>?_,λd f h=>?_,λd f h p X C=>?_,λp X C q F=>?_,λu v o d f h=>?_,λu v o z hz=>?_,λu v o=>?_,λu v o j p q C F=>?_,λu v o q F=>?_⟩
 ·rcases A d f h with ⟨rfl,rfl⟩|⟨E,h⟩
  ·rw[ego,←G.g0 _ t H];rfl
  ·exact G.g0 d f h
 ·rcases A d f h with ⟨rfl,rfl⟩|⟨E,h⟩
  ·rw[ego,el];exact G.gl _ t H
  ·exact G.gl d f h
 ·rcases A d f h with ⟨rfl,rfl⟩|⟨E,h⟩
  ·refine G.JO _ t H j ?_
   rw[NW]at n
   by_cases g:c=0
   ·rw[Ι g]at n;have:=(J g).1;omega
   ·rw[Θ g]at n;exact n
  ·exact G.JO d f h j n
 ·rcases A d f h with ⟨rfl,rfl⟩|⟨E,h⟩
  ·rw[F1]at hw;cases hw
  ·show N d 0+dj m i d 0=0
   rw[fR E];exact G.top d f h F1
 ·rcases A d f h with ⟨rfl,rfl⟩|⟨E,h⟩
  ·show N d (j+1)+dj d i d (j+1)+0<=N d j+dj d i d j/\0<N d j+dj d i d j/\((N d j+dj d i d j:Nat):Int)<=f.len
   rw[el]
   by_cases e:j=i
   ·subst e
    rw[gq,cR (by omega)]
    have:=Uw.2
    exact⟨ø ‹_›,ť _,by omega⟩
   ·have OT:j<t.ω.length:=by
     rw[NW]at n
     by_cases g:c=0
     ·rw[Ι g]at n;have:=(J g).1;omega
     ·rw[Θ g]at n;exact n
    obtain⟨d1,d2,d3⟩:=G.dn _ t H j OT
    have:dj d i d j=0:=cR e
    rw[this]
    exact⟨‹_›,‹_›,‹_›⟩
  ·show N d (j+1)+dj m i d (j+1)+0<=N d j+dj m i d j/\0<N d j+dj m i d j/\((N d j+dj m i d j:Nat):Int)<=f.len
   have:=G.dn d f h j n
   rw[fR E]at this⊢
   rw[fR E];exact this
 ·show cM d v.qs=iR (N d (j+1)+dj m i d (j+1)+0) (N d j+dj m i d j)
  rcases A d f h with ⟨rfl,rfl⟩|⟨E,D⟩
  ·rcases O o with ⟨rfl,rfl⟩|⟨L,o⟩
   ·have:j=i:=c9 QG n hw
    subst this
    show cM d (ln.qs++[((d:Int),c)])=_
    rw[dW,fO,Ι Λ,gq,cR (by omega),Uw.1,hc,Jk,Jk]
    exact(kQ Uw.2).symm
   ·have Y:j≠i:=λe=>by rw[e,hw]at n;cases n;exact L Λ
    rw[show dj d i d j=0 from cR Y]
    exact G.q _ t H j u v (RI j u n Y) o
  ·rcases O o with ⟨rfl,rfl⟩|⟨L,o⟩
   ·show cM d (ln.qs++[((m:Int),c)])=_
    rw[Ji d E,show dj m i d j=0 from fR E]
    exact G.q d f D j u ln n Q
   ·rw[show dj m i d j=0 from fR E]
    exact G.q d f D j u v n o
 ·rcases O o with ⟨rfl,rfl⟩|⟨L,o⟩
  ·rcases ϯ.mp C with C|C
   ·obtain⟨d,B,e,D,KL⟩:=G.own u ln Q p C
    obtain⟨f,M,sub,_⟩:=back d B D
    exact⟨d,f,e,M,sub _ KL⟩
   ·rw[ϙ.mp C]
    exact⟨m,I,Λ,JP,Ϙ hw⟩
  ·obtain⟨d,B,e,D,KL⟩:=G.own u v o p C
   obtain⟨f,M,sub,_⟩:=back d B D
   exact⟨d,f,e,M,sub _ KL⟩
 ·rcases A d f h with ⟨rfl,rfl⟩|⟨E,h⟩
  ·exact QG
  ·exact G.nd d f h
 ·show cM d X=if (p:Int)=f.ι then iR 0 (N d f.ω.length+dj m i d f.ω.length) else []
  rcases A d f h with ⟨rfl,rfl⟩|⟨E,h⟩
  ·have e:=G.F7 _ t H p X C
   rw[eg,e]
   by_cases FX:(p:Int)=t.ι
   ·rw[Ι FX,Ι FX,NW]
    by_cases g:c=0
    ·rw[Ι g,cR (by omega),←(J g).1]
     have f1:=G.JO _ t H (i+1) (by have:=(J g).1;omega)
     have e1:N d (i+1)=0:=by omega
     have S:N d i=0:=by omega
     rw[e1,S]
    ·rw[Θ g,cR (by have:=LA g;exact Nat.ne_of_gt ‹_›)];rfl
   ·rw[Θ FX,Θ FX]
  ·rw[fR E];exact G.F7 d f h p X C
 ·obtain⟨d,B,e,D⟩:=G.HR p X C q F
  obtain⟨f,M,_⟩:=back d B D
  exact⟨d,f,e,M⟩
 ·show v.h=Α (d:Int)↔∃j,f.ω[j]?=Α u/\((N d j+dj m i d j:Nat):Int)<f.len
  rcases A d f h with ⟨rfl,rfl⟩|⟨E,D⟩
  ·rcases O o with ⟨rfl,rfl⟩|⟨L,o⟩
   ·show(if decide (c=t.len - 1)=Δ then Β else Α (d:Int))=_↔_
    rw[el]
    constructor
    ·intro z
     refine⟨i,hw,?_⟩
     rw[gq]
     by_cases e:c=t.len - 1
     ·rw[Ι (Ζ e)]at z;cases z
     ·omega
    ·rintro⟨j,n,U⟩
     have:j=i:=c9 QG n hw
     subst this
     rw[gq]at U
     rw[Θ (by rw[decide_eq_true_eq];omega)]
   ·have e:=G.hold u v o _ t H
    rw[e,el]
    constructor
    ·rintro⟨j,n,U⟩
     refine⟨j,?_,?_⟩
     ·rw[w1];split
      ·rw[Ϫ (gQ0 n)];exact n
      ·exact n
     ·rw[show dj d i d j=0 from cR λe=>by
       subst e
       by_cases g:c=0
       ·have:=(gQ0 n);have:=(J g).1;omega
       ·rw[Z g]at n;cases n;exact L Λ]
      exact U
    ·rintro⟨j,n,U⟩
     have Y:j≠i:=λe=>by rw[e,hw]at n;cases n;exact L Λ
     rw[show dj d i d j=0 from cR Y]at U
     exact⟨j,RI j u n Y,U⟩
  ·have eN:∀j,N d j+dj m i d j=N d j:=λj=>by rw[fR E];rfl
   simp only[eN]
   rcases O o with ⟨rfl,rfl⟩|⟨L,o⟩
   ·show(if decide (c=t.len - 1)=Δ then Β else Α (m:Int))=_↔_
    rw[←G.hold u ln Q d f D]
    have a1:ln.h≠Α (d:Int):=λz=>by
     rw[z]at EI
     by_cases g:c=0
     ·rw[Ι g]at EI;cases EI
     ·rw[Θ g]at EI
      have:=Ϝ EI
      omega
    refine⟨λz=>?_,λz=>Κ z a1⟩
    split at z
    ·cases z
    ·have:=Ϝ z
     exact Κ (show d=m by omega) E
   ·exact G.hold u v o d f D
 ·rcases O o with ⟨rfl,rfl⟩|⟨L,o⟩
  ·have z:(if decide (c=t.len - 1)=Δ then Β else Α (m:Int))=Α z:=hz
   split at z
   ·cases z
   ·exact⟨m,I,(Ϝ z).symm,JP⟩
  ·obtain⟨d,B,e,D⟩:=G.Hh u v o z hz
   obtain⟨f,M,_⟩:=back d B D
   exact⟨d,f,e,M⟩
 ·rcases O o with ⟨rfl,rfl⟩|⟨L,o⟩
  ·obtain⟨r1,r2,r3⟩:=G.room u ln Q
   refine⟨?_,by show 0<=ln.r - 1;omega,r3⟩
   show s.rooms[u]?=Α (.int (ln.r - 1+ln.b+((ln.qs++[((m:Int),c)]).length:Nat)))
   rw[r1,ϗ,Â]
   congr 2;omega
  ·exact G.room u v o
 ·have up:RH s p q->RH (c7 s m c l t ln) p q:=λz=>by
   rcases z with z|⟨z,d,B,e,D,S⟩
   ·exact .inl z
   ·obtain⟨f,M,_,XY⟩:=back d B D
    exact .inr ⟨z,d,f,e,M,by rw[XY];exact S⟩
  rcases O o with ⟨rfl,rfl⟩|⟨L,o⟩
  ·have C:(ln.qs++[((m:Int),c)])[j]?=Α p:=C
   have F:(ln.qs++[((m:Int),c)])[j+1]?=Α q:=F
   by_cases n:j+1<ln.qs.length
   ·rw[Ϫ (ê ‹_›)]at C
    rw[Ϫ n]at F
    exact up (G.KP u ln Q j p q C F)
   ·have Eo:=(gQ0 F)
    rw[ϗ,Â]at Eo
    have ej:j+1=ln.qs.length:=by omega
    rw[ej,ā]at F
    cases F
    rw[Ϫ (Ů ‹_›)]at C
    have Jv:ln.qs.getLast?=Α p:=by rw[ũ,←ej];exact C
    rcases G.π u ln Q p Jv with z|⟨z,d,B,e,D,S⟩
    ·by_cases g:c=0
     ·rw[Ι g,z]at EI;cases EI
     ·rw[Θ g,z]at EI
      have e1:=Ϝ EI
      obtain⟨S,_⟩:=yD Jv e1 Uw.1
      exact .inl ⟨e1.symm,by show c=p.2+1;omega⟩
    ·by_cases g:c=0
     ·exact up (.inr ⟨g,d,B,e,D,S⟩)
     ·rw[Θ g,z]at EI;cases EI
  ·exact up (G.KP u v o j p q C F)
 ·rcases O o with ⟨rfl,rfl⟩|⟨L,o⟩
  ·have F:(ln.qs++[((m:Int),c)]).getLast?=Α q:=F
   rw[List.getLast?_concat]at F
   cases F
   show(if decide (c=t.len - 1)=Δ then Β else Α (m:Int))=_∨_
   by_cases e:c=t.len - 1
   ·exact .inr ⟨by show(if decide (c=t.len - 1)=Δ then Β else Α (m:Int))=Β;rw[Ι (Ζ e)],m,I,Λ,JP,by rw[el];exact e⟩
   ·exact .inl (by rw[Θ (by rw[decide_eq_true_eq];exact e)])
  ·rcases G.π u v o q F with z|⟨z,d,B,e,D,S⟩
   ·exact .inl z
   ·obtain⟨f,M,_,XY⟩:=back d B D
    exact .inr ⟨z,d,f,e,M,by rw[XY];exact S⟩
theorem Fw.lay{m e:Nat}(G:Fw a s N (dj m t.ω.length))(g:s.DO[m]?=Α t)(I:c=(N m t.ω.length:Int))(A:t.ι=(e:Int))(D:s.ε[e]?=Α qs)(J:t.ω≠[]):
  Fw a {s with ε:=s.ε.set e (qs++[((m:Int),c)])} (λb F=>N b F+dj m t.ω.length b F) zr:=by
 have O:=List.length_pos_iff.mpr J
 have i:∀b j,(b=m->j≠t.ω.length)->N b j+dj m t.ω.length b j=N b j:=λb j h=>by
  by_cases e:b=m
  ·rw[cR (h e)];rfl
  ·rw[fR e];rfl
 refine⟨λb d h=>?_,G.gl,λb d h j f=>?_,λb d h L=>?_,λb d h j f=>?_,λb d h j y r f B=>?_,G.own,G.nd,λb d h p u v=>?_,λp u v q l=>?_,λy r B b d h=>?_,G.Hh,G.room,G.KP,G.π⟩
 ·rw[←G.g0 b d h];rfl
 ·exact G.JO b d h j f
 ·show N b 0+dj m t.ω.length b 0=0
  rw[i b 0 (λ_=>Ã ‹_›)];exact G.top b d h L
 ·show N b (j+1)+dj m t.ω.length b (j+1)+0<=N b j+dj m t.ω.length b j/\0<N b j+dj m t.ω.length b j/\((N b j+dj m t.ω.length b j:Nat):Int)<=d.len
  rw[i b j (λe=>by subst e;rw[g]at h;cases h;exact Ã ‹_›)]
  exact G.dn b d h j f
 ·show cM b r.qs=iR (N b (j+1)+dj m t.ω.length b (j+1)+0) (N b j+dj m t.ω.length b j)
  have x:=(gQ0 f)
  rw[i b j (λe=>by subst e;rw[g]at h;cases h;exact Ã ‹_›)]
  exact G.q b d h j y r f B
 ·show cM b u=if (p:Int)=d.ι then iR 0 (N b d.ω.length+dj m t.ω.length b d.ω.length) else []
  have h:=h
  rcases bL v with ⟨rfl,rfl⟩|⟨M,H⟩
  ·rw[dW,fO]
   have n:=G.F7 b d h p qs D
   by_cases o:b=m
   ·subst o
    rw[g]at h;cases h
    rw[Ι A.symm]at n
    rw[Ι Λ,Ι A.symm,n,gq,I]
    exact(kQ (Ϧ _)).symm
   ·rw[Θ (Ϟ o),ĕ,i b _ (λz=>Κ z o)];exact n
  ·by_cases o:b=m
   ·subst o
    rw[g]at h;cases h
    have n:=G.F7 b t g p u H
    rw[Θ (by rw[A];exact mt Ä ‹_›)]at n⊢
    exact n
   ·rw[i b _ (λz=>Κ z o)];exact G.F7 b d h p u H
 ·rcases bL v with ⟨rfl,rfl⟩|⟨M,v⟩
  ·rcases ϯ.mp l with l|l
   ·exact G.HR p qs D q l
   ·rw[ϙ.mp l];exact⟨m,t,Λ,g⟩
  ·exact G.HR p u v q l
 ·show r.h=Α (b:Int)↔∃j,d.ω[j]?=Α y/\((N b j+dj m t.ω.length b j:Nat):Int)<d.len
  have h:=h
  rw[G.hold y r B b d h]
  constructor
  ·rintro⟨j,f,x⟩
   have C:=(gQ0 f)
   exact⟨j,f,by rw[i b j (λe=>by subst e;rw[g]at h;cases h;exact Ã ‹_›)];exact x⟩
  ·rintro⟨j,f,x⟩
   have C:=(gQ0 f)
   rw[i b j (λe=>by subst e;rw[g]at h;cases h;exact Ã ‹_›)]at x
   exact⟨j,f,x⟩
theorem Fw.back(G:Fw a s N D){k:Nat}{lk:bV}(C:s.γ[k]?=Α lk)(I:0<lk.b):Fw a {s with γ:=s.γ.set k (qc lk)} N D:=by
 have m:∀{d:Nat}{e:bV},(s.γ.set k (qc lk))[d]?=Α e->∃c,s.γ[d]?=Α c/\e.qs=c.qs/\e.h=c.h/\e.r+e.b=c.r+c.b/\c.r<=e.r/\(0<=c.b->0<=e.b):=λh=>by
  rcases bL h with ⟨rfl,rfl⟩|⟨_,h⟩
  ·exact⟨_,C,Λ,Λ,by show lk.r+1+(lk.b - 1)=_;omega,by show lk.r<=lk.r+1;omega,λ_=>by show 0<=lk.b - 1;omega⟩
  ·exact⟨_,h,Λ,Λ,Λ,Ĉ _,id⟩
 refine⟨G.g0,G.gl,G.JO,G.top,G.dn,λy A h j d e E f=>?_,λd e f p u=>?_,G.nd,G.F7,G.HR,λd e f y A h=>?_,λd e f z B=>?_,λd e f=>?_,λd e f j p q u v=>?_,λd e f q v=>?_⟩
 ·obtain⟨c,g,i,l,n,t,o⟩:=m f
  rw[i];exact G.q y A h j d c E g
 ·obtain⟨c,g,i,l,n,t,o⟩:=m f
  rw[i]at u;exact G.own d c g p u
 ·obtain⟨c,g,i,l,n,t,o⟩:=m f
  rw[l];exact G.hold d c g y A h
 ·obtain⟨c,g,i,l,n,t,o⟩:=m f
  rw[l]at B;exact G.Hh d c g z B
 ·obtain⟨c,g,i,l,n,t,o⟩:=m f
  obtain⟨F,J,H⟩:=G.room d c g
  exact⟨by rw[i,n];exact F,by omega,o H⟩
 ·obtain⟨c,g,i,l,n,t,o⟩:=m f
  rw[i]at u v;exact G.KP d c g j p q u v
 ·obtain⟨c,g,i,l,n,t,o⟩:=m f
  rw[i]at v;rw[l];exact G.π d c g q v
theorem nB{k m:Nat}(d:s.γ[k]?=Α lk)(e:lk.qs.head?=Α ((m:Int),c))(f:s.DO[m]?=Α t)(b:l∈ci a s k):if c=0 then l∉t.ω else l∈(t.ω.drop (t.ω.idxOf k+1)).take 1:=by
 have g:bB s k=Α ((m:Int),c):=by unfold bB;rw[d];exact e
 unfold ci at b
 rw[g]at b
 have b:l∈(match s.DO[(m:Int).toNat]? with|none=>[]|some t=>if c=0 then (jF a k t.ι.toNat).filter λl=>!decide (l∈t.ω) else (t.ω.drop (t.ω.idxOf k+1)).take 1):=b
 rw[Υ,f]at b
 have b:l∈(if c=0 then (jF a k t.ι.toNat).filter λl=>!decide (l∈t.ω) else (t.ω.drop (t.ω.idxOf k+1)).take 1):=b
 by_cases h:c=0
 ·rw[Ι h]at b⊢
  have:=(ϩ.mp b).2
  simpa using this
 ·rw[Θ h]at b⊢;exact b
theorem eR{l:List Nat}(h:x∈(l.drop j).take 1):l[j]?=Α x:=by
 cases a:l.drop j with
 |nil=>rw[a]at h;cases h
 | cons y b =>
  rw[a]at h
  have h:x∈[y]:=h
  rw[ϙ]at h
  subst h
  have:=S8 (xs:=l) (i:=j) (j:=0)
  rw[a]at this
  exact this.symm
theorem ly{l:List Nat}(h:l.Nodup)(a:l[i]?=Α x):l.idxOf x=i:=by
 obtain⟨e,f⟩:=ϳ.mp a
 have c:=Ϙ a
 have b:=JQ c
 have d:l[l.idxOf x]?=Α x:=by rw[Μ b,So b]
 exact c9 h d a
theorem Fw.dn'(G:Fw a s N D)(d:List (List V)):Fw a {s with done:=d} N D:=⟨G.g0,G.gl,G.JO,G.top,G.dn,G.q,G.own,G.nd,G.F7,G.HR,G.hold,G.Hh,G.room,G.KP,G.π⟩
theorem Fw.RK(G:Fw a s N zr)(c:0<=l):∃J:Nat->Nat->Nat,(∀m i,m≠s.DO.length->J m i=N m i)/\Fw a (dO s x y l u) J zr:=by
 have n:∀(m:Nat)(t:bD),(dO s x y l u).DO[m]?=Α t->(m≠s.DO.length/\s.DO[m]?=Α t)∨(m=s.DO.length/\t=⟨x,y,l,u,0,[]⟩):=λm t d=>by
  have d:(s.DO++[(⟨x,y,l,u,0,[]⟩:bD)])[m]?=Α t:=d
  by_cases O:m<s.DO.length
  ·rw[Ϫ O]at d;exact .inl ⟨Ã ‹_›,d⟩
  ·have Q:=(gQ0 d)
   rw[ϗ,Â]at Q
   have R:m=s.DO.length:=by omega
   subst R
   rw[ā]at d
   cases d
   exact .inr ⟨Λ,Λ⟩
 have A:∀{m:Nat}{t:bD},s.DO[m]?=Α t->(dO s x y l u).DO[m]?=Α t:=λd=>by
  show(s.DO++[(⟨x,y,l,u,0,[]⟩:bD)])[_]?=Α _
  rw[Ϫ (gQ0 d)];exact d
 have L:∀{m:Nat}{t:bD},s.DO[m]?=Α t->m≠s.DO.length:=λd z=>by
  rw[z,Ā (Ρ _)]at d;cases d
 refine⟨λm i=>if m=s.DO.length then 0 else N m i,(λm i h=>Θ h),λm t h=>?_,λm t h=>?_,λm t h j o=>?_,λm t h E=>?_,λm t h j o=>?_,λm t h j f g o c=>?_,λf g c p r=>?_,λm t h=>?_,λm t h p D r=>?_,λp D r q v=>?_,λf g c m t h=>?_,λf g c z S=>?_,G.room,λf g c j p q r v=>?_,λf g c q v=>?_⟩
 ·rcases n m t h with ⟨b,h⟩|⟨e,rfl⟩
  ·simp only[Θ b];exact G.g0 m t h
  ·simp only[Ι e];rfl
 ·rcases n m t h with ⟨b,h⟩|⟨e,rfl⟩
  ·exact G.gl m t h
  ·exact c
 ·rcases n m t h with ⟨b,h⟩|⟨e,rfl⟩
  ·simp only[Θ b];exact G.JO m t h j o
  ·simp only[Ι e];rfl
 ·rcases n m t h with ⟨b,h⟩|⟨e,rfl⟩
  ·simp only[Θ b];exact G.top m t h E
  ·simp only[Ι e]
 ·rcases n m t h with ⟨b,h⟩|⟨e,rfl⟩
  ·simp only[Θ b];exact G.dn m t h j o
  ·cases o
 ·rcases n m t h with ⟨b,h⟩|⟨e,rfl⟩
  ·simp only[Θ b];exact G.q m t h j f g o c
  ·cases o
 ·obtain⟨m,t,e,h,E⟩:=G.own f g c p r
  exact⟨m,t,e,A h,E⟩
 ·rcases n m t h with ⟨b,h⟩|⟨e,rfl⟩
  ·exact G.nd m t h
  ·exact ĺ
 ·rcases n m t h with ⟨b,h⟩|⟨e,rfl⟩
  ·simp only[Θ b];exact G.F7 m t h p D r
  ·simp only[Ι e]
   rw[iQ (Ρ _),ite_self]
   refine uF λq v B=>?_
   obtain⟨C,T,M,F⟩:=G.HR p D r q v
   have:=L F
   rw[B]at M
   omega
 ·obtain⟨m,t,e,h⟩:=G.HR p D r q v
  exact⟨m,t,e,A h⟩
 ·rcases n m t h with ⟨b,h⟩|⟨e,rfl⟩
  ·simp only[Θ b];exact G.hold f g c m t h
  ·refine⟨λz=>?_,λU=>by obtain⟨j,o,_⟩:=U;cases o⟩
   obtain⟨C,T,M,F⟩:=G.Hh f g c _ z
   have:=L F
   omega
 ·obtain⟨m,t,e,h⟩:=G.Hh f g c z S
  exact⟨m,t,e,A h⟩
 ·rcases G.KP f g c j p q r v with z|⟨z,C,H,e,I,B⟩
  ·exact .inl z
  ·exact .inr ⟨z,C,H,e,A I,B⟩
 ·rcases G.π f g c q v with z|⟨z,C,H,e,I,B⟩
  ·exact .inl z
  ·exact .inr ⟨z,C,H,e,A I,B⟩
theorem XZ{e:List Int}(h:∀r∈e,1<=r/\r<=60):Fw a (Y0 (e.map V.int) n) zr zr:=by
 have l:∀{k:Nat}{d:bV},(Y0 (e.map V.int) n).γ[k]?=Α d->∃r,e[k]?=Α r/\d=⟨r,0,Β,[]⟩:=λ{k d} b=>by
  have b:(((e.map V.int).map qV))[k]?=Α d:=b
  rw[Å,Å]at b
  cases f:e[k]? with
  |none=>rw[f]at b;cases b
  |some r=>rw[f]at b;cases b;exact⟨r,Λ,Λ⟩
 have g:∀{m:Nat}{t:bD},(Y0 (e.map V.int) n).DO[m]?=Α t->False:=λh=>by cases h
 have u:∀{p:Nat}{o:List (Int×Int)},(Y0 (e.map V.int) n).ε[p]?=Α o->o=[]:=λ{p o} c=>by
  have c:(Ϛ n ([]:List (Int×Int)))[p]?=Α o:=c
  rw[ľ]at c
  split at c
  ·cases c;rfl
  ·cases c
 refine⟨λm t h=>(g h).elim,λm t h=>(g h).elim,λm t h=>(g h).elim,λm t h=>(g h).elim,λm t h=>(g h).elim,λm t h=>(g h).elim,λi d b p c=>?_,λm t h=>(g h).elim,λm t h=>(g h).elim,λp o c q s=>?_,λi d b m t h=>(g h).elim,λi d b z v=>?_,λi d b=>?_,λi d b j p q c s=>?_,λi d b q s=>?_⟩
 ·obtain⟨r,f,rfl⟩:=l b
  cases c
 ·rw[u c]at s;cases s
 ·obtain⟨r,f,rfl⟩:=l b
  cases v
 ·obtain⟨r,f,rfl⟩:=l b
  have x:=h r (Ϙ f)
  refine⟨?_,by show 0<=r;omega,Ĉ _⟩
  show(e.map V.int)[i]?=Α (.int (r+0+((0:Nat):Int)))
  rw[Å,f]
  show Α (V.int r)=_
  congr 2;omega
 ·obtain⟨r,f,rfl⟩:=l b
  cases c
 ·obtain⟨r,f,rfl⟩:=l b
  cases s
abbrev aft(s s1:YS)(m:Mv):YS:={s1 with done:=s.done++[eO m]}
theorem fG{l:List bD}(h:l[k]?=Α x)(e:y.len=x.len):(l.set k y).map (·.len)=l.map (·.len):=by
 refine Wn λi=>?_
 rw[Å,Å,ņ]
 by_cases a:k=i
 ·subst a
  rw[Ι Λ,Ι (gQ0 h),h]
  show Α y.len=Α x.len
  rw[e]
 ·rw[Θ a]
theorem GC.Yb(h:GC a s m s'):s'.DO.map (·.len)=s.DO.map (·.len):=by
 cases h with
 | @FD k l t ln ht hg hl El ho =>
  have d:(cv s k t).DO.map (·.len)=s.DO.map (·.len):=fG ht Λ
  have e:(cv s k t).DO[k]?=Α {t with δ:=t.δ+1}:=cO ht
  show(if t.δ=0 then (cv s k t).DO.set k _ else (cv s k t).DO).map (·.len)=_
  split
  ·exact(fG (y:={({t with δ:=t.δ+1}:bD) with ω:=t.ω++[l]}) e Λ).trans d
  ·exact d
 | @on k l m c lk ln t hk hq ht hl El ho =>
  show(if c=0 then s.DO.set m _ else s.DO).map (·.len)=_
  split
  ·exact fG (y:={t with ω:=t.ω++[l]}) ht Λ
  ·rfl
 |F7=>rfl
 |back=>rfl
noncomputable def rj(s:YS):Int:=(s.γ.map (·.b)).sum
noncomputable def wt(i:Nat):Nat:=if i=0 then 1 else 2
noncomputable def jq(L:Nat)(f:Nat->Nat):Nat:=((ϋ (L+1)).map λi=>wt i* f i).sum
noncomputable def jm(k L:Nat)(N:Nat->Nat->Nat):Nat:=((ϋ k).map λm=>jq L (N m)).sum
noncomputable def yk(s:YS):Int:=(s.DO.map (·.len)).sum
theorem nJ{f g:Nat->Nat}:∀l:List Nat,(l.map λi=>f i+g i).sum=(l.map f).sum+(l.map g).sum
 |[]=>rfl
 |x:: l=>by rw[Ϭ,Ϭ,Ϭ,Ù,Ù,Ù,nJ l];omega
theorem jO:∀n:Nat,((ϋ n).map λi=>if i=i0 then c else 0).sum=if i0<n then c else 0
 |0=>rfl
 | n+1=>by
  rw[ē,Ì,OV,jO n]
  show _+(if n=i0 then c else 0)+0=_
  by_cases a:n=i0
  ·rw[Ι a,Θ (by omega),Ι (by omega)];exact OE _
  ·rw[Θ a]
   by_cases b:i0<n
   ·rw[Ι b,Ι (ĥ ‹_›)];rfl
   ·rw[Θ b,Θ (by omega)]
theorem xm{N:Nat->Nat->Nat}(a:i<=L):jq L (λj=>N m j+dj m i m j)=jq L (N m)+wt i:=by
 unfold jq
 rw[show(λj=>wt j* (N m j+dj m i m j))=λj=>wt j* N m j+(if j=i then wt i else 0) from funext λj=>by
  unfold dj
  by_cases h:j=i
  ·subst h;rw[Ι ⟨Λ,Λ⟩,Ι Λ,Nat.mul_add];omega
  ·rw[Θ (λz=>h z.2),Θ h,Jk,Jk]]
 rw[nJ,jO,Ι (Ð ‹_›)]
theorem kG(c:m<k)(d:i<=L):jm k L (λa b=>N a b+dj m i a b)=jm k L N+wt i:=by
 unfold jm
 rw[show(λa=>jq L λb=>N a b+dj m i a b)=λa=>jq L (N a)+(if a=m then wt i else 0) from funext λa=>by
  by_cases h:a=m
  ·subst h;rw[Ι Λ];exact xm d
  ·rw[Θ h,show(λb=>N a b+dj m i a b)=N a from funext λb=>by rw[fR h];omega];omega]
 rw[nJ,jO,Ι c]
theorem eI:∀{l:List bV}{k:Nat}{x:bV}(y:bV),l[k]?=Α x->((l.set k y).map (·.b)).sum=(l.map (·.b)).sum+(y.b - x.b)
 |[],_,_,_,h=>by cases h
 | z:: l,0,x,y,h=>by
  cases h
  rw[Qj,Ϭ,Ϭ,Ù,Ù];omega
 | z:: l,k+1,x,y,h=>by
  rw[Qk,Ϭ,Ϭ,Ù,Ù,eI y (show l[k]?=Α x from h)];omega
theorem sW:∀{l:List bV},(∀x∈l,0<=x.b)->0<=(l.map (·.b)).sum
 |[],_=>Ĉ _
 | x:: l,h=>by
  rw[Ϭ,Ù]
  have:=h x ώ
  have:=sW λy a=>h y (ϟ _ a)
  omega
theorem qW(J:Ff a s){m:Nat}(b:s.DO[m]?=Α t):t.ω.length<=a.ps.length:=gX _ _ (J.EG m t b).2 (J.EG m t b).1
structure Kv(a:YA)(s:YS)(N:Nat->Nat->Nat):Prop where
 G:Fw a s N zr
 c:(s.done.length:Int)+rj s=s.DO.length+jm s.DO.length a.ps.length N
theorem Kv.step(C:Kv a s N)(J:Ff a s)(h:GC a s mv s'):∃f,Kv a (aft s s' mv) f:=by
 have G:=C.G
 have R:=C.c
 have v:((s.done++[eO mv]).length:Int)=s.done.length+1:=by rw[ϗ,Â];rfl
 have q:=h.len
 have fin:∀{f:Nat->Nat->Nat}{x:Nat}{b:Int},Fw a s' f zr->jm s.DO.length a.ps.length f=jm s.DO.length a.ps.length N+x->rj s'=rj s+b->1+b=x->∃f,Kv a (aft s s' mv) f:=λ{f x b} y A B S =>
  ⟨f,y.dn' _,by
   show((s.done++[eO mv]).length:Int)+rj s'=(s'.DO.length:Int)+jm s'.DO.length a.ps.length f
   rw[v,B,q,A];omega⟩
 have lt:∀{m:Nat}{t:bD},s.DO[m]?=Α t->m<s.DO.length:=λd=>(gQ0 d)
 cases h with
 | @FD m l t ln d hg hl El ho =>
  have o:=G.leave d hg
  have D:=G.g0 m t d
  have T:=G.gl m t d
  have E:(cv s m t).DO[m]?=Α {t with δ:=t.δ+1}:=cO d
  refine fin (b:=0) (o.enter E D.symm (λn=>?_) (λn=>?_) (by show t.δ+1<=t.len;omega) El ho) (kG (lt d) (Ϧ _)) ?_ Λ
  ·have:=J.EX m t d n
   rw[this];exact⟨Λ,Õ⟩
  ·unfold cn at hl
   rw[Θ n]at hl
   exact eR (j:=0) hl
  ·exact(eI _ El).trans (by show(s.γ.map (·.b)).sum+(ln.b - ln.b)=(s.γ.map (·.b)).sum+0;omega)
 | @on k l m c lk ln t hk hq d hl El ho =>
  obtain⟨i,p,g,F,o⟩:=G.pull hk hq d
  have r:=nB hk hq d hl
  have H:=(gQ0 p)
  obtain⟨U,X,Y⟩:=G.dn m t d i H
  have wl:=qW J d
  refine fin (b:=1) (o.enter (t:=t) d g (λn=>?_) (λn=>?_) (by omega) El ho) (kG (lt d) (ϛ ‹_› ‹_›)) ?_ Λ
  ·rw[Ι n]at r
   refine⟨?_,r⟩
   rcases Ě (i+1) t.ω.length with h|h
   ·have:=(G.dn m t d (i+1) h).2.1
    omega
   ·exact Nat.le_antisymm ‹_› ‹_›
  ·rw[Θ n]at r
   rw[ly (G.nd m t d) p]at r
   exact eR r
  ·have I:=eI (cr lk) hk
   have L:=eI (fH ln (m:Int) c t.len) El
   have M:(cr lk).b=lk.b+1:=rfl
   have O:(fH ln (m:Int) c t.len).b=ln.b:=rfl
   show(((s.γ.set k (cr lk)).set l (fH ln (m:Int) c t.len)).map (·.b)).sum=(s.γ.map (·.b)).sum+1
   rw[L,I,M,O];omega
 | @F7 k m e c lk t qs hk hq d hg he Hg =>
  obtain⟨i,p,g,F,o⟩:=G.pull hk hq d
  have Q:=J.last m t d i k p (by show(a.ps.getD k (0,0)).2=_;rw[he,hg])
  rw[Q]at g o
  have wl:=qW J d
  refine fin (b:=1) (o.lay (t:=t) d g hg Hg (λz=>by rw[z]at p;cases p)) (kG (lt d) wl) ?_ (by unfold wt;rw[Θ (by omega)];rfl)
  exact(eI (cr lk) hk).trans (by show(s.γ.map (·.b)).sum+(lk.b+1 - lk.b)=(s.γ.map (·.b)).sum+1;omega)
 | @back k lk hk hb =>
  refine fin (x:=0) (b:=-1) (G.back hk hb) Λ ?_ Λ
  exact(eI (qc lk) hk).trans (by show(s.γ.map (·.b)).sum+(lk.b - 1 - lk.b)=(s.γ.map (·.b)).sum+ -1;omega)
theorem Kv.post(C:Kv a s N)(o:1<=l):∃b,Kv a (dO s x y l u) b:=by
 obtain⟨b,f,d⟩:=C.G.RK (x:=x) (y:=y) (l:=l) (u:=u) (gg ‹_›)
 refine⟨b,d,?_⟩
 have e:(dO s x y l u).DO[s.DO.length]?=Α ⟨x,y,l,u,0,[]⟩:=ā
 have g:∀i,b s.DO.length i=0:=λi=>by
  cases i with
  |zero=>have:=d.g0 _ _ e;have:((b s.DO.length 0+0:Nat):Int)=0:=this;exact Ä ‹_›
  |succ i=>have:b s.DO.length (i+1)+0=0:=d.JO _ _ e (i+1) (ť _);exact ‹_›
 have h:jq a.ps.length (b s.DO.length)=0:=by
  unfold jq
  rw[show(λi=>wt i* b s.DO.length i)=λi=>if i=a.ps.length+1 then 0 else 0 from funext λi=>by rw[g,Nat.mul_zero,ite_self]]
  rw[jO,ite_self]
 have j:jm (s.DO.length+1) a.ps.length b=jm s.DO.length a.ps.length N:=by
  unfold jm
  rw[ē,Ì,OV]
  show _+(jq a.ps.length (b s.DO.length)+0)=_
  rw[h,Jk]
  congr 1
  refine ų λm n=>?_
  have:=È.mp n
  rw[show b m=N m from funext λi=>f m i (Ã ‹_›)]
 show((s.done++[_]).length:Int)+rj s=((s.DO++[(⟨x,y,l,u,0,[]⟩:bD)]).length:Int)+jm (s.DO++[(⟨x,y,l,u,0,[]⟩:bD)]).length a.ps.length b
 rw[ϗ,Â,ϗ,Â,j]
 have:=C.c
 omega
theorem Cl{L n W:Nat}(h:∀i,i<=L->f i<=n):jq L f<=n* (2* L+1):=by
 unfold jq
 have a:∀L,(∀i,i<=L->f i<=n)->((ϋ (L+1)).map λi=>wt i* f i).sum<=n* (2* L+1):=by
  intro L
  induction L with
  | zero =>
   intro h
   have:=h 0 (Ρ _)
   show 1* f 0+0<=_
   omega
  | succ L b =>
   intro h
   rw[ē,Ì,OV]
   have c:=b λi d=>h i (ø ‹_›)
   have g:=h (L+1) (Ρ _)
   show _+(wt (L+1)* f (L+1)+0)<=_
   have e:wt (L+1)=2:=Θ (ż _)
   rw[e,show n* (2* (L+1)+1)=n* (2* L+1)+2* n by rw[show 2* (L+1)+1=(2* L+1)+2 from Λ,Nat.mul_add];omega]
   omega
 exact a L h
theorem vS:∀(l:List bD)(f:Nat->Nat)(c a:Nat),(∀(m:Nat)(t:bD),l[m]?=Α t->(f (a+m):Int)<=t.len* c)->((((Pn a l.length).map f).sum:Nat):Int)<=(l.map (·.len)).sum* c
 |[],f,c,a,_=>by simp
 | t:: l,f,c,a,h=>by
  have b:=h 0 t Λ
  have g:=vS l f c (a+1) λm d e=>by
   have:=h (m+1) d e
   rw[show a+1+m=a+(m+1) from Nat.add_right_comm _ _ _];exact this
  rw[ï,List.range'_succ,Ϭ,Ù,Ϭ,Ù,Int.add_mul,Int.natCast_add]
  have b:(f a:Int)<=t.len* c:=b
  omega
theorem Kv.most(C:Kv a s N)(J:Ff a s):(s.done.length:Int)<=s.DO.length+yk s* (2* a.ps.length+1:Nat):=by
 have v:0<=rj s:=sW λo p=>by
  obtain⟨k,q⟩:=ô p
  exact(C.G.room k o q).2.2
 have r:=C.c
 have x:=vS s.DO (λm=>jq a.ps.length (N m)) (2* a.ps.length+1) 0 (λm t b=>?_)
 ·unfold yk
  have e:jm s.DO.length a.ps.length N=((Pn 0 s.DO.length).map λm=>jq a.ps.length (N m)).sum:=by unfold jm;rw[Pf]
  rw[e]at r
  omega
 ·rw[OE]
  have G:=C.G
  have y:=G.g0 m t b
  have z:=G.gl m t b
  have d:∀i,i<=a.ps.length->N m i<=t.len.toNat:=λi _=>by
   rcases Ě i t.ω.length with h|h
   ·have:=(G.dn m t b i h).2.2;omega
   ·rcases Ě t.ω.length i with f|f
    ·have:N m i+0=0:=G.JO m t b i f;omega
    ·have g:i=t.ω.length:=Nat.le_antisymm ‹_› ‹_›
     cases l:t.ω.length with
     |zero=>rw[g,l];omega
     | succ j =>
      obtain⟨n,A,B⟩:=G.dn m t b j (by omega)
      have n:=n
      rw[g,l];omega
  have:=Cl (W:=0) d
  have u:0<=t.len:=by omega
  have e:((t.len.toNat* (2* a.ps.length+1):Nat):Int)=t.len* ((2* a.ps.length+1:Nat):Int):=by rw[Int.natCast_mul,Int.toNat_of_nonneg u]
  rw[←e]
  exact Int.ofNat_le.mpr this
theorem Yc{c:List Int}(h:∀r∈c,1<=r/\r<=60):Kv a (Y0 (c.map V.int) n) zr:=by
 refine⟨XZ h,?_⟩
 have e:rj (Y0 (c.map V.int) n)=0:=by
  show((((c.map V.int).map qV).map (·.b))).sum=0
  have:∀l:List Int,((((l.map V.int).map qV).map (·.b))).sum=0:=by
   intro l
   induction l with
   |nil=>rfl
   |cons x l d=>show (0:Int)+_=0;rw[Þ];exact d
  exact this c
 rw[e]
 rfl
structure Jd(a:YA)(s:YS):Prop where
 b0:∀(k:Nat)(ln:bV),s.γ[k]?=Α ln->ln.b<=0
 RM:∀(k m:Nat)(c:Int)(ln:bV)(t:bD),s.γ[k]?=Α ln->ln.qs.head?=Α ((m:Int),c)->s.DO[m]?=Α t->t.ι≠oQ a k
 on0:∀(k m:Nat)(c:Int)(ln:bV),s.γ[k]?=Α ln->ln.qs.head?=Α ((m:Int),c)->∀l∈ci a s k,cU s l m c=Ε
 in0:∀(m:Nat)(t:bD),s.DO[m]?=Α t->t.δ≠t.len->∀l∈cn a t,cU s l m t.δ=Ε
theorem BL(h:cy a s=[]):Jd a s:=by
 unfold cy at h
 have q:=JV.mp h
 have r:=JV.mp q.1
 have u:=JV.mp r.1
 have d:∀{n:Nat}{f:Nat->List Mv},(ϋ n).flatMap f=[]->∀k,k<n->f k=[]:=λe k g=>(List.flatMap_eq_nil_iff.mp e) k (È.mpr g)
 have lt:∀{v:Type}{l:List v}{k:Nat}{x:v},l[k]?=Α x->k<l.length:=λe=>(gQ0 e)
 refine⟨λk j g=>?_,λk m c j t g o i=>?_,λk m c j g o l p=>?_,λm t i y l p=>?_⟩
 ·have e:=d q.2 k (lt g)
  unfold dI at e
  rw[g]at e
  dsimp only at e
  by_cases z:0<j.b
  ·rw[Ι z]at e;cases e
  ·exact Int.not_lt.mp ‹_›
 ·have e:=d r.2 k (lt g)
  unfold fS bB at e
  rw[g]at e
  dsimp only at e
  rw[o]at e
  dsimp only at e
  rw[Υ,i]at e
  dsimp only at e
  intro A
  rw[Ι (show t.ι=(a.ps.getD k (0,0)).2 from A)]at e;cases e
 ·have e:=d u.2 k (lt g)
  unfold j0 bB at e
  rw[g]at e
  dsimp only at e
  rw[o]at e
  dsimp only at e
  have e:=ı.mp e
  have:=Ŕ.mp e l p
  simpa using this
 ·have e:=d u.1 m (lt i)
  unfold iX at e
  rw[i]at e
  dsimp only at e
  rw[Θ y]at e
  have e:=ı.mp e
  have:=Ŕ.mp e l p
  simpa using this
theorem ql:∀{a:List (Int×Int)}{x:Int}{r:List Int},cM m a=x:: r->∃i:Nat,a[i]?=Α ((m:Int),x)/\∀j:Nat,j<i->∀q:Int×Int,a[j]?=Α q->q.1≠(m:Int)
 |[],x,r,h=>by cases h
 | q:: a,x,r,h=>by
  obtain⟨f,b⟩:=q
  by_cases e:f=(m:Int)
  ·subst e
   rw[show((m:Int),b):: a=[((m:Int),b)]++a from Λ,dW,fO,Ι Λ]at h
   have h:=h
   exact⟨0,by rw[(Ň h).1];rfl,λj c=>Κ c (Ă _)⟩
  ·have h:cM m a=x:: r:=by
    unfold cM at h⊢
    rw[ģ (by simpa using e)]at h
    exact h
   obtain⟨i,g,l⟩:=ql h
   refine⟨i+1,g,λj c q d=>?_⟩
   cases j with
   |zero=>cases d;exact e
   |succ j=>exact l j (Ů ‹_›) q d
theorem oW{m:Nat}(h:((m:Int),c)∈qs):c∈cM m qs:=by
 unfold cM
 exact Ö.mpr ⟨_,ϩ.mpr ⟨h,by simp⟩,Λ⟩
theorem zn(h:c∈iR x y):(x:Int)<=c/\c<y:=by
 unfold iR at h
 obtain⟨z,a,rfl⟩:=Ö.mp h
 have:=List.mem_range'_1.mp a
 exact⟨by omega,by omega⟩
section
variable {a:YA}{s:YS}{N:Nat->Nat->Nat}
theorem Jd.right(S:Jd a s)(G:Fw a s N zr)(f:∀(k:Nat) (c:bV),s.γ[k]?=Α c->1<=c.r+c.b+c.qs.length){k:Nat}(e:s.γ[k]?=Α c)(g:c.qs=[]):c.r≠0:=by
 have d:=f k c e
 have h:=S.b0 k c e
 rw[g]at d
 have d:1<=c.r+c.b+0:=d
 omega
theorem Jd.held(S:Jd a s)(G:Fw a s N zr)(J:Ff a s)(Q:∀(k:Nat) (d:bV),s.γ[k]?=Α d->1<=d.r+d.b+d.qs.length)(g:s.DO[m]?=Α t):
  ∀(j k:Nat)(d:bV),t.ω[j]?=Α k->s.γ[k]?=Α d->cM m d.qs=[]->(N m j:Int)<t.len->False:=by
 intro j
 induction j with
 | zero =>
  intro k d n o E F
  have u:=(G.hold k d o m t g).mpr ⟨0,n,F⟩
  have H:d.qs=[]:=by
   cases v:d.qs.getLast? with
   |none=>exact Lm.mp v
   | some q =>
    rcases G.π k d o q v with z|⟨z,_⟩
    ·rw[u]at z
     have e:=(Ϝ z).symm
     have:=oW (m:=m) (c:=q.2) (show((m:Int),q.2)∈d.qs from e▸Mq v)
     rw[E]at this;cases this
    ·rw[u]at z;cases z
  have I:=S.right G Q o H
  have L:=(gQ0 n)
  have T:=(G.dn m t g 0 L).2.1
  have g0:((N m 0+0:Nat):Int)=t.δ:=G.g0 m t g
  have f:=S.in0 m t g (by omega) k (by
   unfold cn
   rw[Θ (by omega)]
   cases B:t.ω with
   |nil=>rw[B]at n;cases n
   |cons x xs=>rw[B]at n;cases n;exact ώ)
  unfold cU at f
  rw[o]at f
  dsimp only at f
  unfold cp at f
  rw[Θ I,Θ (by omega),u]at f
  simp at f
 | succ j U =>
  intro k d n o E F
  have L:=(gQ0 n)
  have u:=(G.hold k d o m t g).mpr ⟨j+1,n,F⟩
  have H:d.qs=[]:=by
   cases v:d.qs.getLast? with
   |none=>exact Lm.mp v
   | some q =>
    rcases G.π k d o q v with z|⟨z,_⟩
    ·rw[u]at z
     have e:=(Ϝ z).symm
     have:=oW (m:=m) (c:=q.2) (show((m:Int),q.2)∈d.qs from e▸Mq v)
     rw[E]at this;cases this
    ·rw[u]at z;cases z
  have I:=S.right G Q o H
  have T:=(G.dn m t g (j+1) L).2.1
  have l:t.ω[j]?=Α t.ω[j]:=Μ (ê ‹_›)
  generalize t.ω[j]'(ê ‹_›)=y at l
  have X:y<s.γ.length:=by rw[J.γ];exact(J.EG m t g).1 y (Ϙ l)
  have A:=Μ X
  generalize s.γ[y]=p at A
  have D:cM m p.qs=iR (N m (j+1)+0) (N m j):=G.q m t g j y p l A
  rw[Jk]at D
  have HP:=(G.dn m t g j (ê ‹_›)).1
  rcases Ě (N m (j+1)) (N m j) with Y|Z
  ·rw[pI Y]at D
   obtain⟨i,M,Yf⟩:=ql D
   have O:i=0:=by
    cases i with
    |zero=>rfl
    | succ i =>
     exfalso
     have LA:=(gQ0 M)
     have R:p.qs[i]?=Α p.qs[i]:=Μ (ê ‹_›)
     rcases G.KP y p A i _ _ R M with ⟨z,_⟩|⟨z,_⟩
     ·exact Yf i (VA _) _ R z.symm
     ·have z:=z
      omega
   subst O
   have C:p.qs.head?=Α ((m:Int),(N m (j+1):Int)):=by rw[List.head?_eq_getElem?];exact M
   have f:=S.on0 y m _ p A C k (by
    unfold ci bB
    rw[A]
    dsimp only
    rw[C]
    dsimp only
    rw[Υ,g]
    dsimp only
    rw[Θ (by omega),ly (G.nd m t g) l]
    have:(t.ω.drop (j+1))[0]?=Α k:=by rw[S8];exact n
    cases B:t.ω.drop (j+1) with
    |nil=>rw[B]at this;cases this
    |cons x xs=>rw[B]at this;cases this;exact ώ)
   unfold cU at f
   rw[o]at f
   dsimp only at f
   unfold cp at f
   rw[Θ I,Θ (by omega),u]at f
   simp at f
  ·exact U y p l A (by rw[D];exact iQ Z) (by omega)
theorem Jd.free(S:Jd a s)(G:Fw a s N zr)(J:Ff a s)(g:∀(k:Nat) (c:bV),s.γ[k]?=Α c->1<=c.r+c.b+c.qs.length){k:Nat}(d:s.γ[k]?=Α c)(i:c.qs=[]):c.h=Β:=by
 cases e:c.h with
 |none=>rfl
 | some z =>
  obtain⟨m,t,rfl,f⟩:=G.Hh k c d z e
  obtain⟨j,l,n⟩:=(G.hold k c d m t f).mp e
  exact(S.held G J g f j k c l d (by rw[i];rfl) n).elim
theorem Jd.wants(S:Jd a s)(G:Fw a s N zr)(J:Ff a s)(p:∀(k:Nat) (d:bV),s.γ[k]?=Α d->1<=d.r+d.b+d.qs.length){k m:Nat}(n:s.γ[k]?=Α d)(o:d.qs.head?=Α ((m:Int),c))(f:s.DO[m]?=Α t)(q:l∈ci a s k)(j:s.γ[l]?=Α lo):lo.qs≠[]:=λu=>by
 have v:=S.free G J p j u
 have A:=S.right G p j u
 have e:=S.on0 k m c d n o l q
 have g:=nB n o f q
 unfold cU at e
 rw[j]at e
 dsimp only at e
 unfold cp at e
 rw[Θ A]at e
 by_cases x:c=0
 ·rw[Ι x,v]at e;simp at e
 ·rw[Θ x]at g
  obtain⟨i,y,B,D,_⟩:=G.pull n o f
  rw[ly (G.nd m t f) y]at g
  have g:=eR g
  have C:=(gQ0 y)
  have E:=(G.dn m t f i C).2.2
  have z:=(G.hold l lo j m t f).mpr ⟨i+1,g,by omega⟩
  rw[v]at z;cases z
theorem Jd.head(S:Jd a s)(G:Fw a s N zr)(J:Ff a s){k m:Nat}(e:s.γ[k]?=Α ln)(g:ln.qs.head?=Α ((m:Int),c))(d:s.DO[m]?=Α t)(b:ci a s k=[]):c=0:=by
 by_cases l:c=0
 ·exact l
 exfalso
 obtain⟨i,f,r,v,_⟩:=G.pull e g d
 have y:=(gQ0 f)
 unfold ci bB at b
 rw[e]at b
 dsimp only at b
 rw[g]at b
 dsimp only at b
 rw[Υ,d]at b
 dsimp only at b
 rw[Θ l,ly (G.nd m t d) f]at b
 have n:t.ω.length<=i+1:=by
  rcases Ě (i+1) t.ω.length with h|h
  ·have:(t.ω.drop (i+1)).length=t.ω.length - (i+1):=List.length_drop ..
   cases o:t.ω.drop (i+1) with
   |nil=>rw[o]at this;have:0=t.ω.length - (i+1):=this;omega
   |cons x xs=>rw[o]at b;cases b
  ·exact h
 have u:t.ω.getLast?=Α k:=by
  rw[ũ,show t.ω.length - 1=i by omega];exact f
 rcases J.head m t d k ln u e with z|z
 ·have p:=oW z
  have j:=G.q m t d i k ln f e
  rw[j]at p
  have:=zn p
  omega
 ·exact S.RM k m c ln t e g d z.symm
theorem Jd.starts(S:Jd a s)(G:Fw a s N zr)(J:Ff a s)(i:∀(k:Nat) (d:bV),s.γ[k]?=Α d->1<=d.r+d.b+d.qs.length){m:Nat}(e:s.DO[m]?=Α t)(u:t.δ≠t.len)(f:l∈cn a t)(g:s.γ[l]?=Α lo):lo.qs≠[]:=λn=>by
 have o:=S.free G J i g n
 have v:=S.right G i g n
 have c:=S.in0 m t e u l f
 unfold cU at c
 rw[g]at c
 dsimp only at c
 unfold cp at c
 rw[Θ v]at c
 by_cases p:t.δ=0
 ·rw[Ι p,o]at c;simp at c
 ·unfold cn at f
  rw[Θ p]at f
  have x:=eR (j:=0) f
  have y:=G.g0 m t e
  have z:=G.gl m t e
  have q:=(G.hold l lo g m t e).mpr ⟨0,x,by omega⟩
  rw[o]at q;cases q
end
noncomputable def yR:Option Nat->Nat
 |none=>0
 |some k=>k+1
noncomputable def xn(r:Rw):Nat:=(r.p.toNat* 100+r.g.toNat)* 100+yR r.c
theorem Db(h:aN a=aN b):xn a=xn b:=by
 unfold aN at h
 injection h with g e
 injection e with e d
 injection d with d _
 injection g with g
 injection e with e
 have l:a.c=b.c:=by
  cases i:a.c with
  | none=>cases f:b.c with
   |none=>rfl
   |some k=>rw[i,f]at d;cases d
  | some k=>cases f:b.c with
   |none=>rw[i,f]at d;cases d
   | some j =>
    rw[i,f]at d
    have d:Α (k:Int)=Α (j:Int):=d
    injection d with d
    rw[show k=j from Ä ‹_›]
 unfold xn
 rw[g,e,l]
structure Jw(n:Nat)(ps:List (Int×Int))(B:Nat)(rs:List Rw):Prop where
 sort:(rs.map xn).Pairwise (· < ·)
 low:∀r∈rs,xn r<B
 fit:∀r∈rs,fM n ps r=Δ
 EH:∀r∈rs,r.s.length<=40
theorem Jw.up(h:Jw n ps B rs)(l:B<=B'):Jw n ps B' rs:=⟨h.sort,λr a=>ϛ (h.low r a) l,h.fit,h.EH⟩
theorem Jw.snoc(h:Jw n ps B rs)(c:B<=xn r)(d:fM n ps r=Δ)(e:r.s.length<=40):Jw n ps (xn r+1) (rs++[r]):=by
 refine⟨?_,λx a=>?_,λx a=>?_,λx a=>?_⟩
 ·rw[Ì,p4]
  refine⟨h.sort,by simp,λx a y b=>?_⟩
  obtain⟨f,g,rfl⟩:=Ö.mp a
  have b:y=xn r:=by simpa using b
  rw[b]
  exact ϛ (h.low f g) c
 ·rcases ϯ.mp a with a|a
  ·have:=h.low x a;omega
  ·rw[ϙ.mp a];exact Ρ _
 ·rcases ϯ.mp a with a|a
  ·exact h.fit x a
  ·rw[ϙ.mp a];exact d
 ·rcases ϯ.mp a with a|a
  ·exact h.EH x a
  ·rw[ϙ.mp a];exact e
theorem Jw.good(h:Jw n ps B rs):dJ n ps rs rs.length=Β:=by
 refine ip λk b=>?_
 have c:=Μ b
 have d:rs.getD k ⟨0,0,Β,[]⟩=rs[k]:=by rw[Χ,c];rfl
 rw[d,jf,h.fit _ (ă b)]
 have f:((rs.take k).any λa=>decide (aN a=aN rs[k]))=Ε:=by
  rw[n7]
  intro a g i
  have e:=Db (of_decide_eq_true i)
  obtain⟨j,o,l⟩:=Ċ.mp g
  have m:j<k:=by omega
  have:=ú.mp h.sort j k (by rw[ϊ];exact hH ‹_› ‹_›) (by rw[ϊ];exact b) m
  rw[š,š,l]at this
  omega
 rw[f];rfl
theorem mU(h:fM n ps r=Δ):∀k∈r.s,k<ps.length:=by
 unfold fM at h
 simp only[É,Ŏ,decide_eq_true_eq]at h
 intro k a
 exact È.mp (ϩ.mp (h.2.2 k a)).1
noncomputable def fQ(rs:List Rw)(k:bJ):Nat:=match cX rs k with
 |some r=>Yd.Ey r.s 0
 |none=>0
theorem gE(h:cX rs k=Α r):r∈rs:=rz.mp (List.mem_of_find?_eq_some h)
noncomputable def Ux(rs:List Rw):Wf:=λp g k=>mN (fQ rs (aN ⟨(p:Int),(g:Int),k,[]⟩))
theorem yf(h:z∈mN (Yd.Ey ks 0)):z∈ks:=by
 have:=(ϩ.mp h).2
 have a:=this
 rw[uN,decide_eq_true_eq]at a
 obtain⟨n,b,e⟩:=ER.mp a
 have:n=z:=Ä ‹_›
 exact this▸b
theorem AG(e:ps.length<ό)
  (f:∀(i:Nat)(acc:List V)(N:List V->Hp->Prop)(a:Int×Int),ps[i]?=Α a->N (if decide (sel a=pl)=Δ then acc++[V.int i] else acc) H->g (.int i) σ0 H λc j=>tt c j λb d=>if b=Δ then te c d λy l=>N (acc++[y]) l else N acc d)
  (m:∀D,H D=Β->Q (.ref D) (ο H D (.π (ce (gH sel ps pl))))):dM (AT 0 ps.length) g tt te σ0 Q H:=by
 refine lA (lo:=0) (λk=>decide (sel (ps.getD k (0,0))=pl)) (λk=>V.int k) e (λi acc N n h=>?_) m
 obtain⟨a,hpr⟩:∃a,ps[i]?=Α a:=⟨ps[i],Μ n⟩
 have o:ps.getD i (0,0)=a:=by rw[Χ,hpr];rfl
 rw[Þ]
 rw[o]at h
 exact f i acc N a hpr h
def Yh(x:Ν)(H:Hp)(v:V)(r:Rw):Prop:=∃t l,v=.ref t/\N0 H t l r/\l≠x
abbrev Hi(x:Ν)(H:Hp):List V->List Rw->Prop:=Paired (Yh x H)
theorem Hi.imp{H H':Hp}(h:∀v r,Yh x H v r->G v r):∀{a:List V}{b:List Rw},Hi x H a b->Paired G a b:=λc=>by
 induction c with
 |nil=>exact .nil
 |cons z r d=>exact .cons (h _ _ z) d
theorem Hi.rws(h:Hi x H vs rs):IX H vs rs:=Hi.imp (H':=H) (λ_ _ ⟨t,l,e,z,_⟩=>⟨t,l,e,z⟩) h
theorem Hi.same(s:DP H H')(h:Hi x H vs rs):Hi x H' vs rs:=Hi.imp (H':=H) (λ_ _ ⟨t,l,e,z,n⟩=>⟨t,l,e,z.same s,n⟩) h
theorem Hi.off(a:H x=Α (.π xs))(h:Hi x H vs rs):Hi x (ο H x o) vs rs:=
 Hi.imp (H':=H) (λ_ _ b=>by obtain⟨t,l,e,z,n⟩:=b;exact⟨t,l,e,⟨by rw[ag (aQ z.1 a (by intro z;cases z))];exact z.1,by rw[ag n];exact z.2⟩,n⟩) h
theorem Hi.snoc(h:Yh x H v r):∀{a:List V}{b:List Rw},Hi x H a b->Hi x H (a++[v]) (b++[r]):=λc=>by
 induction c with
 |nil=>exact .cons h .nil
 |cons z t d=>exact .cons z d
theorem vc(us:List Nat)(k:Nat):ce us++[V.int (k:Int)]=ce (us++[k]):=by unfold ce;rw[Ì];rfl
theorem D1(m k:Nat):decide (V.int (ç ((m:Int) / 2^(k:Int).toNat) 1)=V.int 1)=m.testBit k:=by
 rw[fL,Υ,←Yd.Jj m k]
theorem mZ(q:Nat->Bool)(f:xs.length<ό)(i:DT K H a (ce xs))
  (j:∀(k:Nat)(acc:List V)(N:List V->Hp->Prop),k∈xs->N (if q k then acc++[V.int (k:Int)] else acc) H->g (.int (k:Int)) σ0 H λc l=>tt c l λb d=>if b=Δ then te c d λy m=>N (acc++[y]) m else N acc d)
  (n:∀D,H D=Β->Q (.ref D) (ο H D (.π (ce (xs.filter q))))):dM (vJ K a) g tt te σ0 Q H:=by
 refine gK (xs:=ce xs) (λv=>match v with|.int k=>q k.toNat|_=>Ε) (λv=>v) (by unfold ce;rw[ϊ];exact f) i (λx acc N o h=>?_) λD p=>?_
 ·obtain⟨k,r,rfl⟩:=Ö.mp o
  exact j k acc N r h
 ·have e:((ce xs).filter (λv=>match v with|.int k=>q k.toNat|_=>Ε)).map (λv=>v)=ce (xs.filter q):=by
   unfold ce
   rw[List.map_id'',List.filter_map]
   ·congr 1
   ·intro _;rfl
  rw[e]
  exact n D p
theorem Jw.len(h:Jw n ps B rs):rs.length<=B:=by
 have:=gX B (rs.map xn) (h.sort.imp λh=>Ã h) λx a=>by
  obtain⟨r,b,rfl⟩:=Ö.mp a
  exact h.low r b
 rw[ϊ]at this
 exact this
theorem y2{n:Nat}(a:1<=n)(b:n<=12)(c:ps.length<=40)(h:∀p∈ps,iB n p=Δ):gI n ps=.good:=by
 unfold gI
 rw[Ζ (show (1:Int)<=(n:Int)/\(n:Int)<=12 by omega),Θ (by decide),Θ (A6 ‹_›),lD h]
noncomputable def DE(s:Ç):Scope:=match s with
 |.Assign _ (.ListComp _ _ sc _) _=>sc
 |_=>zQ0
noncomputable def lb(b:List Ç)(i:Nat):Ç:=b.getD i (.Pass ⟨0,0,0,0⟩)
noncomputable def oJ(s:Ç):List Ç:=match s with
 |.For _ _ b _ _=>b
 |_=>[]
noncomputable def lim(xs:List Nat)(t:Nat):Nat:=if t=0 then 0 else xs.getD (t - 1) 0+1
theorem CU(c:xs.Pairwise (· < ·))(h:xs[t]?=Α p):lim xs t<=p:=by
 unfold lim
 by_cases a:t=0
 ·rw[Ι a];exact Nat.zero_le _
 ·rw[Θ a]
  obtain⟨d,e⟩:=ϳ.mp h
  have b:=ú.mp c (t - 1) t (by omega) d (by omega)
  rw[Χ,Μ (by omega)]
  rw[e]at b
  exact b
theorem yj(h:xs[t]?=Α p):lim xs (t+1)=p+1:=by
 unfold lim
 rw[Θ (ż _),Nat.add_sub_cancel,Χ,h];rfl
theorem Ao(h:∀p∈xs,p<100):lim xs xs.length<=100:=by
 unfold lim
 by_cases a:xs.length=0
 ·rw[Ι a];exact Nat.zero_le _
 ·rw[Θ a,Χ,Μ (show xs.length - 1<xs.length by omega)]
  exact h _ (ă _)
noncomputable def bC(ps:List (Int×Int))(p:Nat):List (Option Nat):=Β:: (gH Ï ps (p:Int)).map Α
theorem AI(a:List (Int×Int))(p:Nat):[V.Eh]++ce (gH Ï a (p:Int))=(bC a p).map cV:=by
 unfold bC ce
 rw[Ϭ,č];rfl
theorem sN(c:List (Int×Int))(p:Nat):((bC c p).map yR).Pairwise (· < ·):=by
 unfold bC
 rw[Ϭ,č,Qn]
 refine⟨λx d=>?_,?_⟩
 ·obtain⟨k,_,rfl⟩:=Ö.mp d
  show 0<k+1
  exact ť _
 ·refine List.Pairwise.map _ (λa b h=>?_) (þ _ NB)
  show a+1<b+1
  exact Ð ‹_›
theorem ng(h:cc∈bC ps p):yR cc<=ps.length/\∀k,cc=Α k->k∈gH Ï ps (p:Int):=by
 rcases ϥ.mp h with rfl|h
 ·exact⟨Ϧ _,λk e=>by cases e⟩
 ·obtain⟨k,a,rfl⟩:=Ö.mp h
  refine⟨?_,λb e=>by cases e;exact a⟩
  have:=È.mp (ϩ.mp a).1
  show k+1<=_
  exact ‹_›
noncomputable def yF(s:Ç):Scope:=match s with
 |.Assign _ (.BinOp _ _ (.ListComp _ _ sc _) _) _=>sc
 |_=>zQ0
theorem qM(h:H D=Β)(i:DP H H2)(j:H2 D=Α (.π Ed))(l:Ei H2 Ed ps)(m:H2 t1=Β):
  (ο H2 t1 (.tup [.int x,.int y])) D=Α (.π Ed)/\DP H (ο (ο H2 t1 (.tup [.int x,.int y])) D (.π (Ed++[.ref t1])))/\Ei (ο (ο H2 t1 (.tup [.int x,.int y])) D (.π (Ed++[.ref t1]))) (Ed++[.ref t1]) (ps++[(x,y)]):=by
 have a:=(DP.refl H2).new (o:=.tup [.int x,.int y]) m
 have c:(ο H2 t1 (.tup [.int x,.int y])) t1=Α (.tup [.int x,.int y]):=ac
 generalize ο H2 t1 (.tup [.int x,.int y])=d at a c⊢
 have f:=a _ _ j
 have g:E7 d (ο d D (.π (Ed++[.ref t1]))):=qb f
 exact⟨f,λb o e=>by rw[ag (ah e h)];exact a _ _ (i _ _ e),Ei.snoc (p:=(x,y)) ⟨t1,Λ,g _ _ c Ê⟩ (g.Jo (Ei.same a l))⟩
theorem CP(b:0<=x)(c:x<n)(d:0<=y)(e:y<n)(a:x≠y):iB n (x,y)=Δ:=by
 unfold iB
 simp only[É,decide_eq_true_eq,ö,decide_eq_false_iff_not]
 exact⟨⟨‹_›,by omega⟩,⟨‹_›,by omega⟩,a⟩
theorem zm{n x o:Int}(b:0<=x)(c:x<n)(d:0<=o)(e:o<n - 1):0<=(x+1+o)% n/\(x+1+o)% n<n/\x≠(x+1+o)% n:=by
 have a:0<n:=by omega
 refine⟨Ď _ (by omega),ě _ a,λz=>?_⟩
 rcases Int.lt_or_le (x+1+o) n with h|h
 ·rw[W5 (by omega) h]at z;omega
 ·rw[show x+1+o=(x+1+o - n)+n by omega,Int.add_emod_right,W5 (by omega) (by omega)]at z;omega
noncomputable def Bq(s:YS)(m:Nat):List Nat:=(ϋ m).filter λk=>(bB s k).isSome
theorem oH(h:s.γ[k]?=Α ln):(bB s k).isSome= !ln.qs.isEmpty:=by
 unfold bB
 rw[h]
 cases a:ln.qs<;>simp[a]
theorem pZ(a:k<m)(h:s.γ[k]?=Α ln)(b:ln.qs≠[]):k∈Bq s m:=
 ϩ.mpr ⟨È.mpr a,by rw[oH h];cases c:ln.qs with
  |nil=>exact Κ c b
  |cons _ _=>rfl⟩
noncomputable def rA(t:bD):Int×Int:=(t.start,t.ι)
def OY(a:YA)(s:YS):Prop:=∀p∈s.DO.map rA,a.wy p.1.toNat p.2.toNat Β≠[]
theorem lm{l:List bD}(h:l[k]?=Α x)(e:rA y=rA x):(l.set k y).map rA=l.map rA:=by
 refine Wn λi=>?_
 rw[Å,Å,ņ]
 by_cases a:k=i
 ·subst a
  rw[Ι Λ,Ι (gQ0 h),h]
  show Α (rA y)=Α (rA x)
  rw[e]
 ·rw[Θ a]
theorem GC.sgs(h:GC a s m s'):s'.DO.map rA=s.DO.map rA:=by
 cases h with
 | @FD k l t ln ht hg hl El ho =>
  have d:(cv s k t).DO.map rA=s.DO.map rA:=lm ht Λ
  have e:(cv s k t).DO[k]?=Α {t with δ:=t.δ+1}:=cO ht
  show(if t.δ=0 then (cv s k t).DO.set k _ else (cv s k t).DO).map rA=_
  split
  ·exact(lm (y:={({t with δ:=t.δ+1}:bD) with ω:=t.ω++[l]}) e Λ).trans d
  ·exact d
 | @on k l m c lk ln t hk hq ht hl El ho =>
  show(if c=0 then s.DO.set m _ else s.DO).map rA=_
  split
  ·exact lm (y:={t with ω:=t.ω++[l]}) ht Λ
  ·rfl
 |F7=>rfl
 |back=>rfl
theorem OY.post(W:OY a s)(h:a.wy x y Β≠[]):OY a (dO s x y l u):=λp b=>by
 have b:p∈(s.DO++[(⟨(x:Int),(y:Int),l,u,0,[]⟩:bD)]).map rA:=b
 rw[Ì]at b
 rcases ϯ.mp b with b|b
 ·exact W p b
 ·rw[ϙ.mp b];exact h
theorem nL:∀{l:List bD},(∀t∈l,t.δ<=t.len)->(l.map (·.δ)).sum<=(l.map (·.len)).sum
 |[],_=>Ĉ _
 | x:: l,h=>by
  have b:=h x ώ
  have c:=nL λy a=>h y (ϟ _ a)
  rw[Ϭ,Ϭ,Ù,Ù];omega
theorem sV:∀{l:List bD},(∀t∈l,t.δ=t.len)->(l.map (·.δ)).sum=(l.map (·.len)).sum
 |[],_=>rfl
 | x:: l,h=>by
  have b:=h x ώ
  have c:=sV λy a=>h y (ϟ _ a)
  rw[Ϭ,Ϭ,Ù,Ù];omega
theorem iK:∀l:List (List (Int×Int)),(l.map λq=>(q.length:Int)).sum=(((l.map λq=>q.length).sum:Nat):Int)
 |[]=>rfl
 |x:: l=>by rw[Ϭ,Ϭ,Ù,Ù,iK l,Int.natCast_add]
theorem um:∀{l:List bD},(∀t∈l,0<=t.len/\t.len<=4)->0<=(l.map (·.len)).sum/\(l.map (·.len)).sum<=4* l.length
 |[],_=>⟨Ĉ _,Ĉ _⟩
 | x:: l,h=>by
  have b:=h x ώ
  have c:=um λy a=>h y (ϟ _ a)
  rw[Ϭ,Ù,ï]
  exact⟨by omega,by omega⟩
theorem vx(J:Ff a s)(h:qo s=Δ):∀(k:Nat)(b:bV),s.γ[k]?=Α b->b.qs=[]:=λk b d=>by
 unfold qo at h
 have h:=of_decide_eq_true h
 rw[iK]at h
 have g:=J.sum
 have i:fW s<=(s.DO.map (·.len)).sum:=nL λt e=>by
  obtain⟨m,f⟩:=ô e
  exact(J.FL m t f).2.1
 have c:=gs (λb:bV=>b.qs.length) d
 have c:b.qs.length<=iJ s:=c
 have j:((ie s:Nat):Int)=(s.DO.map (·.len)).sum:=h.symm
 exact List.length_eq_zero_iff.mp (by omega)
theorem Az(G:Fw a s N zr)(J:Ff a s)(S:Jd a s)(v:∀(k:Nat) (c:bV),s.γ[k]?=Α c->1<=c.r+c.b+c.qs.length)(W:OY a s)(A:∀p g k,p<a.n->g<a.n->∀z∈a.wy p g k,z<a.ps.length)(h:qo s=Ε):Bq s a.ps.length≠[]:=λB=>by
 have j:∀(k:Nat)(c:bV),s.γ[k]?=Α c->c.qs=[]:=λk c f=>by
  cases C:c.qs with
  |nil=>rfl
  | cons _ _ =>
   have:=pZ (m:=a.ps.length) (by rw[←J.γ];exact(gQ0 f)) f (by rw[C];intro z;cases z)
   rw[B]at this;cases this
 have M:iJ s=0:=vV _ λk c f=>by rw[j k c f];rfl
 have D:∀t∈s.DO,t.δ=t.len:=λt o=>by
  obtain⟨m,e⟩:=ô o
  apply Ħ
  intro E
  obtain⟨x,y,F,H,I,L⟩:=J.lets m t e
  obtain⟨l,hl,ET⟩:∃l,l∈cn a t/\l<a.ps.length:=by
   unfold cn
   by_cases q:t.δ=0
   ·rw[Ι q]
    have i:=W (rA t) (İ o)
    have i:=i
    cases d:a.wy t.start.toNat t.ι.toNat Β with
    |nil=>exact Κ d i
    | cons l r =>
     refine⟨l,ώ,?_⟩
     rw[F,H,Υ,Υ]at d
     exact A x y Β I L l (by rw[d];exact ώ)
   ·rw[Θ q]
    cases d:t.ω with
    | nil =>
     have O:((N m 0+0:Nat):Int)=t.δ:=G.g0 m t e
     have:=G.top m t e d
     omega
    |cons l r=>exact⟨l,ώ,(J.EG m t e).1 l (by rw[d];exact ώ)⟩
  have u:=Μ (show l<s.γ.length by rw[J.γ];exact ET)
  exact S.starts G J v e E hl u (j l _ u)
 have Q:=J.sum
 have R:fW s=(s.DO.map (·.len)).sum:=sV D
 unfold qo at h
 have h:=of_decide_eq_false h
 rw[iK]at h
 have T:¬(s.DO.map (·.len)).sum=((ie s:Nat):Int):=h
 omega
theorem yC(m:Nat)(a:List (Int×Int))(l c:Int):cM m (a++[(l,c)])=if l=(m:Int) then cM m a++[c] else cM m a:=by
 rw[dW]
 unfold cM
 by_cases h:l=(m:Int)
 ·rw[Ι h,Ŵ (by simpa using h)];rfl
 ·rw[Θ h,ģ (by simpa using h)];simp
theorem AH(m:Nat)(a:List (Int×Int)):(cM m a).length<=a.length:=by
 unfold cM;rw[ϊ];exact Æ _ _
theorem yA{m:Nat}(j:H a=Α (.π vs))(p:Ei H vs qs)(q:qs.length<ό)
  (r:∀(x:Ν)(l c:Int)(acc:List V)(N:List V->Hp->Prop),H x=Α (.tup [.int l,.int c])->N (if l=(m:Int) then acc++[.int c] else acc) H->g (.ref x) σ0 H λd n=>tt d n λb e=>if b=Δ then te d e λy s=>N (acc++[y]) s else N acc e)
  (t:∀D,H D=Β->Q (.ref D) (ο H D (.π ((cM m qs).map V.int)))):dM (vJ K a) g tt te σ0 Q H:=by
 have F:=Paired.length p
 refine bQ qs.length q (λi acc f=>f=H/\acc=(cM m (qs.take i)).map V.int) ⟨Λ,Λ⟩ (λi acc f h=>by rw[h.2,ϊ];exact À (AH _ _) (ć _ _)) (λi acc f G h=>?_) (λacc f h=>?_)
 ·obtain⟨rfl,rfl⟩:=h
  have u:vs[i]?=Α (vs[i]'(by omega)):=Μ (by omega)
  refine⟨⟨vs,_,DT.of j,u⟩,λv n y=>?_⟩
  obtain⟨rfl,y⟩:=y
  have z:=y vs (DT.of j)
  obtain⟨A,o,x,rfl,B⟩:=Paired.at p z
  obtain⟨l,c⟩:=A
  refine r x l c _ (λC e=>e=n/\C=(cM m (qs.take (i+1))).map V.int) B ⟨Λ,?_⟩
  rw[ä,o]
  show _=(cM m (qs.take i++[(l,c)])).map V.int
  rw[yC]
  split
  ·rw[Ì];rfl
  ·rfl
 ·obtain⟨rfl,rfl⟩:=h
  rw[ec (Ρ _)]
  exact⟨⟨vs,DT.of j,ń ‹_›⟩,λD E=>t D E⟩
noncomputable def c5(S:List Nat)(l g:Nat):Bool:=(S.getD l 0).testBit g
structure yO(n:Nat)(ps:List (Int×Int))(wy:Wf)(nums:List Int)(S:List Nat):Prop where
 nl:nums.length=ps.length
 sl:S.length=ps.length
 lt:∀z∈S,z<2^n
 st:∀p g,p<n->g<n->∀l∈wy p g Β,c5 S l g=Δ
 on:∀l g e:Nat,l<ps.length->g<n->c5 S l g=Δ->(ps.getD l (0,0)).2=(e:Int)->e≠g->wy e g (Α l)≠[]/\∀w∈wy e g (Α l),c5 S w g=Δ/\nums.getD l 0<nums.getD w 0
def JR(nums:List Int)(S:List Nat)(s:YS):Prop:=∀(m:Nat)(t:bD),s.DO[m]?=Α t->(∀l∈t.ω,c5 S l t.ι.toNat=Δ)/\(t.ω.map λl=>nums.getD l 0).Pairwise (· < ·)
theorem l8(O:yM a)(b:l<a.ps.length):∃e:Nat,(a.ps.getD l (0,0)).2=(e:Int)/\e<a.n:=by
 obtain⟨e,c,d⟩:=O.ends l _ (Μ b)
 exact⟨e,by rw[Χ,Μ b];exact c,d⟩
theorem rX(B:yO a.n a.ps a.wy nums S)(O:yM a)(c:k<a.ps.length)(f:g<a.n)(h:c5 S k g=Δ)(d:(a.ps.getD k (0,0)).2≠(g:Int)):
  jF a k g≠[]/\∀w∈jF a k g,c5 S w g=Δ/\nums.getD k 0<nums.getD w 0:=by
 obtain⟨e,b,i⟩:=l8 O c
 unfold jF
 rw[Θ d,b,Υ]
 exact B.on k g e c f h b (λz=>d (by rw[b,z]))
theorem lV{k m:Nat}(b:s.γ[k]?=Α lk)(c:lk.qs.head?=Α ((m:Int),0))(d:s.DO[m]?=Α t):ci a s k=(jF a k t.ι.toNat).filter λl=>!decide (l∈t.ω):=by
 have e:bB s k=Α ((m:Int),0):=by unfold bB;rw[b];exact c
 unfold ci
 rw[e]
 show(match s.DO[(m:Int).toNat]? with|none=>[]|some t=>if (0:Int)=0 then (jF a k t.ι.toNat).filter λl=>!decide (l∈t.ω) else (t.ω.drop (t.ω.idxOf k+1)).take 1)=_
 rw[Υ,d]
 exact Ι Λ
theorem JR.step(B:yO a.n a.ps a.wy nums S)(O:yM a)(R:JR nums S s)(J:Ff a s)(h:GC a s mv s'):JR nums S s':=by
 cases h with
 | @FD k l t ln ht hg d El ho =>
  intro m g b
  have X:(cv s k t).DO[k]?=Α {t with δ:=t.δ+1}:=cO ht
  have F:JR nums S (cv s k t):=λm g b=>by
   rcases bL b with ⟨rfl,rfl⟩|⟨_,b⟩
   ·exact R m t ht
   ·exact R m g b
  have b:(if t.δ=0 then (cv s k t).DO.set k {({t with δ:=t.δ+1}:bD) with ω:=t.ω++[l]} else (cv s k t).DO)[m]?=Α g:=b
  by_cases i:t.δ=0
  ·rw[Ι i]at b
   rcases bL b with ⟨rfl,rfl⟩|⟨_,b⟩
   ·have G:=J.EX m t ht i
    obtain⟨x,y,H,q,I,A⟩:=J.lets m t ht
    unfold cn at d
    rw[Ι i,H,q,Υ,Υ]at d
    refine⟨λz f=>?_,?_⟩
    ·have f:=f
     rw[G,List.nil_append]at f
     rw[ϙ.mp f]
     rw[q,Υ]
     exact B.st x y I A l d
    ·show((t.ω++[l]).map λl=>nums.getD l 0).Pairwise (· < ·)
     rw[G]
     simp
   ·exact F m g b
  ·rw[Θ i]at b
   exact F m g b
 | @on k l m c lk ln t hk hq ht d El ho =>
  intro j g b
  have b:(if c=0 then s.DO.set m {t with ω:=t.ω++[l]} else s.DO)[j]?=Α g:=b
  by_cases i:c=0
  ·rw[Ι i]at b
   rcases bL b with ⟨rfl,rfl⟩|⟨_,b⟩
   ·subst i
    rw[lV hk hq ht]at d
    have d:=(ϩ.mp d).1
    obtain⟨C,D⟩:=R j t ht
    have r:=J.Ju k lk hk j t (hX hq) ht
    obtain⟨x,y,H,q,I,A⟩:=J.lets j t ht
    rw[q,Υ]at d C
    have L:=Mq r
    have N:=(J.EG j t ht).1 k L
    have Q:(a.ps.getD k (0,0)).2≠(y:Int):=λz=>by unfold jF at d;rw[Ι z]at d;cases d
    obtain⟨T,Y⟩:=(rX B O N A (C k L) Q).2 l d
    refine⟨λz f=>?_,?_⟩
    ·show c5 S z t.ι.toNat=Δ
     rw[q,Υ]
     rcases ϯ.mp (f) with f|f
     ·exact C z f
     ·rw[ϙ.mp f];exact T
    ·show((t.ω++[l]).map λl=>nums.getD l 0).Pairwise (· < ·)
     rw[Ì,p4]
     refine⟨D,by simp,λu o v E=>?_⟩
     have E:v=nums.getD l 0:=by simpa using E
     rw[E]
     have U:u<=nums.getD k 0:=by
      obtain⟨M,e⟩:∃M,t.ω=M++[k]:=Ũ.mp r
      rw[e,Ì]at o D
      rcases ϯ.mp o with o|o
      ·exact gg ((p4.mp D).2.2 u o _ (ϙ.mpr Λ))
      ·have:u=nums.getD k 0:=by simpa using o
       omega
     omega
   ·exact R j g b
  ·rw[Θ i]at b
   exact R j g b
 |F7=>exact R
 |back=>exact R
theorem JR.post(R:JR nums S s):JR nums S (dO s x y l u):=λm t h=>by
 have h:(s.DO++[(⟨x,y,l,u,0,[]⟩:bD)])[m]?=Α t:=h
 rw[List.getElem?_append]at h
 split at h
 ·exact R m t h
 ·have:t=⟨x,y,l,u,0,[]⟩:=by
   have:=Ϙ h
   simpa using this
  subst this
  exact⟨λl a=>(by cases a),gf⟩
theorem JR.dn(R:JR nums S s)(d:List (List V)):JR nums S {s with done:=d}:=R
theorem yh(f:Nat->Int):∀(l:List Nat),l≠[]->∃k∈l,∀j∈l,f j<=f k
 |[],h=>Κ Λ h
 |[x],_=>⟨x,ώ,λj a=>by rw[ϙ.mp a];exact Ĉ _⟩
 | x:: y:: r,_=>by
  obtain⟨k,b,h⟩:=yh f (y:: r) (by simp)
  by_cases c:f k<=f x
  ·refine⟨x,ώ,λj a=>?_⟩
   rcases ϥ.mp a with rfl|a
   ·exact Ĉ _
   ·exact Int.le_trans (h j a) c
  ·refine⟨k,ϟ _ b,λj a=>?_⟩
   rcases ϥ.mp a with rfl|a
   ·omega
   ·exact h j a
theorem never(B:yO a.n a.ps a.wy nums S)(O:yM a)(R:JR nums S s)(G:Fw a s N zr)(J:Ff a s)(Z:Jd a s)(T:∀(k:Nat) (h:bV),s.γ[k]?=Α h->1<=h.r+h.b+h.qs.length)(W:OY a s)(U:∀p g k,p<a.n->g<a.n->∀z∈a.wy p g k,z<a.ps.length):qo s=Δ:=by
 cases he:qo s with
 |true=>rfl
 | false =>
  exfalso
  obtain⟨k,hk,hm⟩:=yh (λl=>nums.getD l 0) _ (Az G J Z T W U he)
  obtain⟨v,A⟩:=ϩ.mp hk
  have v:=È.mp v
  have Yi:k<s.γ.length:=by rw[J.γ];exact v
  have j:=Μ Yi
  generalize s.γ[k]=h at j
  obtain⟨q,hq⟩:∃q,h.qs.head?=Α q:=by
   have A:=A
   unfold bB at A
   rw[j]at A
   exact ŧ.mp A
  obtain⟨z,c⟩:=q
  obtain⟨m,t,E,f,X⟩:=J.Fv k h j _ (hX hq)
  have E:=E
  subst E
  obtain⟨x,y,ex,F,hx,Y⟩:=J.lets m t f
  obtain⟨hb,D⟩:=R m t f
  have up:∃l,l∈ci a s k/\l<a.ps.length/\nums.getD k 0<nums.getD l 0:=by
   by_cases H:c=0
   ·subst H
    have Et:(a.ps.getD k (0,0)).2≠(y:Int):=λe=>Z.RM k m 0 h t j hq f (by rw[F];exact e.symm)
    rw[F,Υ]at hb
    obtain⟨u,o⟩:=rX B O v Y (hb k X) Et
    obtain⟨l,d⟩:∃l,l∈jF a k y:=by
     cases I:jF a k y with
     |nil=>exact Κ I u
     |cons l r=>exact⟨l,ώ⟩
    have Eo:=(o l d).2
    have L:=J.Ju k h j m t (hX hq) f
    refine⟨l,?_,?_,Eo⟩
    ·rw[lV j hq f,F,Υ]
     refine ϩ.mpr ⟨d,?_⟩
     rw[Η λC=>?_];rfl
     have χ:nums.getD l 0<=nums.getD k 0:=by
      obtain⟨w',e⟩:∃w',t.ω=w'++[k]:=Ũ.mp L
      rw[e]at C D
      rw[Ì]at D
      rcases ϯ.mp C with M|M
      ·exact gg ((p4.mp D).2.2 _ (İ M) _ (ϙ.mpr Λ))
      ·rw[ϙ.mp M];exact Ĉ _
     omega
    ·unfold jF at d
     rw[Θ Et]at d
     obtain⟨e,u,o⟩:=l8 O v
     rw[u,Υ]at d
     exact U e y _ o Y l d
   ·have Q:=λe=>H (Z.head G J j hq f e)
    obtain⟨l,d⟩:∃l,l∈ci a s k:=by
     cases I:ci a s k with
     |nil=>exact Κ I Q
     |cons l r=>exact⟨l,ώ⟩
    have u:=nB j hq f d
    rw[Θ H]at u
    have o:=eR u
    obtain⟨i,hi⟩:=ô X
    rw[ly (J.EG m t f).2 hi]at o
    refine⟨l,d,(J.EG m t f).1 l (Ϙ o),?_⟩
    obtain⟨b1,e1⟩:=ϳ.mp hi
    obtain⟨b2,e2⟩:=ϳ.mp o
    have:=ú.mp D i (i+1) (by rw[ϊ];exact b1) (by rw[ϊ];exact b2) (Ρ _)
    rw[š,š,e1,e2]at this
    exact this
  obtain⟨l,d,ET,Eo⟩:=up
  have HC:=Μ (show l<s.γ.length by rw[J.γ];exact ET)
  have:=hm l (pZ ET HC (Z.wants G J T j hq f d HC))
  omega
structure RN(ps:List (Int×Int))(nums:List Int)(al:List Nat)(l:Nat):Prop where
 iff:∀g:Nat,c5 al l g=Δ↔((g:Int)=(ps.getD l (0,0)).2∨∃o,o<ps.length/\(ps.getD o (0,0)).1=(ps.getD l (0,0)).2/\nums.getD l 0<nums.getD o 0/\c5 al o g=Δ)
theorem je(h:o≠l):c5 (al.set l v) o g=c5 al o g:=by
 unfold c5
 rw[Χ,Χ,à (Ϟ h)]
theorem AK{al:List Nat}(h:l<al.length):c5 (al.set l v) l g=v.testBit g:=by
 unfold c5
 rw[Χ,ę h];rfl
theorem yG{a:List Nat}(u:al.length=ps.length)(m:a.Perm (ϋ ps.length))(A:a.Pairwise λx y=>nums.getD y 0<=nums.getD x 0)(d:a[i]?=Α l)
  (h:∀x∈a.take i,RN ps nums al x) (B:∀g:Nat,v.testBit g=Δ↔((g:Int)=(ps.getD l (0,0)).2∨∃o,o<ps.length/\(ps.getD o (0,0)).1=(ps.getD l (0,0)).2/\nums.getD l 0<nums.getD o 0/\c5 al o g=Δ)):∀x∈a.take (i+1),RN ps nums (al.set l v) x:=by
 have p:=m.nodup_iff.mpr List.nodup_range
 have C:=È.mp (m.mem_iff.mp (Ϙ d))
 obtain⟨L,M⟩:=ϳ.mp d
 have early:∀(j x o:Nat),a[j]?=Α x->o<ps.length->nums.getD x 0<nums.getD o 0->∃b,b<j/\a[b]?=Α o:=λj x o q D N=>by
  obtain⟨b,r⟩:=ô (m.mem_iff.mpr (È.mpr D))
  refine⟨b,?_,r⟩
  apply Ħ
  intro O
  obtain⟨E,s⟩:=ϳ.mp q
  obtain⟨F,n⟩:=ϳ.mp r
  rcases Ě j b with t|t
  ·have:=ú.mp A j b E F t
   rw[s,n]at this;omega
  ·have:j=b:=by omega
   subst this
   rw[s]at n;subst n;omega
 intro x c
 rw[ä,d,î]at c
 rcases ϯ.mp c with c|c
 ·obtain⟨j,q,G⟩:=Ċ.mp c
  have Q:j<i:=by omega
  have e:a[j]?=Α x:=by rw[Μ (hH ‹_› ‹_›),G]
  have H:x≠l:=λz=>by
   have:=c9 p e (z▸d)
   omega
  refine⟨λg=>?_⟩
  rw[je H,(h x c).iff g]
  refine or_congr WL ⟨fun⟨o,h1,h2,h3,h4⟩=>?_,fun⟨o,h1,h2,h3,h4⟩=>?_⟩ <;>
  ·obtain⟨b,I,J⟩:=early j x o e h1 h3
   have f:o≠l:=λz=>by
    have:=c9 p J (z▸d)
    omega
   first
    |exact⟨o,h1,h2,h3,by rw[je f];exact h4⟩
    |exact⟨o,h1,h2,h3,by rw[je f]at h4;exact h4⟩
 ·rw[ϙ.mp c]
  refine⟨λg=>?_⟩
  rw[AK (by rw[u];exact C),B g]
  refine or_congr WL ⟨fun⟨o,h1,h2,h3,h4⟩=>?_,fun⟨o,h1,h2,h3,h4⟩=>?_⟩ <;>
  ·have f:o≠l:=λz=>by subst z;omega
   first
    |exact⟨o,h1,h2,h3,by rw[je f];exact h4⟩
    |exact⟨o,h1,h2,h3,by rw[je f]at h4;exact h4⟩
structure Bu(ps:List (Int×Int))(nums:List Int)(al:List Nat)(r:Rw):Prop where
 ok:∀l∈r.s,l<ps.length/\(ps.getD l (0,0)).1=r.p/\c5 al l r.g.toNat=Δ/\∀k,r.c=Α k->nums.getD k 0<nums.getD l 0
 all:r.s=[]->∀l,l<ps.length->(ps.getD l (0,0)).1=r.p->c5 al l r.g.toNat=Δ->∃k,r.c=Α k/\nums.getD l 0<=nums.getD k 0
def Kw(rs:List Rw)(p g:Nat)(c:Option Nat):Prop:=∃r∈rs,r.p=(p:Int)/\r.g=(g:Int)/\r.c=c
theorem Kw.app(h:Kw rs p g c)(xs:List Rw):Kw (rs++xs) p g c:=let ⟨r,h1,h2⟩:=h;⟨r,Í _ h1,h2⟩
theorem oC{p g:Nat}(h:aN r=aN ⟨(p:Int),(g:Int),c,[]⟩):r.p=(p:Int)/\r.g=(g:Int)/\r.c=c:=by
 unfold aN at h
 injection h with d b
 injection b with b a
 injection a with a _
 injection d with d
 injection b with b
 refine⟨d,b,?_⟩
 dsimp only at a
 cases e:r.c with
 | none=>cases c with
  |none=>rfl
  |some k=>rw[e]at a;cases a
 | some k=>cases c with
  |none=>rw[e]at a;cases a
  | some f =>
   rw[e]at a
   have a:Α (k:Int)=Α (f:Int):=a
   injection a with a
   rw[show k=f from Ä ‹_›]
theorem lq(h:cX rs k=Α r):aN r=k:=by
 have:=List.find?_some h
 simpa using this
theorem Cq(C:nums.length=ps.length)(D:al.length=ps.length)(E:∀z∈al,z<2^n)(F:∀l,l<ps.length->RN ps nums al l)(m:∀r∈rs,Bu ps nums al r)
  (G:∀p g c,p<n->g<n->p≠g->c∈bC ps p->Kw rs p g c) (H:∀l,l<ps.length->∀e:Nat,(ps.getD l (0,0)).2=(e:Int)->e<n):yO n ps (Ux rs) nums al:=by
 have mem:∀{p g:Nat}{c:Option Nat}{l:Nat},l∈Ux rs p g c->∃r∈rs,r.p=(p:Int)/\r.g=(g:Int)/\r.c=c/\l∈r.s:=λ{p g c l} h=>by
  unfold Ux fQ at h
  cases a:cX rs (aN ⟨(p:Int),(g:Int),c,[]⟩) with
  |none=>rw[a]at h;exact Κ h (by show l∉mN 0;intro h;cases h)
  | some r =>
   rw[a]at h
   obtain⟨f,b,d⟩:=oC (lq a)
   exact⟨r,gE a,f,b,d,yf h⟩
 refine⟨C,D,E,λp g X x l a=>?_,λl g e a x I j J=>⟨λq=>?_,λw L=>?_⟩⟩
 ·obtain⟨r,t,f,b,d,i⟩:=mem a
  have:=((m r t).ok l i).2.2.1
  rw[b,Υ]at this
  exact this
 ·obtain⟨y,M,f,b,d⟩:=G e g (Α l) (H l a e j) x J (ϟ _ (İ (ϩ.mpr ⟨È.mpr a,Ζ j⟩)))
  obtain⟨r,IZ⟩:∃r,cX rs (aN ⟨(e:Int),(g:Int),Α l,[]⟩)=Α r:=by
   cases u:cX rs (aN ⟨(e:Int),(g:Int),Α l,[]⟩) with
   |some r=>exact⟨r,Λ⟩
   | none =>
    have:=Tz.mp u y (rz.mpr M)
    exact Κ (show aN y=aN ⟨(e:Int),(g:Int),Α l,[]⟩ by unfold aN;rw[f,b,d]) (by simpa using this)
  obtain⟨N,O,Q⟩:=oC (lq IZ)
  unfold Ux fQ at q
  rw[IZ]at q
  have R:r.s=[]:=by
   cases u:r.s with
   |nil=>rfl
   | cons z Y =>
    have:z∈mN (Yd.Ey r.s 0):=by
     show z∈Yd.GX _ _
     rw[Yd.EV (Yd.FI _),Yd.EJ,u]
     simp
    rw[show mN (Yd.Ey r.s 0)=[] from q]at this
    cases this
  rcases ((F l a).iff g).mp I with h|⟨o,S,i,Z,v⟩
  ·rw[j]at h;omega
  ·obtain⟨k,A,T⟩:=(m r (gE IZ)).all R o S (by rw[N,i,j]) (by rw[O,Υ];exact v)
   rw[Q]at A
   cases A
   omega
 ·obtain⟨r,t,f,b,d,i⟩:=mem L
  obtain⟨_,_,B,U⟩:=(m r t).ok w i
  rw[b,Υ]at B
  exact⟨B,U l d⟩
end K93
namespace L2
open PySem
theorem DP.Yj(e:DP H H')(h:Ec K H a xs):Ec K H' a xs:=by
 rcases h with h|h
 ·refine .inl ?_
  rcases h with h|⟨o,h⟩
  ·exact .inl (e _ _ h)
  ·exact .inr ⟨o,e _ _ h⟩
 ·exact .inr h
end L2
namespace K93
open PySem L2
variable {P:Program}{w:Î}{K:ϧ}{mg:Str->Option Τ}{μ:Ü}
theorem Sq.same(h:Sq K H a xs)(s:DP H H'):Sq K H' a xs:=h.elim (λz =>.inl (s.seq z)) (λz =>.inr (DP.Yj s z))
theorem Sq.ix(h:Sq K H a xs)(e:yS xs i=Α v)(q:Q v H):rIx K (.ref a) (.int i) H Q:=
 h.elim (λz =>.inl ⟨a,xs,i,v,Λ,Λ,z,e,q⟩) (λz =>.inr (.inl ⟨a,xs,i,v,Λ,Λ,z,e,q⟩))
theorem DC{a:List Int}(h:z<a.length):yS (a.map V.int) (z:Int)=Α (.int (a.getD z 0)):=aq (by simp[h])
theorem atS{z:Nat}(h:z<S.length):yS (nV S) (z:Int)=Α (.int ((S.getD z 0:Nat):Int)):=aq (iW h)
noncomputable def RO(s:Ç):Scope:=match s with
 |.Return (Α (.Call _ [.ListComp _ _ sc _] _ _)) _=>sc
 |_=>zQ0
structure NX(K:ϧ)(c:Cs)(C:Ν)(J:TJ)(H:Hp)(a:YA)(na sa:Ν)(nums:List Int)(S:List Nat):Prop where
 T:Rz c C J H a
 O:yM a
 n:Sq K H na (nums.map V.int)
 s:Sq K H sa (nV S)
 p:yO a.n a.ps a.wy nums S
theorem NX.same(W:Wy K C fw dw J)(h:NX K c C J H a na sa nums S)(e:DP H H'):NX K c C J H' a na sa nums S:=⟨F5.keep W h.T (DP.Er e),h.O,h.n.same e,h.s.same e,h.p⟩
structure AU(P:Program)(w:Î)(K:ϧ)(mg:Str->Option Τ)(μ:Ü)(fx:Ν)(dx:Ý):Prop where
 m:mg "has"=Α (.ref fx)
 k:Ϯ K (.ref fx)=Δ
 b:Binds K dx ["some","number"] []
 G:DQ P w K mg μ aF 1 fx dx ["some","number"] wF
inductive wk(c:Cs)(C:Ν)(J:TJ)(vs:List V)(H:Hp)(Q:VK)(E:XK):Prop
 |mk (a:YA) (_:vs=[.ref a.tb]) (_:Rz c C J H a) (_:∀(D:Ν)(us:List V)(zs:List (Int×Int))(H':Hp),DP H H'->H D=Β->H' D=Α (.π us)->Ei H' us zs->(∀z∈zs,∃p g:Nat,z=((p:Int),(g:Int))/\p<a.n/\g<a.n)->Q (.ref D) H')
inductive wm(K:ϧ)(c:Cs)(vs:List V)(H:Hp)(Q:VK)(E:XK):Prop
 |mk (x dx lt na sa:Ν) (n:Nat) (DX:List V) (ps:List (Int×Int)) (nums:List Int) (S:List Nat) (_:vs=[.ref x,.ref na,.ref sa]) (_:cT H c x dx lt (n:Int) DX ps) (_:n<=12) (_:ps.length<=40) (_:Sq K H na (nums.map V.int)) (_:Sq K H sa (nV S)) (_:nums.length=ps.length) (_:S.length=ps.length) (_:(∀z∈S,z<2^n)) (_:∀H',DP H H'->Q (.bl Δ) H')
inductive AZ(K:ϧ)(c:Cs)(C:Ν)(J:TJ)(vs:List V)(H:Hp)(Q:VK)(E:XK):Prop
 |mk (a:YA) (na sa:Ν) (nums:List Int) (S:List Nat) (_:vs=[.ref a.tb,.ref sa]) (_:NX K c C J H a na sa nums S) (_:∀H',DP H H'->Q .Eh H')
inductive wd(K:ϧ)(vs:List V)(H:Hp)(Q:VK)(E:XK):Prop
 |mk (na sa:Ν) (nums:List Int) (S:List Nat) (l g w:Nat) (_:vs=[.ref na,.ref sa,.int l,.int g,.int w]) (_:Sq K H na (nums.map V.int)) (_:Sq K H sa (nV S)) (_:l<nums.length) (_:w<nums.length) (_:w<S.length) (_:c5 S w g=Δ) (_:nums.getD l 0<nums.getD w 0) (_:Q .Eh H)
inductive tj(K:ϧ)(c:Cs)(C:Ν)(J:TJ)(vs:List V)(H:Hp)(Q:VK)(E:XK):Prop
 |mk (a:YA) (na sa:Ν) (nums:List Int) (S:List Nat) (l g:Nat) (_:vs=[.ref a.tb,.ref na,.ref sa,.int l,.int g]) (_:NX K c C J H a na sa nums S) (_:l<a.ps.length) (_:g<a.n) (_:c5 S l g=Δ) (_:(a.ps.getD l (0,0)).2≠(g:Int)) (_:∀H',DP H H'->Q .Eh H')
inductive tG(K:ϧ)(c:Cs)(C:Ν)(J:TJ)(vs:List V)(H:Hp)(Q:VK)(E:XK):Prop
 |mk (a:YA) (na sa:Ν) (nums:List Int) (S:List Nat) (l:Nat) (_:vs=[.ref a.tb,.ref na,.ref sa,.int l]) (_:NX K c C J H a na sa nums S) (_:l<a.ps.length) (_:∀H',DP H H'->Q .Eh H')
inductive tI(K:ϧ)(c:Cs)(C:Ν)(J:TJ)(vs:List V)(H:Hp)(Q:VK)(E:XK):Prop
 |mk (a:YA) (pa na sa:Ν) (nums:List Int) (S:List Nat) (_:vs=[.ref a.tb,.ref pa]) (_:H pa=Α (.tup [.ref na,.ref sa])) (_:NX K c C J H a na sa nums S) (_:∀H',DP H H'->Q .Eh H')
abbrev NSz:List Str:=["land","numbers","sets","lanes"]
abbrev NFa:List Str:=["table","paper","numbers","sets","found","lane"]
theorem AD:decide (V.Eh=V.Eh)=Δ:=Ζ Λ
theorem RP:aw NSz ["land","numbers","sets"] (am p9):=L2.Eu
theorem Yk:ES NSz (am p9) (RO ((aK p9).getD 2 (.Pass ⟨0,0,0,0⟩))) ["land"] [0]:=L2.FC
theorem Yl:(["goals","land"]:List Str).Nodup:=by decide +kernel
theorem zM(F:En K "has_size" "has_size" p9 f fd)(T:eD mg)(L:kC K c)(O:mg "is_within"=Α (.ref fw))(R:Ϯ K (.ref fw)=Δ)(U:Binds K dw ["value","least","most"] [])(X:DQ P w K mg μ aF 2 fw dw ["value","least","most"] iM):
  DQ P w K mg μ aF 3 f fd ["land","numbers","sets"] (wm K c):=by
 refine F.ok RP λ_ _ _ s H _ Q E Y h=>?_
 obtain⟨x,t,lt,Z,u,n,A,ps,l,S,rfl,o,hn,h40,g,a,h1,h2,Eo,q⟩:=h
 refine⟨_,ae (aB (i:=3) RP.nd Λ (ύ Λ) (aG aA Λ T.len PySem.boot_len (aa (ap (pv 0) Λ) ad)))
  (ae (aP (PW.pt (fZ (az jE (aG aA Λ T.len PySem.boot_len (aa (pv 1) ad)) (pv 3) (aC _)) (dD (az jE (aG aA Λ T.len PySem.boot_len (aa (pv 2) ad)) (pv 3) (aC _))))) (aj (ay eM)) aE)
  (aj (ay (aG (jd Λ) Λ T.all ĸ (aa (bv (own:=["goals"]) (capN:=["land"]) (cap:=[0]) Yk Λ (Bj (aR (pv 2)) (js (pv 2)))
   (λC s' d fp=>⟨ax (i:=0) Yl Λ (ύ Λ),c4,au X Y Λ O R U .nil ar (aa (pv 0) (aa ao (aa (aI e8 (aI ou ao (show PE _ _ (rh K (pj 1) "places") from ap (pv 1) Λ)) ao) ad)))⟩)) ad))))),?_⟩
 have ET:=Paired.length o.2.2
 refine⟨x,_,t,_,_,Λ,o.1,L.cl,L.nl,Λ,_,_,Λ,.inr (Ec.of o.2.1),Z,_,Λ,g,Λ,_,Λ,?_⟩
 rw[bK,ϊ,Ζ (show((l.length:Nat):Int)=(A.length:Nat) by omega)]
 refine aJ ⟨u,_,Λ,a,Λ,_,Λ,?_⟩
 rw[bK,aW,Ζ (show((S.length:Nat):Int)=(A.length:Nat) by omega)]
 refine aJ ?_
 have fin:∀(m:Nat)(D:Ν),H D=Β->∃(p:Ν)(bs:List Bool),[V.ref D]=[.ref p]/\DT K (ο H D (.π (Ϛ m (V.bl Δ)))) p (bs.map V.bl)/\Q (.bl (bs.all id)) (ο H D (.π (Ϛ m (V.bl Δ)))):=λm D r =>
  ⟨D,Ϛ m Δ,Λ,DT.of (by rw[ac,Se]),by
   rw[show(Ϛ m Δ).all id=Δ from Ŏ.mpr λb hb=>(RJ.mp hb).2]
   exact q _ ((DP.refl H).new r)⟩
 have val:∀(z:Nat),z∈S->decide ((0:Int)<=(z:Int)/\(z:Int)<=1* 2^(n:Int).toNat - 1)=Δ:=λz j=>by
  refine Ζ ⟨Φ _,?_⟩
  have:=Eo z j
  rw[Υ,one_mul,show (2:Int)^n=((2^n:Nat):Int) by rw[et];rfl]
  omega
 have body:∀(i:Nat)(acc:List V)(v:V)(N:List V->Hp->Prop),(nV S)[i]?=Α v->acc=Ϛ i (V.bl Δ)->(∀z:Nat,v=.int (z:Int)->z∈S->N (Ϛ (i+1) (V.bl Δ)) H)->∃z:Nat,v=.int (z:Int)/\z∈S/\N (acc++[.bl (decide ((0:Int)<=(z:Int)/\(z:Int)<=1* 2^(n:Int).toNat - 1))]) H:=λi acc v N hv e g=>by
  obtain⟨z,j,rfl⟩:=jz (Ϙ hv)
  refine⟨z,Λ,j,?_⟩
  rw[val z j,e,show Ϛ i (V.bl Δ)++[V.bl Δ]=Ϛ (i+1) (V.bl Δ) from (ph ..).symm]
  exact g z Λ j
 rcases a with a|a
 ·refine .inl ⟨u,Λ,⟨_,a⟩,?_⟩
  refine bQ S.length (by rw[Ω];omega) (λi acc d=>d=H/\acc=Ϛ i (V.bl Δ)) ⟨Λ,Λ⟩ (λi acc d h=>by rw[h.2,õ];exact Ρ _) (λi acc d B h=>?_) (λacc d h=>?_)
  ·obtain⟨rfl,G⟩:=h
   refine⟨⟨_,_,a,Μ (by rw[aW];exact B)⟩,λv I y=>?_⟩
   obtain⟨e,y⟩:=y
   subst e
   obtain⟨z,rfl,j,g⟩:=body i acc v (λJ M=>M=I/\J=Ϛ (i+1) (V.bl Δ)) (y _ a) G (λ_ _ _=>⟨Λ,Λ⟩)
   exact⟨x,_,t,_,_,Λ,o.1,L.cl,L.np,Λ,_,_,Λ,Λ,⟨Φ _,by omega,by decide⟩,_,_,Λ,Λ,_,0,_,Λ,g⟩
  ·obtain⟨rfl,rfl⟩:=h
   exact⟨⟨_,a,by rw[aW];exact Ρ _⟩,λD r=>fin _ D r⟩
 ·refine .inr ⟨u,Λ,⟨_,a⟩,?_⟩
  refine bQ S.length (by rw[Ω];omega) (λi acc d=>d=H/\acc=Ϛ i (V.bl Δ)) ⟨Λ,Λ⟩ (λi acc d h=>by rw[h.2,õ];exact Ρ _) (λi acc d B h=>?_) (λacc d h=>?_)
  ·obtain⟨rfl,G⟩:=h
   refine⟨⟨_,_,a,Μ (by rw[aW];exact B)⟩,λv I y=>?_⟩
   obtain⟨e,y⟩:=y
   subst e
   obtain⟨z,rfl,j,g⟩:=body i acc v (λJ M=>M=I/\J=Ϛ (i+1) (V.bl Δ)) (y _ a) G (λ_ _ _=>⟨Λ,Λ⟩)
   exact⟨x,_,t,_,_,Λ,o.1,L.cl,L.np,Λ,_,_,Λ,Λ,⟨Φ _,by omega,by decide⟩,_,_,Λ,Λ,_,0,_,Λ,g⟩
  ·obtain⟨rfl,rfl⟩:=h
   exact⟨⟨_,a,by rw[aW];exact Ρ _⟩,λD r=>fin _ D r⟩
theorem Ym:aw ["numbers","sets","lane","goal","way"] ["numbers","sets","lane","goal","way"] (am wP):=L2.Eu
theorem zK(F:En K "way_fault" "way_fault" wP f fd)(X:AU P w K mg μ fx dx):DQ P w K mg μ aF 2 f fd ["numbers","sets","lane","goal","way"] (wd K):=by
 refine F.ok Ym λ_ _ _ s H _ Q E i h=>?_
 obtain⟨r,t,a,S,l,g,c,rfl,e,j,n,o,p,d,u,q⟩:=h
 refine⟨_,ae (aP (bE (bA (au X.G i Λ X.m X.k X.b .nil ar (aa (aD lu (pv 1) (pv 4) (λ_ _=>rfl)) (aa (pv 3) ad))))) (aj (ay (bM (aa cx (aa (pv 2) (aa (pv 3) (aa (pv 4) ad))))))) aE)
  (ae (aP (az pQ (aD lu (pv 0) (pv 4) (λ_ _=>rfl)) (aD lu (pv 0) (pv 2) (λ_ _=>rfl)) (aC _)) (aj (ay (bM (aa cx (aa (pv 2) (aa (pv 3) (aa (pv 4) ad))))))) aE)
  (aj (ay b9))),?_⟩
 refine(j.ix (atS p) ⟨S.getD c 0,g,Λ,_,Λ,?_⟩)
 have d:(S.getD c 0).testBit g=Δ:=d
 rw[d]
 refine aJ (e.ix (DC o) (e.ix (DC n) ⟨_,_,Λ,Λ,_,Λ,?_⟩))
 rw[Η (show ¬a.getD c 0<=a.getD l 0 by omega)]
 exact aJ q
theorem LB:aw ["table","numbers","sets","lane","goal","ways","way","found"] ["table","numbers","sets","lane","goal"] (am rC):=L2.Eu
theorem xD(F:En K "pair_fault" "pair_fault" rC f fd)(W:Wy K C fw dw J)(mo:mg "onward"=Α (.ref fo))(ko:Ϯ K (.ref fo)=Δ)(bo:Binds K GB ["table","lane","goal"] [])(Go:DQ P w K mg μ aF 4 fo GB ["table","lane","goal"] (tu c C J))
  (my:mg "way_fault"=Α (.ref fy)) (ky:Ϯ K (.ref fy)=Δ) (L7:Binds K dy ["numbers","sets","lane","goal","way"] []) (Gy:DQ P w K mg μ aF 2 fy dy ["numbers","sets","lane","goal","way"] (wd K)):DQ P w K mg μ aF 5 f fd ["table","numbers","sets","lane","goal"] (tj K c C J):=by
 refine F.ok LB λ_ _ _ s H _ Q E L h=>?_
 obtain⟨a,M,N,m,S,l,g,rfl,b,r,x,hb,R,q⟩:=h
 have Fn:Ea 2 _:=L.mono (by decide)
 refine⟨_,ae (aB (i:=5) LB.nd Λ (ύ Λ) (au Go L Λ mo ko bo .nil ar (aa (pv 0) (aa (pv 3) (aa (pv 4) ad)))))
  (ae (aP (bE (dE (pv 5) (λ_=>rfl))) (aj (ay (bM (aa cx (aa (pv 3) (aa (pv 4) ad)))))) aE)
  (ae (aT Ϗ Λ (aR (pv 5)) (ax (i:=6) LB.nd Λ (ύ Λ))
   (ae (aB (i:=7) LB.nd Λ (ύ Λ) (au Gy Fn Λ my ky L7 .nil ar (aa (pv 1) (aa (pv 2) (aa (pv 3) (aa (pv 4) (aa (pv 6) ad)))))))
   (aj (aP (az jT (pv 7) b9 (aC _)) (aj (ay (pv 7))) aE))))
  (aj (ay b9)))),?_⟩
 refine⟨a,l,g,Λ,b.T,b.O,r,x,λD H1 U hD o=>?_⟩
 obtain⟨X,y⟩:=rX b.p b.O r x hb R
 have A:∀z∈jF a l g,z<a.ps.length:=λz d=>by
  unfold jF at d
  rw[Θ R]at d
  obtain⟨e,h1,h2⟩:=l8 b.O r
  rw[h1,Υ]at d
  exact b.T.ok e g _ h2 x z d
 generalize jF a l g=us at A o X y
 refine⟨_,.inl ⟨_,DT.of o,Λ⟩,?_⟩
 cases us with
 |nil=>exact Κ Λ X
 | cons u0 Xp =>
  refine aJ ?_
  generalize u0:: Xp=us at A o y
  refine⟨D,Λ,⟨_,DT.of o⟩,?_⟩
  refine bZ (K:=K) (a:=D) (xs:=nV us) (λi t u=>∃B G:Option V,DP H1 u/\t=[Α (.ref a.tb),Α (.ref M),Α (.ref N),Α (.int l),Α (.int g),Α (.ref D),B,G])
   ⟨Β,Β,DP.refl _,Λ⟩ (λi t u _ DS=>by obtain⟨_,_,j,_⟩:=DS;exact DT.of (j _ _ o)) ?_ ?_
  ·rintro i v t u hv ⟨B,G,j,rfl⟩
   obtain⟨z,d,rfl⟩:=jz (Ϙ hv)
   obtain⟨Yn,I⟩:=y z d
   have Y:=A z d
   have Z:=U.trans j
   refine⟨M,N,m,S,l,g,z,Λ,b.n.same Z,b.s.same Z,by rw[b.p.nl];exact r,by rw[b.p.nl];exact Y,by rw[b.p.sl];exact Y,Yn,I,Λ,_,Λ,?_⟩
   rw[AD]
   exact aJ ⟨_,_,j,Λ⟩
  ·rintro t u ⟨B,G,j,rfl⟩
   exact q _ (U.trans j)
theorem LD:aw ["table","numbers","sets","lane","end","goal","found"] ["table","numbers","sets","lane"] (am rJ):=L2.Eu
theorem xJ(F:En K "lane_fault" "lane_fault" rJ f fd)(L:kC K c)(W:Wy K C fw dw J)(M:qT K c fe de)(Ge:DQ P w K mg μ aF 1 fe de ["self","lane"] (pz c Ï))
  (mm:mg "members"=Α (.ref fm)) (km:Ϯ K (.ref fm)=Δ) (bm:Binds K dm ["some"] []) (Gm:DQ P w K mg μ aF 2 fm dm ["some"] t8)
  (my:mg "pair_fault"=Α (.ref fy)) (ky:Ϯ K (.ref fy)=Δ) (L7:Binds K dy ["table","numbers","sets","lane","goal"] []) (Gy:DQ P w K mg μ aF 5 fy dy ["table","numbers","sets","lane","goal"] (tj K c C J)):DQ P w K mg μ aF 6 f fd ["table","numbers","sets","lane"] (tG K c C J):=by
 refine F.ok LD λ_ _ _ s H _ Q E u h=>?_
 obtain⟨a,R,U,g,S,l,rfl,d,x,q⟩:=h
 have Ex:Ea 1 _:=u.mono (by decide)
 have Fn:Ea 2 _:=u.mono (by decide)
 refine⟨_,ae (aB (i:=4) LD.nd Λ (ύ Λ) (aH (ap (pv 0) Λ) L.cl M.m Ge Ex M.b .nil ar (aa (pv 3) ad)))
  (ae (aT Ϗ Λ (aR (au Gm Fn Λ mm km bm .nil ar (aa (aD lu (pv 2) (pv 3) (λ_ _=>rfl)) ad))) (ax (i:=5) LD.nd Λ (ύ Λ))
   (aj (aP (az jE (pv 5) (pv 4) (aC _))
    (ae (aB (i:=6) LD.nd Λ (ύ Λ) (au Gy u Λ my ky L7 .nil ar (aa (pv 0) (aa (pv 1) (aa (pv 2) (aa (pv 3) (aa (pv 5) ad)))))))
    (aj (aP (az jT (pv 6) b9 (aC _)) (aj (ay (pv 6))) aE))) aE)))
  (aj (ay b9))),?_⟩
 obtain⟨dx,fs,hx,hf,_⟩:=d.T.i
 have X:=Μ x
 have JN:a.ps.getD l (0,0)=a.ps[l]:=by rw[Χ,X];rfl
 refine⟨_,C,_,_,_,Λ,hx,W.cl,W.nl,hf,_,_,_,Λ,d.T.l.1,Λ,_,_,_,_,_,_,l,_,Λ,d.T.l,X,?_⟩
 have y:l<S.length:=by rw[d.p.sl];exact x
 have hn:=d.T.IF
 have j:S.getD l 0<2^a.n:=d.p.lt _ (by rw[Χ,Μ y];exact ă y)
 have Yp:S.getD l 0<2^400:=ϛ j (Ŝ (by decide) (by omega))
 refine(d.s.ix (atS y) ⟨S.getD l 0,Λ,Yp,λD hD=>⟨D,Λ,⟨_,DT.of ac⟩,?_⟩⟩)
 have e1:gy (S.getD l 0)=nV (mN (S.getD l 0)):=rfl
 rw[e1]
 have Y:∀z∈mN (S.getD l 0),c5 S l z=Δ/\z<a.n:=λz A=>by
  have B:=(Yd.EV (Yd.FI _)).mp A
  refine⟨B,Ħ λhn=>?_⟩
  rw[ň (ϛ j (Ŝ (by decide) (æ ‹_›)))]at B
  cases B
 generalize mN (S.getD l 0)=us at Y⊢
 have G:=(DP.refl H).new (o:=.π (nV us)) hD
 have Z:(ο H D (.π (nV us))) D=Α (.π (nV us)):=ac
 generalize ο H D (.π (nV us))=H1 at G Z⊢
 refine bZ (K:=K) (a:=D) (xs:=nV us) (λi r t=>∃I N:Option V,DP H1 t/\r=[Α (.ref a.tb),Α (.ref R),Α (.ref U),Α (.int l),Α (.int (a.ps[l]).2),I,N])
  ⟨Β,Β,DP.refl _,Λ⟩ (λi r t _ DS=>by obtain⟨_,_,e,_⟩:=DS;exact DT.of (e _ _ Z)) ?_ ?_
 ·rintro i v r t hv ⟨I,N,e,rfl⟩
  obtain⟨z,A,rfl⟩:=jz (Ϙ hv)
  obtain⟨Yn,j⟩:=Y z A
  refine⟨Λ,_,Λ,?_⟩
  rw[bK]
  by_cases O:(z:Int)=(a.ps[l]).2
  ·rw[Ζ O]
   exact aJ ⟨_,_,e,Λ⟩
  rw[Η O]
  refine aL ⟨a,R,U,g,S,l,z,Λ,d.same W (G.trans e),x,j,Yn,by rw[JN];exact Ϟ O,λH3 s3=>?_⟩
  refine⟨Λ,_,Λ,?_⟩
  rw[AD]
  exact aJ ⟨_,_,e.trans s3,Λ⟩
 ·rintro r t ⟨I,N,e,rfl⟩
  exact q _ (G.trans e)
theorem LF:aw ["table","sets","place","goal","lane"] ["table","sets"] (am BW):=L2.Eu
theorem C5(F:En K "start_fault" "start_fault" BW f fd)(W:Wy K C fw dw J)(Gw:DQ P w K mg μ aF 3 fw dw ["self","place","goal","came"] (eZ J))(X:AU P w K mg μ fx Yr)
  (ms:mg "starts"=Α (.ref GD)) (ks:Ϯ K (.ref GD)=Δ) (bs:Binds K ds ["table"] []) (Gs:DQ P w K mg μ aF 4 GD ds ["table"] (wk c C J)):DQ P w K mg μ aF 5 f fd ["table","sets"] (AZ K c C J):=by
 refine F.ok LF λ_ _ _ s H _ Q E B h=>?_
 obtain⟨a,na,sa,nums,S,rfl,e,q⟩:=h
 have Ex:Ea 1 _:=B.mono (by decide)
 have JS:Ea 3 _:=B.mono (by decide)
 refine⟨_,ae (aT Ϗ Λ (aR (au Gs B Λ ms ks bs .nil ar (aa (pv 0) ad))) (gj Λ (bI (ax (i:=2) LF.nd Λ (ύ Λ)) (bI (ax (i:=3) LF.nd Λ (ύ Λ)) dP)))
   (aj (aT Ϗ Λ (aR (aH (pv 0) W.cl W.m Gw JS W.b .nil ar (aa (pv 2) (aa (pv 3) (aa b9 ad))))) (ax (i:=4) LF.nd Λ (ύ Λ))
    (aj (aP (bE (bA (au X.G Ex Λ X.m X.k X.b .nil ar (aa (aD lu (pv 1) (pv 4) (λ_ _=>rfl)) (aa (pv 3) ad))))) (aj (ay (bM (aa cx (aa (pv 2) (aa (pv 3) (aa (pv 4) ad))))))) aE)))))
  (aj (ay b9)),?_⟩
 obtain⟨dx,fs,hx,hf,F1⟩:=e.T.i
 refine⟨a,Λ,e.T,λD us zs H1 s1 hD gD hU HS=>⟨D,Λ,⟨_,DT.of gD⟩,?_⟩⟩
 refine bZ (K:=K) (a:=D) (xs:=us) (λi d y=>∃I L o:Option V,DP H1 y/\d=[Α (.ref a.tb),Α (.ref sa),I,L,o])
  ⟨Β,Β,Β,DP.refl _,Λ⟩ (λi d y _ M=>by obtain⟨_,_,_,r,_⟩:=M;exact DT.of (r _ _ gD)) ?_ ?_
 ·rintro i v d y hv ⟨I,L,o,r,rfl⟩
  obtain⟨z,hz,t,rfl,gt⟩:=Ei.get hU hv
  obtain⟨p,g,rfl,N,O⟩:=HS z (Ϙ hz)
  refine⟨t,_,Λ,Ec.of (r _ _ gt),Λ,_,_,Λ,_,_,Λ,Λ,?_⟩
  have R:=s1.trans r
  refine⟨_,_,_,Λ,R _ _ hx,F1,_,_,_,p,g,Β,Λ,W.EM _ _ _ _ _ e.T.j (DP.Er R),N,O,λD3 H4 s4 hD3 U=>⟨D3,Λ,⟨_,DT.of U⟩,?_⟩⟩
  have Eo:=e.T.ok p g Β N O
  have x:=e.p.st p g N O
  generalize a.wy p g Β=ws at Eo x U⊢
  refine bZ (K:=K) (a:=D3) (xs:=nV ws) (λj d A=>∃o:Option V,DP H4 A/\d=[Α (.ref a.tb),Α (.ref sa),Α (.int p),Α (.int g),o])
   ⟨_,DP.refl _,Λ⟩ (λj d A _ M=>by obtain⟨_,u,_⟩:=M;exact DT.of (u _ _ U)) ?_ ?_
  ·rintro j v d A Y ⟨o,u,rfl⟩
   obtain⟨l,hl,rfl⟩:=jz (Ϙ Y)
   have Z:=R.trans (s4.trans u)
   refine((e.s.same Z).ix (atS (by rw[e.p.sl];exact Eo l hl)) ⟨S.getD l 0,g,Λ,_,Λ,?_⟩)
   have hb:(S.getD l 0).testBit g=Δ:=x l hl
   rw[hb]
   exact aJ ⟨_,u,Λ⟩
  ·rintro d A ⟨o,u,rfl⟩
   exact⟨_,_,_,r.trans (s4.trans u),Λ⟩
 ·rintro d y ⟨I,L,o,r,rfl⟩
  exact q _ (s1.trans r)
theorem Je:aw NFa ["table","paper"] (am rM):=L2.Eu
theorem xN(F:En K "fault" "fault" rM f fd)(T:eD mg)(W:Wy K C fw dw J)
  (L:mg "has_size"=Α (.ref fz)) (M:Ϯ K (.ref fz)=Δ) (N:Binds K dz ["land","numbers","sets"] []) (O:DQ P w K mg μ aF 3 fz dz ["land","numbers","sets"] (wm K c))
  (R:mg "start_fault"=Α (.ref GD)) (U:Ϯ K (.ref GD)=Δ) (bs:Binds K ds ["table","sets"] []) (X:DQ P w K mg μ aF 5 GD ds ["table","sets"] (AZ K c C J))
  (Y:mg "lane_fault"=Α (.ref fy)) (Z:Ϯ K (.ref fy)=Δ) (L7:Binds K dy ["table","numbers","sets","lane"] []) (Gy:DQ P w K mg μ aF 6 fy dy ["table","numbers","sets","lane"] (tG K c C J)):DQ P w K mg μ aF 7 f fd ["table","paper"] (tI K c C J):=by
 refine F.ok Je λ_ _ _ s H _ Q E v h=>?_
 obtain⟨a,o,g,e,d,S,rfl,gp,b,q⟩:=h
 have JS:Ea 3 _:=v.mono (by decide)
 have NU:Ea 5 _:=v.mono (by decide)
 refine⟨_,ae (aB (i:=2) Je.nd Λ (ύ Λ) (aD DV (pv 1) ao (λ_ _=>rfl)))
  (ae (aB (i:=3) Je.nd Λ (ύ Λ) (aD DV (pv 1) ao (λ_ _=>rfl)))
  (ae (aP (bE (bA (au O JS Λ L M N .nil ar (aa (ap (pv 0) Λ) (aa (pv 2) (aa (pv 3) ad)))))) (aj (ay (bM (aa cx ad)))) aE)
  (ae (aB (i:=4) Je.nd Λ (ύ Λ) (au X NU Λ R U bs .nil ar (aa (pv 0) (aa (pv 3) ad))))
  (ae (aB (i:=5) Je.nd Λ (ύ Λ) ao)
  (ae (iU Ϗ (PW.pt (ge (az jw (pv 4) b9 (aC _)) (fB (az mB (pv 5) (aG aA Λ T.len PySem.boot_len (aa (pv 3) ad)) (aC _)))))
   (ae (aB (i:=4) Je.nd Λ (ύ Λ) (au Gy v Λ Y Z L7 .nil ar (aa (pv 0) (aa (pv 2) (aa (pv 3) (aa (pv 5) ad))))))
   (aj (rT (i:=5) Je.nd Λ (ύ Λ) ao sF))))
  (aj (ay (pv 4)))))))),?_⟩
 obtain⟨dx,fs,hx,hf,_⟩:=b.T.i
 have r:Ec K H o [.ref g,.ref e]:=Ec.of gp
 have hn:=b.T.IF
 have x:=b.T.EH
 have nl:=b.p.nl
 have A:=b.p.sl
 refine⟨o,_,0,_,Λ,Λ,r,aq (j:=0) Λ,?_⟩
 refine⟨o,_,1,_,Λ,Λ,r,aq (j:=1) Λ,?_⟩
 refine⟨_,C,_,_,_,Λ,hx,W.cl,W.nl,hf,_,_,_,g,e,_,_,_,d,S,Λ,b.T.l,hn,x,b.n,b.s,nl,A,b.p.lt,λH1 B=>⟨_,Λ,?_⟩⟩
 refine aJ ⟨a,g,e,d,S,Λ,b.same W B,λH2 s2=>?_⟩
 have GZ:=B.trans s2
 refine⟨λm D G=>∃(i:Nat),m=a.ps.length - i/\i<=a.ps.length/\DP H G/\D=[Α (.ref a.tb),Α (.ref o),Α (.ref g),Α (.ref e),Α .Eh,Α (.int (i:Int))],⟨a.ps.length,0,Λ,Ϧ _,GZ,Λ⟩,?_⟩
 rintro m D G ⟨i,rfl,hi,u,rfl⟩
 refine⟨Λ,_,Λ,?_⟩
 rw[AD]
 refine aL ⟨e,_,Λ,b.s.same u,_,_,Λ,Λ,_,Λ,?_⟩
 rw[aW,A]
 by_cases I:i<a.ps.length
 rotate_left
 ·rw[Η (show ¬(i:Int)<(a.ps.length:Nat) by omega)]
  exact aJ (q _ u)
 rw[Ζ (show (i:Int)<(a.ps.length:Nat) from ó.mpr ‹_›)]
 refine aL ⟨λt y=>DP H y/\t=[Α (.ref a.tb),Α (.ref o),Α (.ref g),Α (.ref e),Α .Eh,Α (.int ((i:Int)+1))],?_,?_⟩
 ·rintro t y ⟨z,rfl⟩
  exact⟨_,by omega,_,Λ,I,z,Λ⟩
 exact⟨a,g,e,d,S,i,Λ,b.same W u,I,λy z=>⟨_,_,Λ,Λ,u.trans z,Λ⟩⟩
inductive r9(K:ϧ)(vs:List V)(H:Hp)(Q:VK)(E:XK):Prop
 |mk (a:Ν) (ns:List Int) (k:Nat) (_:vs=[.ref a,.int k]) (_:DT K H a (ns.map V.int)) (_:∀d,Q (.int d) H)
inductive lZ(vs:List V)(H:Hp)(Q:VK)(E:XK):Prop
 |mk (c:Int) (k:Nat) (_:vs=[.int c,.int k]) (_:k<=1000000) (_:∀d:Int,0<=d->Q (.int d) H)
theorem BT:aw ["_law_script","_law_k"] ["_law_script","_law_k"] (am xj):=L2.Eu
theorem Ag(F:En K "_law_cell_at" "_law_cell_at" xj f fd)(T:eD mg):DQ P w K mg μ aF 1 f fd ["_law_script","_law_k"] (r9 K):=by
 refine F.ok BT λ_ _ _ s H _ Q E g h=>?_
 obtain⟨a,b,k,rfl,c,q⟩:=h
 refine⟨_,ae (aP (az mB (pv 1) (aG aA Λ T.len PySem.boot_len (aa (pv 0) ad)) (aC _))
   (aj (ay (aD DZ (pv 0) (pv 1) (λ_ _=>rfl)))) aE) (aj (ay ao)),?_⟩
 refine⟨a,_,Λ,.inl c,_,_,Λ,Λ,_,Λ,?_⟩
 refine Wi (λh=>?_) λ_=>q _
 have d:=of_decide_eq_true h
 rw[ϊ]at d
 have e:k<b.length:=ó.mp ‹_›
 exact⟨a,_,k,V.int b[k],Λ,Λ,c,aq (by simp[e]),q _⟩
theorem ML:aw ["_law_cell","_law_k","_law_number"] ["_law_cell","_law_k"] (am Cb):=L2.Eu
theorem CB(F:En K "_law_mixed" "_law_mixed" Cb f fd):DQ P w K mg μ aF 1 f fd ["_law_cell","_law_k"] lZ:=by
 refine F.ok ML λ_ _ _ s H _ Q E g h=>?_
 obtain⟨c,k,rfl,j,q⟩:=h
 refine⟨_,ae (aP (az bN (aI ck (pv 0) ao) ao (aC _)) (aj (ay (aI ck (aI jv (pv 0) (aI c6 ao (aI oy ao (aI ck (pv 1) ao)))) (aI rV ao ao)))) aE)
  (ae (aB (i:=2) ML.nd Λ (ύ Λ) (aI ck (aI oy (aI c6 (aI c6 (aI ck (aI dS (pv 0) ao) ao) (aI oy ao (pv 1))) ao) ao) ao))
  (aj (ay (aI ck (aI oy (pv 2) (aI c6 (aI dS (pv 2) ao) ao)) ao)))),?_⟩
 have a:(0:Int)<2147483647:=by decide
 refine⟨_,_,Λ,Λ,(by show (0:Int)<2;decide),Λ,_,Λ,?_⟩
 dsimp only
 by_cases b:c% 2=1
 ·rw[Ζ (show V.int (c% 2)=V.int 1 by rw[b])]
  have l:=Ď (k:Int) (show (120:Int)≠0 by decide)
  refine aL ⟨_,_,Λ,Λ,(by show (0:Int)<120;decide),_,_,Λ,Λ,.inl ⟨by decide,by decide⟩,_,_,Λ,Λ,_,_,Λ,Λ,(by show (0:Int)<=1+20* ((k:Int)% 120);exact Φ _),_,_,Λ,Λ,⟨by decide,by decide,by decide⟩,_,_,Λ,Λ,(by show (0:Int)<2^(20:Int).toNat;decide +kernel),?_⟩
  exact q _ (Ď _ (by decide +kernel))
 rw[Η (λz=>b (V.int.inj z))]
 refine aJ ⟨_,_,Λ,Λ,⟨by decide,by decide⟩,_,_,Λ,Λ,a,_,_,Λ,Λ,.inl ⟨by decide,by decide⟩,_,_,Λ,Λ,_,_,Λ,Λ,_,_,Λ,Λ,.inr ⟨by decide,by decide⟩,_,_,Λ,Λ,a,?_⟩
 dsimp only
 have d:=Ď ((c / 2% 2147483647+7919* (k:Int)+1)* 48271) (show (2147483647:Int)≠0 by decide)
 have e:=ě ((c / 2% 2147483647+7919* (k:Int)+1)* 48271) a
 generalize (c / 2% 2147483647+7919* (k:Int)+1)* 48271% 2147483647=m at d e
 refine⟨_,_,Λ,Λ,⟨by decide,by decide⟩,_,_,Λ,Λ,_,_,Λ,Λ,.inl ⟨by omega,by omega⟩,_,_,Λ,Λ,a,?_⟩
 exact q _ (Ď _ (by decide))
inductive tF(vs:List V)(H:Hp)(Q:VK)(E:XK):Prop
 |mk (n m:Nat) (c:Int) (_:vs=[.int n,.int m,.int c]) (_:2<=n) (_:n<=12) (_:m<=100) (_:∀(D:Ν)(Ed:List V)(ps:List (Int×Int))(H':Hp),DP H H'->H D=Β->H' D=Α (.π Ed)->Ei H' Ed ps->(∀p∈ps,iB n p=Δ)->ps.length=m->Q (.ref D) H')
inductive wx(vs:List V)(H:Hp)(Q:VK)(E:XK):Prop
 |mk (m:Nat) (c:Int) (_:vs=[.int m,.int c]) (_:m<=100) (_:∀(D:Ν)(nums:List Int)(H':Hp),DP H H'->H D=Β->H' D=Α (.π (nums.map V.int))->nums.length=m->Q (.ref D) H')
abbrev NLn:List Str:=["_law_places","_law_amount","_law_cell","_law_lanes_here","_law_k","_law_draw","_law_start"]
abbrev NNu:List Str:=["_law_amount","_law_cell","_law_found","_law_k","_law_draw"]
theorem Ky:aw NLn ["_law_places","_law_amount","_law_cell"] (am rH):=L2.Eu
theorem xI(F:En K "_law_lanes" "_law_lanes" rH f fd)(T:eD mg)(M:mg "_law_mixed"=Α (.ref fm))(N:Ϯ K (.ref fm)=Δ)(O:Binds K dm ["_law_cell","_law_k"] [])
  (R:DQ P w K mg μ aF 1 fm dm ["_law_cell","_law_k"] lZ):DQ P w K mg μ aF 2 f fd ["_law_places","_law_amount","_law_cell"] tF:=by
 refine F.ok Ky λ_ _ _ s H _ Q E S h=>?_
 obtain⟨n,m,c,rfl,JT,Iu,hm,q⟩:=h
 refine⟨_,ae (aB (i:=3) Ky.nd Λ (ύ Λ) (aU ad))
  (ae (aT Ϗ Λ (aO Λ T.range (aa (pv 1) ad)) (ax (i:=4) Ky.nd Λ (ύ Λ))
   (ae (aB (i:=5) Ky.nd Λ (ύ Λ) (au R S Λ M N O .nil ar (aa (pv 2) (aa (pv 4) ad))))
   (ae (aB (i:=6) Ky.nd Λ (ύ Λ) (aI ck (pv 5) (pv 0)))
   (aj (aX (cF plainAttrs_list PySem.F.slot_list_append PySem.F.type_list_append bX (pv 3) (aa (bM (aa (pv 6) (aa (aI ck (aI c6 (aI c6 (pv 6) ao) (aI ck (aI dS (pv 5) ao) (aI e8 (pv 0) ao))) (pv 0)) ad))) ad)))))))
  (aj (ay (pv 3)))),?_⟩
 have two:(2:Nat)<=ό:=by decide
 refine⟨Ϧ _,λD z=>?_⟩
 have U:=(DP.refl H).new (o:=.π []) z
 refine⟨_,Λ,Φ _,by omega,?_⟩
 rw[Υ]
 refine aV (n:=m) (λi A g=>∃(B C G:Option V)(a:List V)(b:List (Int×Int)),DP H g/\g D=Α (.π a)/\Ei g a b/\(∀p∈b,iB n p=Δ)/\b.length=i/\A=[Α (.int n),Α (.int m),Α (.int c),Α (.ref D),B,C,G])
  ⟨Β,Β,Β,[],[],U,ac,.nil,(λe X=>by cases X),Λ,Λ⟩ ?_ ?_
 ·rintro i A g hi ⟨B,C,G,a,b,I,t,u,J,L,rfl⟩
  have v:(0:Int)<(n:Int):=by omega
  have j:(0:Int)<(n:Int) - 1:=by omega
  rw[Þ]
  have ET:=Paired.length u
  refine⟨c,i,Λ,by omega,λd hd=>?_⟩
  refine⟨_,_,Λ,Λ,v,.inl ⟨Λ,_,DT.of t⟩,_,_,Λ,Λ,_,_,Λ,Λ,⟨by decide,by decide⟩,_,_,Λ,Λ,_,_,Λ,Λ,j,_,_,Λ,Λ,_,_,Λ,Λ,v,two,λt1 Y=>?_⟩
  have r:=zm (Ď d (show (n:Int)≠0 by omega)) (ě d v) (Ď (d / 16) (show (n:Int) - 1≠0 by omega)) (ě (d / 16) j)
  obtain⟨Z,e2,e3⟩:=qM (x:=d% (n:Int)) (y:=(d% (n:Int)+1+d / 16% ((n:Int) - 1))% (n:Int)) z I t u Y
  refine⟨D,a,_,Λ,Λ,Z,by rw[Ω];omega,_,_,_,_,_,e2,ac,e3,λp l=>?_,by rw[ϗ,L];rfl,Λ⟩
  rcases ϯ.mp l with l|l
  ·exact J p l
  ·rw[ϙ.mp l]
   exact CP (Ď d (by omega)) (ě d v) r.1 r.2.1 r.2.2
 ·rintro A g ⟨B,C,G,a,b,I,t,u,J,L,rfl⟩
  exact(q D a b g I z t u J L)
theorem LG:aw NNu ["_law_amount","_law_cell"] (am wX):=L2.Eu
theorem zU(F:En K "_law_numbers" "_law_numbers" wX f fd)(T:eD mg)(B:mg "_law_mixed"=Α (.ref fm))(C:Ϯ K (.ref fm)=Δ)(G:Binds K dm ["_law_cell","_law_k"] [])
  (I:DQ P w K mg μ aF 1 fm dm ["_law_cell","_law_k"] lZ):DQ P w K mg μ aF 2 f fd ["_law_amount","_law_cell"] wx:=by
 refine F.ok LG λ_ _ _ s H _ Q E J h=>?_
 obtain⟨m,c,rfl,N,q⟩:=h
 refine⟨_,ae (aB (i:=2) LG.nd Λ (ύ Λ) (aU ad))
  (ae (aT Ϗ Λ (aO Λ T.range (aa (pv 0) ad)) (ax (i:=3) LG.nd Λ (ύ Λ))
   (ae (aB (i:=4) LG.nd Λ (ύ Λ) (au I J Λ B C G .nil ar (aa (pv 1) (aa (pv 3) ad))))
   (aj (aX (cF plainAttrs_list PySem.F.slot_list_append PySem.F.type_list_append bX (pv 2) (aa (aD DZ (aU (aa (aI ck (pv 4) ao) (aa (aI ck (aI dS (pv 1) (aI c6 (pv 3) ao)) (aI rV ao ao)) (aa (Bk vL (pv 4)) (aa (aI dS (pv 4) ao) ad))))) (aI ck (aI dS (pv 4) ao) ao) (λ_ _=>rfl)) ad))))))
  (aj (ay (pv 2)))),?_⟩
 refine⟨Ϧ _,λD p=>?_⟩
 have L:=(DP.refl H).new (o:=.π []) p
 refine⟨_,Λ,Φ _,by omega,?_⟩
 rw[Υ]
 refine aV (n:=m) (λi r g=>∃(t v:Option V)(a:List Int),DP H g/\g D=Α (.π (a.map V.int))/\a.length=i/\r=[Α (.int m),Α (.int c),Α (.ref D),t,v])
  ⟨Β,Β,[],L,ac,Λ,Λ⟩ ?_ ?_
 ·rintro i r g O ⟨t,v,a,x,l,y,rfl⟩
  rw[Þ]
  refine⟨c,i,Λ,by omega,λd R=>?_⟩
  refine⟨.inl ⟨Λ,_,DT.of l⟩,_,_,Λ,Λ,(by show (0:Int)<5;decide),_,_,Λ,Λ,_,_,Λ,Λ,⟨by omega,by omega⟩,_,_,Λ,Λ,⟨by decide,by decide,by decide⟩,_,_,Λ,Λ,(by show (0:Int)<10^(40:Int).toNat;decide +kernel),_,Λ,_,_,Λ,Λ,⟨by decide,by decide⟩,by show 4<=ό;decide,λo M=>?_⟩
  have S:=Ď (d / 16) (show (4:Int)≠0 by decide)
  have U:=ě (d / 16) (show (0:Int)<4 by decide)
  obtain⟨j,hj,hj4⟩:∃j:Nat,d / 16% 4=(j:Int)/\j<4:=⟨(d / 16% 4).toNat,by omega,by omega⟩
  dsimp only
  obtain⟨z,hz⟩:∃z:Int,([V.int (d% 5),V.int (c / ((i:Int)+1)% 10^(40:Int).toNat),V.int (-d),V.int (d / 8)]:List V)[j]?=Α (V.int z):=by
   match j,hj4 with
   |0,_=>exact⟨_,Λ⟩
   |1,_=>exact⟨_,Λ⟩
   |2,_=>exact⟨_,Λ⟩
   |3,_=>exact⟨_,Λ⟩
  have A:=(DP.refl g).new (o:=.π [V.int (d% 5),V.int (c / ((i:Int)+1)% 10^(40:Int).toNat),V.int (-d),V.int (d / 8)]) M
  refine⟨_,_,Λ,Λ,⟨by decide,by decide⟩,_,_,Λ,Λ,(by show (0:Int)<4;decide),o,_,_,_,Λ,congrArg V.int hj,DT.of ac,aq hz,?_⟩
  generalize ο g o (.π [V.int (d% 5),V.int (c / ((i:Int)+1)% 10^(40:Int).toNat),V.int (-d),V.int (d / 8)])=X at A⊢
  refine⟨D,_,_,Λ,Λ,A _ _ l,by rw[ϊ,Ω];omega,_,_,a++[z],λb u e=>by rw[ag (ah e p)];exact A _ _ (x _ _ e),by rw[ac,Ì];rfl,by rw[ϗ,y];rfl,Λ⟩
 ·rintro r g ⟨t,v,a,x,l,y,rfl⟩
  exact(q D a g x p l y)
abbrev lM:Ç:=(aK fA).getD 1 (.Pass ⟨0,0,0,0⟩)
noncomputable def CY(s:Ç):Arguments:=match s with
 |.For _ (.Call _ _ [⟨_,.Lambda a _ _ _,_⟩] _) _ _ _=>a
 |_=>{posonlyargs:=[],args:=[],vararg:=Β,kwonlyargs:=[],kw_defaults:=[],kwarg:=Β,defaults:=[]}
noncomputable def CW(s:Ç):Expr:=match s with
 |.For _ (.Call _ _ [⟨_,.Lambda _ b _ _,_⟩] _) _ _ _=>b
 |_ =>.Name "" ⟨0,0,0,0⟩
noncomputable def Ap(s:Ç):Scope:=match s with
 |.For _ (.Call _ _ [⟨_,.Lambda _ _ sc _,_⟩] _) _ _ _=>sc
 |_=>zQ0
inductive Bg(K:ϧ)(EF:List V)(vs:List V)(H:Hp)(Q:VK)(E:XK):Prop
 |mk (nu:Ν) (nums:List Int) (i:Nat) (_:EF=[.ref nu]) (_:vs=[.int (i:Int)]) (_:DT K H nu (nums.map V.int)) (_:i<nums.length) (_:Q (.int (-(nums.getD i 0))) H)
inductive tM(K:ϧ)(Tb:Ν)(vs:List V)(H:Hp)(Q:VK)(E:XK):Prop
 |mk (l nu:Ν) (Ed:List V) (ps:List (Int×Int)) (nums:List Int) (n:Nat) (_:vs=[.ref l,.ref nu]) (_:H l=Α (.π Ed)) (_:Ei H Ed ps) (_:ps.length<=40) (_:(∀p∈ps,iB n p=Δ)) (_:n<=12) (_:H nu=Α (.π (nums.map V.int))) (_:nums.length=ps.length) (_:H Tb=Α (.Fj #[])) (_:∀(D:Ν)(al:List Nat)(H':Hp),Ee [Tb] H H'->H D=Β->H' D=Α (.π (nV al))->al.length=ps.length->(∀z∈al,z<2^n)->(∀l,l<ps.length->RN ps nums al l)->Q (.ref D) H')
abbrev NAl:List Str:=["_law_lanes_here","_law_numbers_here","_law_alive_here","_law_lane","_law_end","_law_other"]
theorem oz{n:Nat}{c:List (Int×Int)}(f:∀p∈c,iB n p=Δ)(d:i<c.length):∃a b:Nat,c.getD i (0,0)=((a:Int),(b:Int))/\a<n/\b<n:=by
 have e:=f _ (ă d)
 unfold iB at e
 simp only[É,decide_eq_true_eq,ö,decide_eq_false_iff_not]at e
 refine⟨(c[i]).1.toNat,(c[i]).2.toNat,?_,by omega,by omega⟩
 rw[Χ,Μ d]
 refine Prod.ext ?_ ?_<;>show _=_<;>simp<;>omega
theorem oP{n:Nat}(f:∀p∈ps,iB n p=Δ)(g:Ei H Ed ps)(c:i<ps.length):∃(a b:Nat)(u:Ν),ps.getD i (0,0)=((a:Int),(b:Int))/\a<n/\b<n/\Ed[i]?=Α (.ref u)/\H u=Α (.tup [.int (a:Int),.int (b:Int)]):=by
 obtain⟨a,b,e,h,j⟩:=oz f c
 obtain⟨v,l,u,rfl,d⟩:=Ei.Nz g (Μ c)
 have m:ps[i]=((a:Int),(b:Int)):=by rw[←e,Χ,Μ c];rfl
 rw[m]at d
 exact⟨a,b,u,e,h,j,l,d⟩
theorem Yt:qS ["_law_one","_law_numbers_here"] ["_law_one"] ["_law_numbers_here"] (Ap lM):=⟨Λ,Λ,Λ,by decide +kernel,Λ,by decide +kernel,by decide +kernel,by decide +kernel,by decide +kernel⟩
theorem CL(lk:μ.get? f=Α (PySem.W.kla_obj "<lambda>" qual (CY lM) (CW lM) (Ap lM) clos pm c' Hq))(d:μ.get? c'=Α oc)(e:sR oc qual)(C:WG μ clos ["_law_numbers_here"] EF):
  DQ P w K mg μ aF 1 f (PySem.W.kla_fn "<lambda>" qual (CY lM) (CW lM) (Ap lM) clos pm (.ref c') Hq) ["_law_one"] (Bg K EF):=by
 refine CV lk d e Yt C (λg H Q E h=>?_) (λA b s H g Q E m h=>?_)
 ·obtain⟨c,a,i,_,rfl,_⟩:=h
  rfl
 ·obtain⟨c,a,i,rfl,rfl,j,l,q⟩:=h
  exact⟨_,Bk vL (aD (DZ) (pv 1) (pv 0) (λ_ _=>rfl)),c,_,_,_,Λ,Λ,j,DC l,_,Λ,q⟩
theorem D7:Binds K (PySem.W.kla_fn "<lambda>" qual (CY lM) (CW lM) (Ap lM) clos pm (.ref c') Hq) ["_law_one"] []:=
 .all λus b=>by cases us with|nil=>cases b|cons a t=>cases t with
  |nil=>rfl|cons=>cases b
theorem Kz:aw NAl ["_law_lanes_here","_law_numbers_here"] (am fA):=L2.Eu
theorem Yu:ES NAl (am fA) (DE ((aK fA).getD 0 (.Pass ⟨0,0,0,0⟩))) [] []:=L2.FC
theorem Yv:(["_law_lane"]:List Str).Nodup:=by decide +kernel
theorem xT(F:En K "_law_alive" "_law_alive" fA f df)(GG:df.code=.ref cc)(NS:KC mg μ cc Tb)(T:eD mg):DQ P w K mg μ aF 4 f df ["_law_lanes_here","_law_numbers_here"] (tM K Tb):=by
 refine F.okC Kz (λvs H Q E h=>?_) (λcdv A0 outer s H vs Q E hcv hr h=>?_)
 ·obtain⟨l,G,Ed,d,c,n,rfl,_⟩:=h
  rfl
 ·obtain⟨l,G,Ed,d,c,n,rfl,gl,Mw,FH,DY,Iu,gn,hnl,Iq,q⟩:=h
  rw[GG]at hcv
  have Ex:Ea 1 (Ø.in1 (Ø.in1 _)):=hr.in1.in1.mono (by decide)
  refine⟨_,ae (dF (i:=2) (own:=["_law_lane"]) (capN:=[]) (cap:=[]) Yu Λ Kz.nd Λ Λ (aR (pv 0)) (λC s' H' fp=>⟨ax (i:=0) Yv Λ (ύ Λ),c4,ao⟩))
   (ae (aT Ϗ Λ (aR (xy (clos:=[("_law_numbers_here",s.heap.objs.size+1)]) (cs:=[(1,"_law_numbers_here")]) (sps:=Bg K) (E:=λ_ _ _=>False) Λ NS Λ T.sorted (aa (bS qC Λ T.range wh (aa (aG aA Λ T.len PySem.boot_len (aa (pv 0) ad)) ad)) ad) hcv.symm Λ Λ Ex (P9.mpr ⟨⟨Λ,Λ,Λ⟩,λ_ h=>nomatch h⟩)
     (λf c' oc pm Hq hco EF E5 B=>CL (B.pn _ (ώ ..)) (B.pn _ (ϟ _ (ώ ..))) hco (B.cap Λ (P9.mpr ⟨Λ,λ_ h=>nomatch h⟩))) (λ_ _ _=>D7))) (ax (i:=3) Kz.nd Λ (ύ Λ))
    (ae (aB (i:=4) Kz.nd Λ (ύ Λ) (aD DV (aD DZ (pv 0) (pv 3) (λ_ _=>rfl)) ao (λ_ _=>rfl)))
    (ae (gi (aI ou ao (pv 4)) (jt (pv 2) (pv 3) eK))
    (aj (aT Ϗ Λ (aO Λ T.range (aa (aG aA Λ T.len PySem.boot_len (aa (pv 0) ad)) ad)) (ax (i:=5) Kz.nd Λ (ύ Λ))
     (aj (aP (PW.pt (ge (az bN (aD DV (aD DZ (pv 0) (pv 5) (λ_ _=>rfl)) ao (λ_ _=>rfl)) (pv 4) (aC _)) (fB (az ua (aD DZ (pv 1) (pv 5) (λ_ _=>rfl)) (aD DZ (pv 1) (pv 3) (λ_ _=>rfl)) (aC _)))))
      (aj (gi (aI x8 (aD DZ (pv 2) (pv 3) (λ_ _=>rfl)) (aD DZ (pv 2) (pv 5) (λ_ _=>rfl))) (jt (pv 2) (pv 3) eK))) aE)))))))
   (aj (ay (pv 2)))),?_⟩
  have ET:=Paired.length Mw
  refine⟨l,Λ,⟨_,DT.of gl⟩,?_⟩
  refine j6 (K:=K) (a:=l) (xs:=Ed) (λ_=>V.int 0) (by rw[Ω];omega) (DT.of gl) (λi x N A h=>h) (λD hD=>?_)
  have eA:((ϋ Ed.length).map λ_=>V.int 0)=nV (Ϛ d.length 0):=by
   unfold nV
   rw[Se,ET]
   exact List.map_const' .. |>.trans (by rw[ã];rfl)
  rw[eA]
  have s0:=(DP.refl H).new (o:=.π (nV (Ϛ d.length 0))) hD
  have g0:(ο H D (.π (nV (Ϛ d.length 0)))) D=Α (.π (nV (Ϛ d.length 0))):=ac
  generalize ο H D (.π (nV (Ϛ d.length 0)))=H1 at s0 g0⊢
  refine⟨l,_,Λ,.inl (DT.of (s0 _ _ gl)),_,Λ,λp hp=>?_⟩
  rw[ET]
  have O:=s0.new (o:=ij p ((d.length:Nat):Int)) hp
  have U1:(ο H1 p (ij p ((d.length:Nat):Int))) D=Α (.π (nV (Ϛ d.length 0))):=by rw[ag (ah g0 hp)];exact g0
  have gp:(ο H1 p (ij p ((d.length:Nat):Int))) p=Α (ij p ((d.length:Nat):Int)):=ac
  generalize ο H1 p (ij p ((d.length:Nat):Int))=I at O U1 gp⊢
  have U2:=O _ _ Iq
  refine⟨p,_,_,_,λi=>-(c.getD i.toNat 0),Λ,gp,by omega,U2,Ê,Λ,.cons Λ .nil,λS=>⟨λi hi=>?_,λR J hR KG Yw=>?_⟩⟩
  ·refine⟨G,c,i,Λ,Λ,DT.of ?_,by omega,?_,Λ⟩
   ·rw[ag (aQ (O _ _ gn) U2 (by intro z;cases z))];exact O _ _ gn
   ·show V.int (-(c.getD i 0))=V.int (-(c.getD ((i:Int)).toNat 0))
    rw[Υ]
  have keep:∀b o,I b=Α o->(∀qs,o≠.Fj qs)->(ο (ο I Tb (.Fj S)) R (.π (J.map V.int))) b=Α o:=λb o e nt=>by
   have nb:b≠Tb:=λz=>by rw[z,U2]at e;cases e;exact nt _ Λ
   have e1:(ο I Tb (.Fj S)) b=Α o:=by rw[ag nb];exact e
   rw[ag (ah e1 hR)];exact e1
  have Jx:=keep _ _ U1 (by intro _ z;cases z)
  have KO:=keep _ _ (O _ _ gl) (by intro _ z;cases z)
  have gn3:=keep _ _ (O _ _ gn) (by intro _ z;cases z)
  have G7:=Ei.imp (λ_ _ DS=>by obtain⟨t,e,g⟩:=DS;exact⟨t,e,keep _ _ (O _ _ g) (by intro _ z;cases z)⟩) Mw
  have o3:Ee [Tb] H (ο (ο I Tb (.Fj S)) R (.π (J.map V.int))):=λb o hb e=>by
   have nb:b≠Tb:=λz=>hb (by rw[z];exact ώ)
   have e1:(ο I Tb (.Fj S)) b=Α o:=by rw[ag nb];exact O _ _ e
   rw[ag (ah e1 hR)];exact e1
  have gR:(ο (ο I Tb (.Fj S)) R (.π (J.map V.int))) R=Α (.π (J.map V.int)):=ac
  have nDR:=ah (show(ο I Tb (.Fj S)) D=Α (.π (nV (Ϛ d.length 0))) by rw[ag (aQ U1 U2 (by intro z;cases z))];exact U1) hR
  generalize ο (ο I Tb (.Fj S)) R (.π (J.map V.int))=H3 at Jx KO gn3 G7 o3 gR⊢
  obtain⟨L,rfl⟩:∃L:List Nat,J=iz L:=⟨J.map Int.toNat,by
   unfold iz
   rw[č]
   conv=>lhs;rw[←map_id J]
   refine ų λx A=>?_
   obtain⟨k,_,rfl⟩:=Ö.mp (KG.mem_iff.mp A)
   rfl⟩
  have pm:L.Perm (ϋ d.length):=by
   have:=KG.map Int.toNat
   unfold iz at this
   have eid:∀l:List Nat,l.map (Int.toNat ∘ λk:Nat=>(k:Int))=l:=λl=>(ų λx _=>rfl).trans (map_id l)
   rw[č,č,eid,eid]at this
   exact this
  have so:L.Pairwise λx y=>c.getD y 0<=c.getD x 0:=by
   unfold iz at Yw
   rw[JB]at Yw
   refine Yw.imp λ{x y} h=>?_
   have h:-(c.getD ((x:Int)).toNat 0)<= -(c.getD ((y:Int)).toNat 0):=h
   rw[Υ,Υ]at h
   omega
  have HS:∀x∈L,x<d.length:=λx A=>È.mp (pm.mem_iff.mp A)
  rw[yn]at gR
  refine⟨R,Λ,⟨_,DT.of gR⟩,?_⟩
  have nl:=ah gl hD
  have nn:=ah gn hD
  have NY:∀{M:Hp}{xs:List V},Ee [D] H3 M->Ee [D] H3 (ο M D (.π xs)):=λo b u hb e=>by
   rw[ag (λz=>hb (by rw[z];exact ώ))];exact o b u hb e
  have r:∀z:Ν,z≠D->z∉[D]:=λz h m=>h (ϙ.mp m)
  refine bZ (K:=K) (a:=R) (xs:=nV L) (λi U M=>∃(a3 a4 Z:Option V)(al:List Nat),Ee [D] H3 M/\M D=Α (.π (nV al))/\al.length=d.length/\(∀z∈al,z<2^n)/\(∀x∈L.take i,RN d c al x)/\U=[Α (.ref l),Α (.ref G),Α (.ref D),a3,a4,Z])
   ⟨Β,Β,Β,_,(λb o _ e=>e),Jx,õ ..,(λz hz=>by rw[(RJ.mp hz).2];exact Mm _),(λx A=>by cases A),Λ⟩ (λi U M _ DS=>by obtain⟨_,_,_,_,o,_⟩:=DS;exact DT.of (o _ _ (r R (Ϟ nDR)) gR)) ?_ ?_
  rotate_left
  ·rintro U M ⟨a3,a4,Z,al,o4,g4,Ht,Eo,hA,rfl⟩
   rw[aW,â]at hA
   exact(q D al M (λb o hb e=>o4 b o (r b (ah e hD)) (o3 b o hb e)) hD g4 Ht Eo λx A=>hA x (pm.mem_iff.mpr (È.mpr A)))
  rintro i v U M hv ⟨a3,a4,Z,al,o4,g4,Ht,Eo,hA,rfl⟩
  obtain⟨x,A,rfl⟩:∃x,L[i]?=Α x/\v=.int (x:Int):=by
   unfold nV at hv
   rw[Å]at hv
   cases A:L[i]? with
   |none=>rw[A]at hv;cases hv
   |some x=>rw[A]at hv;exact⟨x,Λ,(Ϝ hv).symm⟩
  have hxl:=HS x (Ϙ A)
  obtain⟨sx,ex,ux,Yx,hsx,hex,hvx,gux⟩:=oP DY G7 hxl
  have RS:∀{u:Ν}{xs:List V},H3 u=Α (.tup xs)->u≠D:=λe=>aQ e Jx (by intro z;cases z)
  refine⟨l,_,_,_,Λ,Λ,DT.of (o4 _ _ (r l nl) KO),aq hvx,_,_,1,_,Λ,Λ,Ec.of (o4 _ _ (r ux (RS gux)) gux),aq (j:=1) Λ,_,_,Λ,Λ,⟨Φ _,by omega,by decide⟩,?_⟩
  dsimp only
  rw[one_mul,Υ,show (2:Int)^ex=((2^ex:Nat):Int) by rw[et];rfl]
  refine⟨D,_,_,x,Λ,Λ,g4,fK (by rw[aW];omega),?_⟩
  rw[sg]
  refine⟨l,_,Λ,.inl (DT.of (NY o4 _ _ (r l nl) KO)),_,Λ,Φ _,by omega,?_⟩
  rw[Υ,ET]
  refine aV (n:=d.length) (λk U H5=>∃(Z:Option V)(v:Nat),Ee [D] H3 H5/\H5 D=Α (.π (nV (al.set x v)))/\v<2^n/\(∀g:Nat,v.testBit g=Δ↔((g:Int)=(d.getD x (0,0)).2∨∃o,o<k/\(d.getD o (0,0)).1=(d.getD x (0,0)).2/\c.getD x 0<c.getD o 0/\c5 al o g=Δ))/\U=[Α (.ref l),Α (.ref G),Α (.ref D),Α (.int (x:Int)),Α (.int (ex:Int)),Z])
   ⟨_,2^ex,NY o4,ac,PY (by decide) hex,λg=>?_,Λ⟩ ?_ ?_
  ·rw[Yx,nF,decide_eq_true_eq]
   constructor
   ·intro h;left;omega
   ·rintro (h|⟨o,h,_⟩)
    ·have h:=h;omega
    ·exact Κ ‹_› (Nat.not_lt_zero _)
  ·rintro k U H5 hk ⟨Z,v,X,g5,RT,RU,rfl⟩
   rw[Þ]
   obtain⟨sk,ek,uk,exk,hsk,hek,RV,guk⟩:=oP DY G7 hk
   refine⟨l,_,_,_,Λ,Λ,DT.of (X _ _ (r l nl) KO),aq RV,_,_,0,_,Λ,Λ,Ec.of (X _ _ (r uk (RS guk)) guk),aq (j:=0) Λ,Λ,_,Λ,?_⟩
   rw[fL]
   have next:((d.getD k (0,0)).1=(d.getD x (0,0)).2/\c.getD x 0<c.getD k 0->False)->∀g:Nat,(((g:Int)=(d.getD x (0,0)).2∨∃o,o<k/\(d.getD o (0,0)).1=(d.getD x (0,0)).2/\c.getD x 0<c.getD o 0/\c5 al o g=Δ)↔((g:Int)=(d.getD x (0,0)).2∨∃o,o<k+1/\(d.getD o (0,0)).1=(d.getD x (0,0)).2/\c.getD x 0<c.getD o 0/\c5 al o g=Δ)):=λKD g =>
    or_congr WL ⟨λDS=>by obtain⟨o,h1,Y⟩:=DS;exact⟨o,ĥ ‹_›,Y⟩,fun⟨o,h1,Y,h3,h4⟩=>by
     by_cases z:o=k
     ·subst z;exact Κ ⟨Y,h3⟩ (λh=>KD h)
     ·exact⟨o,by omega,Y,h3,h4⟩⟩
   by_cases he:(sk:Int)=(ex:Int)
   rotate_left
   ·rw[Η he]
    refine aJ (aJ ⟨_,v,X,g5,RT,λg=>(RU g).trans (next (λh=>he ?_) g),Λ⟩)
    have:=h.1;rw[exk,Yx]at this;exact this
   rw[Ζ he]
   have hn3:DT K H5 G (c.map V.int):=DT.of (X _ _ (r G nn) gn3)
   refine aL ⟨G,_,_,_,Λ,Λ,hn3,DC (by omega),G,_,_,_,Λ,Λ,hn3,DC (by omega),_,_,Λ,Λ,_,Λ,?_⟩
   by_cases Kx:c.getD x 0<c.getD k 0
   rotate_left
   ·rw[Η Kx]
    exact aJ ⟨_,v,X,g5,RT,λg=>(RU g).trans (next (λh=>Kx h.2) g),Λ⟩
   rw[Ζ Kx]
   have hkx:k≠x:=λz=>by subst z;omega
   have O9:(al.set x v).length=d.length:=by rw[Ĵ];exact Ht
   have gk:(al.set x v).getD k 0=al.getD k 0:=by rw[Χ,Χ,à (Ϟ hkx)]
   have gx:(al.set x v).getD x 0=v:=by rw[Χ,ę (by omega)];rfl
   have a1:=iW (F:=al.set x v) (p:=x) (by omega)
   have a2:=iW (F:=al.set x v) (p:=k) (by omega)
   rw[gx]at a1
   rw[gk]at a2
   refine aL ⟨D,_,_,_,Λ,Λ,DT.of g5,aq a1,D,_,_,_,Λ,Λ,DT.of g5,aq a2,_,_,Λ,Λ,?_⟩
   dsimp only
   rw[Yd.FP]
   refine⟨D,_,_,x,Λ,Λ,g5,fK (by rw[aW];omega),?_⟩
   rw[sg,List.set_set]
   have Yi:al.getD k 0<2^n:=by
    have h0:k<al.length:=by omega
    rw[Χ,Μ h0]
    exact Eo _ (ă h0)
   refine⟨_,_,NY X,ac,W4 RT Yi,λg=>?_,Λ⟩
   rw[A4,ļ,RU g]
   constructor
   ·rintro ((h|⟨o,h1,Y⟩)|h)
    ·exact .inl h
    ·exact .inr ⟨o,ĥ ‹_›,Y⟩
    ·exact .inr ⟨k,Ρ _,by rw[exk,Yx];exact he,Kx,h⟩
   ·rintro (h|⟨o,h1,Y,h3,h4⟩)
    ·exact .inl (.inl h)
    ·by_cases z:o=k
     ·subst z;exact .inr h4
     ·exact .inl (.inr ⟨o,by omega,Y,h3,h4⟩)
  ·rintro U H5 ⟨Z,v,X,g5,RT,RU,rfl⟩
   refine⟨_,_,_,_,X,g5,by rw[Ĵ];exact Ht,λz hz=>?_,yG Ht pm so A hA RU,Λ⟩
   rcases Ll hz with hz|hz
   ·exact Eo z hz
   ·rw[hz];exact RT
structure RW(H:Hp)(l nu la:Ν)(Ed:List V)(ps:List (Int×Int))(nums:List Int)(al:List Nat)(n:Nat):Prop where
 l:H l=Α (.π Ed)
 L:Ei H Ed ps
 u:H nu=Α (.π (nums.map V.int))
 a:H la=Α (.π (nV al))
 ok:∀p∈ps,iB n p=Δ
 EH:ps.length<=10
 nl:nums.length=ps.length
 sl:al.length=ps.length
theorem RW.same{l b c:Ν}(h:RW H l b c Ed ps nums al n)(s:DP H H'):RW H' l b c Ed ps nums al n:=⟨s _ _ h.l,Ei.same s h.L,s _ _ h.u,s _ _ h.a,h.ok,h.EH,h.nl,h.sl⟩
noncomputable def U3(nums:List Int)(cc:Option Nat)(z:Nat):Bool:=match cc with
 |none=>Δ
 |some k=>decide (nums.getD k 0<nums.getD z 0)
noncomputable def qk(ps:List (Int×Int))(nums:List Int)(al:List Nat)(p g:Nat)(cc:Option Nat)(z:Nat):Bool:=decide ((ps.getD z (0,0)).1=(p:Int))&& (c5 al z g&& U3 nums cc z)
noncomputable def jN(ps:List (Int×Int))(nums:List Int)(al:List Nat)(p g:Nat)(cc:Option Nat)(m:Nat):List Nat:=(ϋ m).filter (qk ps nums al p g cc)
theorem yy:jN ps nums al p g cc (i+1)=if qk ps nums al p g cc i then jN ps nums al p g cc i++[i] else jN ps nums al p g cc i:=by
 unfold jN
 rw[ē,ë]
 cases h:qk ps nums al p g cc i with
 |true=>rw[Ι Λ,Ŵ h];rfl
 |false=>rw[Θ (by decide),ģ (by rw[h];decide)];simp
theorem Ck(h:∀z∈us,z∈jN ps nums al p g cc ps.length)(i:us=[]->jN ps nums al p g cc ps.length=[]):Bu ps nums al ⟨(p:Int),(g:Int),cc,us⟩:=by
 refine⟨λl c=>?_,λj l c m d=>?_⟩
 ·obtain⟨a,b⟩:=ϩ.mp (h l c)
  unfold qk at b
  simp only[É,decide_eq_true_eq]at b
  refine⟨È.mp a,b.1,by rw[Υ];exact b.2.1,λk e=>?_⟩
  have e:cc=Α k:=e
  have:=b.2.2
  rw[e]at this
  exact of_decide_eq_true this
 ·have n:=i j
  have d:c5 al l g=Δ:=by have:=d;rw[Υ]at this;exact this
  cases f:U3 nums cc l with
  | true =>
   have:l∈jN ps nums al p g cc ps.length:=ϩ.mpr ⟨È.mpr c,by unfold qk;rw[Ζ m,d,f];rfl⟩
   rw[n]at this;cases this
  | false =>
   cases cc with
   |none=>cases f
   |some k=>exact⟨k,Λ,by have:=of_decide_eq_false f;exact Int.not_lt.mp ‹_›⟩
inductive tJ(vs:List V)(H:Hp)(Q:VK)(E:XK):Prop
 |mk (l nu la:Ν) (Ed:List V) (ps:List (Int×Int)) (nums:List Int) (al:List Nat) (n p g d:Nat) (cc:Option Nat) (_:vs=[.ref l,.ref nu,.ref la,.int (p:Int),.int (g:Int),cV cc,.int (d:Int)]) (_:RW H l nu la Ed ps nums al n) (_:(∀k,cc=Α k->k<ps.length)) (_:∀(D:Ν)(us:List Nat)(H':Hp),DP H H'->H D=Β->H' D=Α (.π (ce us))->us.length<=10->(∀z∈us,z∈gH á ps (p:Int))->Bu ps nums al ⟨(p:Int),(g:Int),cc,us⟩->Q (.ref D) H')
inductive wz(vs:List V)(H:Hp)(Q:VK)(E:XK):Prop
 |mk (l nu la:Ν) (Ed:List V) (ps:List (Int×Int)) (nums:List Int) (al:List Nat) (n:Nat) (cl:Int) (_:vs=[.int n,.ref l,.ref nu,.ref la,.int cl]) (_:RW H l nu la Ed ps nums al n) (_:2<=n) (_:n<=5) (_:∀(D:Ν)(Ej:List V)(rs:List Rw)(H':Hp),DP H H'->H D=Β->H' D=Α (.π Ej)->IX H' Ej rs->Jw n ps 50000 rs->(∀r∈rs,Bu ps nums al r)->(∀p g c,p<n->g<n->p≠g->c∈bC ps p->Kw rs p g c)->Q (.ref D) H')
abbrev NEy:List Str:=["_law_lanes_here","_law_numbers_here","_law_alive_here","_law_place","_law_goal","_law_came","_law_draw","_law_found","_law_lane","_law_some"]
abbrev U4:List Str:=["_law_lanes_here","_law_numbers_here","_law_alive_here","_law_place","_law_goal","_law_came","_law_draw"]
abbrev NMd:List Str:=["_law_places","_law_lanes_here","_law_numbers_here","_law_alive_here","_law_cell","_law_rows","_law_place","_law_cames","_law_goal","_law_came","_law_draw","_law_entry_here"]
abbrev U5:List Str:=["_law_places","_law_lanes_here","_law_numbers_here","_law_alive_here","_law_cell"]
theorem LH:aw NEy U4 (am kN):=L2.Eu
theorem Yy:ES NEy (am kN) (DE (lb (aK kN) 2)) ["_law_draw"] [6]:=L2.FC
theorem Yz:(["_law_lane","_law_draw"]:List Str).Nodup:=by decide +kernel
theorem xO(F:En K "_law_entry" "_law_entry" kN f fd)(T:eD mg):DQ P w K mg μ aF 1 f fd U4 tJ:=by
 refine F.ok LH λ_ _ _ s H _ Q E hr h=>?_
 obtain⟨l,M,la,Ed,m,c,al,n,p,g,d,r,rfl,x,O,q⟩:=h
 have hu:=hr.units
 refine⟨_,ae (aB (i:=7) LH.nd Λ (ύ Λ) (aU ad))
  (ae (aT Ϗ Λ (aO Λ T.range (aa (aG aA Λ T.len PySem.boot_len (aa (pv 0) ad)) ad)) (ax (i:=8) LH.nd Λ (ύ Λ))
   (aj (aP (PW.pt (ge (az bN (aD DV (aD DZ (pv 0) (pv 8) (λ_ _=>rfl)) ao (λ_ _=>rfl)) (pv 3) (aC _)) (fB (az bN (aI i5 (aI jv (aD DZ (pv 2) (pv 8) (λ_ _=>rfl)) (pv 4)) ao) ao (aC _)))))
    (aj (aP (PW.pt (fZ (az jw (pv 5) b9 (aC _)) (dD (az ua (aD DZ (pv 1) (pv 8) (λ_ _=>rfl)) (aD DZ (pv 1) (pv 5) (λ_ _=>rfl)) (aC _)))))
     (aj (aX (cF plainAttrs_list PySem.F.slot_list_append PySem.F.type_list_append bX (pv 7) (aa (pv 8) ad)))) aE)) aE)))
  (ae (dF (i:=9) (own:=["_law_lane"]) (capN:=["_law_draw"]) (cap:=[6]) Yy Λ LH.nd Λ Λ (aR (pv 7)) (λC s' H' fp=>⟨ax (i:=0) Yz Λ (ύ Λ),bY (az bN (aI i5 (aI jv (pv 1) (pv 0)) ao) ao (aC _)),pv 0⟩))
  (ae (aP (az (kY hu) (pv 9) (aU ad) (aC _)) (aj (ay (pv 9))) aE)
  (aj (ay (pv 7)))))),?_⟩
 have ET:=Paired.length x.L
 have FH:=x.EH
 have nl:=x.nl
 have sl:=x.sl
 refine⟨Ϧ _,λD R=>?_⟩
 have S:=(DP.refl H).new (o:=.π []) R
 have g0:(ο H D (.π [])) D=Α (.π (ce [])):=ac
 generalize ο H D (.π [])=H0 at S g0⊢
 refine⟨l,_,Λ,.inl (DT.of (S _ _ x.l)),_,Λ,Φ _,by omega,?_⟩
 rw[Υ,ET]
 have fl:∀i,(jN m c al p g r i).length<=i:=λi=>by
  have:=Æ (qk m c al p g r) (ϋ i)
  rw[ã]at this;exact this
 refine aV (n:=m.length) (λi U y=>∃(X:Option V),DP H y/\y D=Α (.π (ce (jN m c al p g r i)))/\U=[Α (.ref l),Α (.ref M),Α (.ref la),Α (.int (p:Int)),Α (.int (g:Int)),Α (cV r),Α (.int (d:Int)),Α (.ref D),X,Β])
  ⟨Β,S,g0,Λ⟩ ?_ ?_
 ·rintro i U y hi ⟨X,t,v,rfl⟩
  rw[Þ]
  obtain⟨a,b,u,e,ha,Y,hv,gu⟩:=oP x.ok x.L hi
  rw[yy]
  unfold qk
  rw[e]
  refine⟨l,_,_,_,Λ,Λ,DT.of (t _ _ x.l),aq hv,u,_,0,_,Λ,Λ,Ec.of (t _ _ gu),aq (j:=0) Λ,Λ,_,Λ,?_⟩
  rw[fL]
  dsimp only
  cases HY:decide ((a:Int)=(p:Int)) with
  | false =>
   exact aJ (aJ ⟨_,t,v,Λ⟩)
  |true =>
  rw[ñ]
  refine aL ⟨la,_,_,_,Λ,Λ,DT.of (t _ _ x.a),aq (iW (p:=i) (by omega)),_,_,Λ,Λ,(show (0:Int)<=(g:Int) from Φ _),_,_,Λ,Λ,Λ,_,Λ,?_⟩
  rw[D1]
  unfold c5
  cases hbg:(al.getD i 0).testBit g with
  | false =>
   exact aJ ⟨_,t,v,Λ⟩
  |true =>
  rw[ñ]
  have more:DP H (ο y D (.π (ce (jN m c al p g r i)++[.int (i:Int)])))/\(ο y D (.π (ce (jN m c al p g r i)++[.int (i:Int)]))) D=Α (.π (ce (jN m c al p g r i++[i]))):=
   ⟨λb o e=>by rw[ag (ah e R)];exact t _ _ e,by rw[ac,vc]⟩
  have add:(if Δ=Δ then jN m c al p g r i++[i] else jN m c al p g r i)=jN m c al p g r i++[i]:=Ι Λ
  have Ln:=fl i
  have A:(ce (jN m c al p g r i)).length<ό:=by unfold ce;rw[ϊ,Ω];omega
  refine aL ⟨Λ,_,Λ,?_⟩
  cases r with
  | none =>
   rw[show decide (cV Β=V.Eh)=Δ from Ζ Λ]
   refine aL (aL ⟨.inl ⟨Λ,_,DT.of v⟩,D,_,_,Λ,Λ,v,A,_,more.1,?_,Λ⟩)
   exact more.2
  | some k =>
   have Fg:=O k Λ
   rw[show decide (cV (Α k)=V.Eh)=Ε from Η λz=>by cases z]
   refine aJ ⟨M,_,_,_,Λ,Λ,DT.of (t _ _ x.u),DC (by omega),M,_,(k:Int),_,Λ,Λ,DT.of (t _ _ x.u),DC (by omega),_,_,Λ,Λ,_,Λ,?_⟩
   cases Kx:decide (c.getD k 0<c.getD i 0) with
   | true =>
    refine aL ⟨.inl ⟨Λ,_,DT.of v⟩,D,_,_,Λ,Λ,v,A,_,more.1,?_,Λ⟩
    rw[show U3 c (Α k) i=Δ from Kx]
    exact more.2
   | false =>
    refine aJ ⟨_,t,?_,Λ⟩
    rw[show U3 c (Α k) i=Ε from Kx]
    exact v
 ·rintro U y ⟨X,t,v,rfl⟩
  have Ln:=fl m.length
  have Z:∀z∈jN m c al p g r m.length,z∈gH á m (p:Int):=λz A=>by
   obtain⟨h1,h2⟩:=ϩ.mp A
   unfold qk at h2
   exact ϩ.mpr ⟨h1,(É _ _▸h2).1⟩
  have Y1:∀us:List Nat,(∀z∈us,z∈jN m c al p g r m.length)->(us=[]->jN m c al p g r m.length=[])->Bu m c al ⟨(p:Int),(g:Int),r,us⟩:=λus=>Ck
  generalize jN m c al p g r m.length=fs at v Ln Z Y1
  refine⟨D,Λ,⟨_,DT.of v⟩,?_⟩
  refine mZ (λk=>d.testBit k) (by rw[Ω];omega) (DT.of v) (λk acc N hk h=>?_) (λB G=>?_)
  ·refine⟨_,_,Λ,Λ,(show (0:Int)<=(k:Int) from Φ _),_,_,Λ,Λ,Λ,_,Λ,?_⟩
   rw[D1]
   cases Y:d.testBit k with
   |true=>rw[Y]at h;exact aL (h)
   |false=>rw[Y]at h;exact aJ h
  have u1:=(DP.refl y).new (o:=.π (ce (fs.filter λk=>d.testBit k))) G
  have J:(ο y B (.π (ce (fs.filter λk=>d.testBit k)))) B=Α (.π (ce (fs.filter λk=>d.testBit k))):=ac
  generalize ο y B (.π (ce (fs.filter λk=>d.testBit k)))=H3 at u1 J⊢
  have RX:=Æ (λk=>d.testBit k) fs
  have K0:∀z∈fs.filter (λk=>d.testBit k),z∈fs:=λz A=>(ϩ.mp A).1
  generalize fs.filter (λk=>d.testBit k)=us at J RX K0
  refine⟨Ϧ _,λI NZ=>?_⟩
  have u2:=u1.new (o:=.π []) NZ
  have Y2:(ο H3 I (.π [])) B=Α (.π (ce us)):=by rw[ag (ah J NZ)];exact J
  have g7:(ο H3 I (.π [])) I=Α (.π (([]:List Int).map V.int)):=ac
  generalize ο H3 I (.π [])=H4 at u2 Y2 g7⊢
  have s4:=t.trans u2
  refine⟨B,I,_,_,Λ,Λ,by rw[yn];exact DT.of Y2,DT.of g7,_,Λ,?_⟩
  by_cases hn:us=[]
  ·rw[Ζ (show iz us=[] by rw[hn];rfl)]
   exact aJ (q D fs H4 s4 R (u2 _ _ v) (À ‹_› ‹_›) Z (Y1 fs (λz A=>A) (λh=>h)))
  ·rw[Η (λz=>hn (by unfold iz at z;exact ı.mp z))]
   exact aL (q B us H4 s4 (t.free G) Y2 (by omega) (λz A=>Z z (K0 z A)) (Y1 us K0 (λh=>Κ h hn)))
noncomputable def zC:List Ç:=oJ (lb (aK pC) 1)
theorem Iz:aw NMd U5 (am pC):=L2.Eu
theorem Y3:ES NMd (am pC) (yF (lb zC 0)) ["_law_lanes_here","_law_place"] [1,6]:=L2.FC
theorem Y4:(["_law_lane","_law_lanes_here","_law_place"]:List Str).Nodup:=by decide +kernel
theorem zX(F:En K "_law_made" "_law_made" pC f fd)(T:eD mg)(mm:mg "_law_mixed"=Α (.ref fm))(km:Ϯ K (.ref fm)=Δ)(bm:Binds K dm ["_law_cell","_law_k"] [])(Gm:DQ P w K mg μ aF 1 fm dm ["_law_cell","_law_k"] lZ)
  (me:mg "_law_entry"=Α (.ref fe)) (ke:Ϯ K (.ref fe)=Δ) (be:Binds K de U4 []) (Ge:DQ P w K mg μ aF 1 fe de U4 tJ):
  DQ P w K mg μ aF 2 f fd U5 wz:=by
 refine F.ok Iz λ_ _ _ s H _ Q E G h=>?_
 obtain⟨l,nu,la,Ed,ps,I,al,n,cl,rfl,hA,JT,OZ,q⟩:=h
 refine⟨_,ae (aB (i:=5) Iz.nd Λ (ύ Λ) (aU ad))
  (ae (aT Ϗ Λ (aO Λ T.range (aa (pv 0) ad)) (ax (i:=6) Iz.nd Λ (Ĥ Λ))
   (ae (aB (i:=7) Iz.nd Λ (ύ Λ) (aI rW (aU (aa b9 ad)) (bv (own:=["_law_lane"]) (capN:=["_law_lanes_here","_law_place"]) (cap:=[1,6]) Y3 Λ (aO Λ T.range (aa (aG aA Λ T.len PySem.boot_len (aa (pv 1) ad)) ad))
    (λC s' H' fp=>⟨ax (i:=0) Y4 Λ (ύ Λ),bY (az bN (aD (show G0 _ (jr K) from DV) (aD (show G0 _ (rS K) from DZ) (pv 1) (pv 0) (λ_ _=>rfl)) ao (λ_ _=>rfl)) (pv 2) (aC _)),pv 0⟩))))
   (aj (aT Ϗ Λ (aO Λ T.range (aa (pv 0) ad)) (ax (i:=8) Iz.nd Λ (ύ Λ))
    (aj (aT Ϗ Λ (aR (pv 7)) (ax (i:=9) Iz.nd Λ (ύ Λ))
     (ae (aB (i:=10) Iz.nd Λ (ύ Λ) (au Gm G Λ mm km bm .nil ar (aa (pv 4) (aa (aG aA Λ T.len PySem.boot_len (aa (pv 5) ad)) ad))))
     (aj (aP (az jE (pv 6) (pv 8) (aC _))
      (ae (aB (i:=11) Iz.nd Λ (ύ Λ) (au Ge G Λ me ke be .nil ar (aa (pv 1) (aa (pv 2) (aa (pv 3) (aa (pv 6) (aa (pv 8) (aa (pv 9) (aa (aI dS (pv 10) ao) ad)))))))))
      (aj (aX (cF plainAttrs_list PySem.F.slot_list_append PySem.F.type_list_append bX (pv 5) (aa (bM (aa (pv 6) (aa (pv 8) (aa (pv 9) (aa (pv 11) ad))))) ad))))) aE)))))))))
  (aj (ay (pv 5)))),?_⟩
 have ET:=Paired.length hA.L
 have FH:=hA.EH
 refine⟨Ϧ _,λD hD=>?_⟩
 have s0:=(DP.refl H).new (o:=.π []) hD
 have g0:(ο H D (.π [])) D=Α (.π []):=ac
 generalize ο H D (.π [])=H0 at s0 g0⊢
 refine⟨_,Λ,by omega,by omega,?_⟩
 rw[Υ]
 refine aV (n:=n) (λi O U=>∃(a4 a5 a6 Z R S:Option V)(A:List V)(y:List Rw),DP H U/\U D=Α (.π A)/\Hi D U A y/\Jw n ps (i* 10000) y/\(∀r∈y,Bu ps I al r)/\(∀p g c,p<i->g<n->p≠g->c∈bC ps p->Kw y p g c)/\O=[Α (.int n),Α (.ref l),Α (.ref nu),Α (.ref la),Α (.int cl),Α (.ref D),a4,a5,a6,Z,R,S])
  ⟨Β,Β,Β,Β,Β,Β,[],[],s0,g0,.nil,⟨gf,(λr G=>by cases G),(λr G=>by cases G),(λr G=>by cases G)⟩,(λr G=>by cases G),(λp g c hp=>Κ hp (Ă _)),Λ⟩ ?_ ?_
 rotate_left
 ·rintro O U ⟨a4,a5,a6,Z,R,S,A,y,s2,g2,hR,hO,hG,hC,rfl⟩
  exact(q D A y U s2 hD g2 hR.rws (hO.up (by omega)) hG hC)
 rintro p O U hpn ⟨a4,a5,a6,Z,R,S,A,y,s2,g2,hR,hO,hG,hC,rfl⟩
 rw[Þ]
 refine⟨by show 1<=ό;decide,λo1 OD=>?_⟩
 have u2:=(DP.refl U).new (o:=.π [.Eh]) OD
 have Y5:(ο U o1 (.π [.Eh])) o1=Α (.π [.Eh]):=ac
 generalize ο U o1 (.π [.Eh])=H4 at u2 Y5⊢
 have s4:=s2.trans u2
 refine⟨l,_,Λ,.inl (DT.of (s4 _ _ hA.l)),_,Λ,by omega,by omega,?_⟩
 rw[Υ,ET]
 refine AG (sel:=Ï) (ps:=ps) (pl:=(p:Int)) (by rw[Ω];omega) (λz acc N pr hpr h=>?_) (λo2 Fy=>?_)
 ·obtain⟨v,hv,u,rfl,gu⟩:=Ei.Nz hA.L hpr
  refine⟨l,_,_,_,Λ,Λ,DT.of (s4 _ _ hA.l),aq hv,u,_,1,_,Λ,Λ,Ec.of (s4 _ _ gu),aq (j:=1) Λ,Λ,_,Λ,?_⟩
  rw[fL]
  cases hb:decide (pr.2=(p:Int)) with
  | true =>
   have GN:=hb
   rw[GN]at h
   exact aL (h)
  | false =>
   have GN:=hb
   rw[GN]at h
   exact aJ h
 have u3:=(DP.refl H4).new (o:=.π (ce (gH Ï ps (p:Int)))) Fy
 have go2:(ο H4 o2 (.π (ce (gH Ï ps (p:Int))))) o2=Α (.π (ce (gH Ï ps (p:Int)))):=ac
 have RY:(ο H4 o2 (.π (ce (gH Ï ps (p:Int))))) o1=Α (.π [.Eh]):=by rw[ag (ah Y5 Fy)];exact Y5
 generalize ο H4 o2 (.π (ce (gH Ï ps (p:Int))))=H5 at u3 go2 RY⊢
 have O9:(gH Ï ps (p:Int)).length<=10:=by
  have:=Æ (λk=>decide (Ï (ps.getD k (0,0))=(p:Int))) (ϋ ps.length)
  rw[ã]at this
  unfold gH
  omega
 refine⟨_,_,_,_,Λ,Λ,RY,go2,by unfold ce;rw[ϊ,Ω];simp only[Â];omega,λC Pa=>?_⟩
 rw[AI]
 have u4:=(DP.refl H5).new (o:=.π ((bC ps p).map cV)) Pa
 have gC:(ο H5 C (.π ((bC ps p).map cV))) C=Α (.π ((bC ps p).map cV)):=ac
 have s25:=u2.trans u3
 have nC:=Ϟ (ah (s25 _ _ g2) Pa)
 generalize ο H5 C (.π ((bC ps p).map cV))=H6 at u4 gC⊢
 have Y6:=s25.trans u4
 refine⟨_,Λ,by omega,by omega,?_⟩
 rw[Υ]
 refine aV (n:=n) (λi O H7=>∃(Z R S K1:Option V)(A:List V)(y:List Rw),DP H H7/\H7 D=Α (.π A)/\H7 C=Α (.π ((bC ps p).map cV))/\Hi D H7 A y/\Jw n ps ((p* 100+i)* 100) y/\(∀r∈y,Bu ps I al r)/\(∀J g c,J<p->g<n->J≠g->c∈bC ps J->Kw y J g c)/\(∀g c,g<i->p≠g->c∈bC ps p->Kw y p g c)/\O=[Α (.int n),Α (.ref l),Α (.ref nu),Α (.ref la),Α (.int cl),Α (.ref D),Α (.int (p:Int)),Α (.ref C),Z,R,S,K1])
  ⟨_,_,_,_,A,y,s2.trans Y6,Y6 _ _ g2,gC,hR.same Y6,hO.up (by omega),hG,hC,(λg c hg=>Κ hg (Ă _)),Λ⟩ ?_ ?_
 rotate_left
 ·rintro O H7 ⟨Z,R,S,K1,A,y,s7,g7,_,Y7,Y8,Y9,YB,YC,rfl⟩
  refine⟨_,_,_,_,_,_,A,y,s7,g7,Y7,Y8.up (by omega),Y9,λJ g c FX hg X M=>?_,Λ⟩
  by_cases z:J=p
  ·subst z;exact YC g c hg X M
  ·exact YB J g c (by omega) hg X M
 rintro i O H7 hi ⟨Z,R,S,K1,A,y,s7,g7,gC7,Y7,Y8,Y9,YB,YC,rfl⟩
 rw[Þ]
 refine⟨C,Λ,⟨_,DT.of gC7⟩,?_⟩
 have HG:((bC ps p).map cV).length=(bC ps p).length:=ϊ ..
 refine bZ (K:=K) (a:=C) (xs:=(bC ps p).map cV) (λj O Hb=>∃(R S K1:Option V)(A:List V)(y:List Rw),DP H Hb/\Hb D=Α (.π A)/\Hb C=Α (.π ((bC ps p).map cV))/\Hi D Hb A y/\Jw n ps ((p* 100+i)* 100+lim ((bC ps p).map yR) j) y/\(∀r∈y,Bu ps I al r)/\(∀J g c,J<p->g<n->J≠g->c∈bC ps J->Kw y J g c)/\(∀g c,g<i->p≠g->c∈bC ps p->Kw y p g c)/\(∀c∈(bC ps p).take j,p≠i->Kw y p i c)/\O=[Α (.int n),Α (.ref l),Α (.ref nu),Α (.ref la),Α (.int cl),Α (.ref D),Α (.int (p:Int)),Α (.ref C),Α (.int (i:Int)),R,S,K1])
  ⟨_,_,_,A,y,s7,g7,gC7,Y7,Y8.up (by omega),Y9,YB,YC,(λc M=>by cases M),Λ⟩ (λj O Hb _ DS=>by obtain⟨_,_,_,_,_,_,_,g,_⟩:=DS;exact DT.of g) ?_ ?_
 rotate_left
 ·rintro O Hb ⟨R,S,K1,A,y,sb,gb,U6,RZ,Pb,U7,U8,U9,UA,rfl⟩
  rw[HG,←ϊ (f:=yR) (as:=bC ps p)]at Pb
  have:=Ao (xs:=(bC ps p).map yR) λx hx=>by
   obtain⟨B,hcc,rfl⟩:=Ö.mp hx
   have:=(ng hcc).1
   omega
  rw[HG,â]at UA
  refine⟨_,_,_,_,A,y,sb,gb,U6,RZ,Pb.up (by omega),U7,U8,λg c hg X M=>?_,Λ⟩
  by_cases z:g=i
  ·subst z;exact UA c M X
  ·exact U9 g c (by omega) X M
 rintro j v O Hb hv ⟨R,S,K1,A,y,sb,gb,U6,RZ,Pb,U7,U8,U9,UA,rfl⟩
 obtain⟨B,hcj,rfl⟩:∃B,(bC ps p)[j]?=Α B/\cV B=v:=by
  rw[Å]at hv
  cases hx:(bC ps p)[j]? with
  |none=>rw[hx]at hv;cases hv
  |some B=>rw[hx]at hv;exact⟨B,Λ,Ϝ hv⟩
 obtain⟨hcl2,Sb⟩:=ng (Ϙ hcj)
 have Sd:((bC ps p).map yR)[j]?=Α (yR B):=by rw[Å,hcj];rfl
 have YD:=CU (sN ps p) Sd
 have hls:=yj Sd
 have Kl:=Paired.length RZ
 have hrm:=Pb.len
 refine⟨D,_,Λ,.inl (DT.of gb),_,_,Λ,by omega,λd hd=>?_⟩
 refine⟨Λ,_,Λ,?_⟩
 rw[fL]
 by_cases YE:(p:Int)=(i:Int)
 ·rw[Ζ YE]
  exact aJ ⟨_,_,_,A,y,sb,gb,U6,RZ,Pb.up (by omega),U7,U8,U9,(λc _ X=>Κ (by omega) X),Λ⟩
 rw[Η YE]
 obtain⟨m,hm⟩:∃m:Nat,d / 64=(m:Int):=⟨(d / 64).toNat,by have:=Int.ediv_nonneg hd (show (0:Int)<=64 by decide);omega⟩
 refine aL ⟨_,_,Λ,Λ,⟨by decide,by decide⟩,?_⟩
 dsimp only
 rw[hm]
 refine⟨l,_,_,_,_,I,_,n,p,i,m,B,Λ,hA.same sb,λk hk=>?_,λY us Hc u5 hWa gW RX K0 hrw=>?_⟩
 ·have:=Sb k hk
  exact È.mp (ϩ.mp this).1
 have nW:=Ϟ (ah gb hWa)
 refine⟨.inl ⟨Λ,_,DT.of (u5 _ _ gb)⟩,by show 4<=ό;decide,λtt K7=>?_⟩
 have u6:=u5.new (o:=.tup [.int (p:Int),.int (i:Int),cV B,.ref Y]) K7
 have gT:(ο Hc tt (.tup [.int (p:Int),.int (i:Int),cV B,.ref Y])) tt=Α (.tup [.int (p:Int),.int (i:Int),cV B,.ref Y]):=ac
 have gWc:(ο Hc tt (.tup [.int (p:Int),.int (i:Int),cV B,.ref Y])) Y=Α (.π (ce us)):=by rw[ag (ah gW K7)];exact gW
 generalize ο Hc tt (.tup [.int (p:Int),.int (i:Int),cV B,.ref Y])=Hf at u6 gT gWc⊢
 have gDf:=u6 _ _ gb
 refine⟨D,A,_,Λ,Λ,gDf,by rw[Ω];omega,?_⟩
 have YF:fM n ps ⟨(p:Int),(i:Int),B,us⟩=Δ:=by
  unfold fM
  have ho:iB n ((p:Int),(i:Int))=Δ:=by
   unfold iB
   simp only[É,decide_eq_true_eq,ö,decide_eq_false_iff_not]
   exact⟨⟨by omega,by omega⟩,⟨by omega,by omega⟩,YE⟩
  rw[ho,ñ]
  have hs:(us.all λz=>decide (z∈gH á ps (p:Int)))=Δ:=by
   rw[Ŏ]
   exact λz hz=>Ζ (K0 z hz)
  dsimp only
  rw[hs,Bool.and_true]
  cases B with
  |none=>rfl
  |some k=>exact Ζ (Sb k Λ)
 have erk:xn ⟨(p:Int),(i:Int),B,us⟩=(p* 100+i)* 100+yR B:=by
  unfold xn
  show(((p:Int)).toNat* 100+((i:Int)).toNat)* 100+yR B=_
  rw[Υ,Υ]
 have hOn:=Pb.snoc (r:=⟨(p:Int),(i:Int),B,us⟩) (by rw[erk];omega) YF (by show us.length<=40;omega)
 refine⟨_,_,_,_,_,λb o e=>by rw[ag (ah e hD)];exact u6 _ _ (sb _ _ e),ac,?_,?_,hOn.up (by rw[erk,hls];omega),λr G=>?_,λJ g c h1 h2 h3 h4=>(U8 J g c h1 h2 h3 h4).app _,λg c h1 h2 h3=>(U9 g c h1 h2 h3).app _,λc M X=>?_,Λ⟩
 ·rw[ag nC];exact u6 _ _ U6
 ·have hRf:=Hi.snoc (r:=⟨(p:Int),(i:Int),B,us⟩) ⟨tt,Y,Λ,⟨gT,gWc⟩,nW⟩ (RZ.same u6)
  exact Hi.off gDf hRf
 ·rcases ϯ.mp G with G|G
  ·exact U7 r G
  ·rw[ϙ.mp G];exact hrw
 ·rw[ä,hcj,î]at M
  rcases ϯ.mp M with M|M
  ·exact(UA c M X).app _
  ·rw[ϙ.mp M]
   exact⟨_,ϫ _ ώ,Λ,Λ,Λ⟩
theorem An(c:H l=Α (.π xs)):∀{a:List V}{b:List (Int×Int)},Ei H a b->Ei (ο H l o) a b:=λd=>by
 induction d with
 |nil=>exact .nil
 |cons f r g=>obtain⟨t,e,q⟩:=f;exact .cons ⟨t,e,by rw[ag (aQ q c (by intro z;cases z))];exact q⟩ g
noncomputable def ue:Scope:=zQ0
theorem Ar(a:Int×Int->Int)(b:List (Int×Int))(c:Int):(gH a b c).length<=b.length:=by
 have:=Æ (λk=>decide (a (b.getD k (0,0))=c)) (ϋ b.length)
 rw[ã]at this
 exact this
abbrev jK:=Hp->Ν->(bJ->Nat)->Prop
inductive dX(J:jK)(vs:List V)(H:Hp)(Q:VK)(E:XK):Prop
 |mk (x:Ν) (wy:bJ->Nat) (r:Rw) (_:vs=[.ref x,.int r.p,.int r.g,cV r.c]) (_:J H x wy) (_:∀H' D,DP H H'->H' D=Β->Q (.ref D) (ο H' D (.π (gy (wy (aN r))))))
structure uI(K:ϧ)(C fw:Ν)(dw:Ý)(J:jK):Prop where
 cl:GK K C
 m:cb K C "ways" fw
 b:Binds K dw ["self","place","goal","came"] []
 inst:∀H x wy,J H x wy->∃dx fs,H x=Α (.ρ C dx fs)/\fs.lookup ("ways":Str)=Β
 EM:∀H H' x wy,J H x wy->DP H H'->J H' x wy
noncomputable def eE(P:Program)(w:Î)(ts:Ts):jK:=λH x wy=>∃(dx de:Ν)(lv:V)(kvs:List fT),H x=Α (.ρ ts.told dx [("land",lv),("entries",.ref de)])/\E4 P w H de kvs/\∀k,(cG kvs k).getD (.int 0)=.int (wy k)/\wy k<2^400
theorem uM(G:DQ P w K mg μ aF 3 f fd ["self","place","goal","came"] (sX P w ts)):DQ P w K mg μ aF 3 f fd ["self","place","goal","came"] (dX (eE P w ts)):=
 G.imp λm H Q E c=>by obtain⟨x,d,r,e,⟨g,h,i,a,j,l,b⟩,q⟩:=c;exact⟨x,g,h,i,a,r,_,e,j,l,(b _).1,(b _).2,q⟩
noncomputable def ca(ps:List (Int×Int))(p:Nat):List (Option Nat):=Β:: (gH Ï ps p).map Α
abbrev Key:=Int×Int×Option Nat
noncomputable def bR(k:Key):bJ:=[Α k.1,Α k.2.1,k.2.2.map λz:Nat=>(z:Int)]
theorem pR(h:bR k=bR l):k=l:=by
 obtain⟨a,b,c⟩:=k
 obtain⟨e,f,d⟩:=l
 simp only[bR,List.cons.injEq,Option.some.injEq,and_true]at h
 obtain⟨rfl,rfl,h⟩:=h
 congr 2
 cases c<;>cases d<;>simp_all<;>exact Ä ‹_›
noncomputable def gZ(wy:bJ->Nat)(p g:Nat):Bool:=!decide (wy [Α (p:Int),Α (g:Int),Β]=0)
noncomputable def b7(wy:bJ->Nat)(p m:Nat):List (Int×Int):=((ϋ m).filter λg=>gZ wy p g).map λg:Nat=>((p:Int),(g:Int))
noncomputable def bH(wy:bJ->Nat)(n m:Nat):List (Int×Int):=(ϋ m).flatMap λp=>b7 wy p n
theorem fX(a:bJ->Nat)(n i:Nat):bH a n (i+1)=bH a n i++b7 a i n:=by
 unfold bH
 rw[ē,OX]
 simp
theorem kP(a:bJ->Nat)(p j:Nat):b7 a p (j+1)=if gZ a p j then b7 a p j++[((p:Int),(j:Int))] else b7 a p j:=by
 unfold b7
 rw[ē,ë]
 cases h:gZ a p j with
 |true=>simp[h]
 |false=>simp[h]
theorem oj(a:bJ->Nat)(p m:Nat):(b7 a p m).length<=m:=by
 unfold b7
 rw[ϊ]
 exact À (Æ _ _) (by rw[ã];exact Ρ _)
theorem dC(a:bJ->Nat)(n:Nat):∀m,(bH a n m).length<=m* n
 |0=>by simp[bH]
 | m+1=>by
  rw[fX,ϗ,succ_mul]
  have:=dC a n m
  have:=oj a m n
  omega
abbrev As:=List (Nat×Option Nat)
noncomputable def addW(l:Option Nat)(a:As)(ws:List Nat):As:=ws.foldl (λa x=>if x∈a.map (·.1) then a else a++[(x,l)]) a
noncomputable def i4(on:Nat->List Nat):Nat->As->Nat->As
 |0,a,_=>a
 | f+1,a,i=>match a[i]? with
  |some x=>i4 on f (addW (Α x.1) a (on x.1)) (i+1)
  |none=>a
structure GR(L:Nat)(a:As):Prop where
 nd:(a.map (·.1)).Nodup
 lt:∀x∈a,x.1<L
theorem dG:∀(n:Nat)(l:List Nat),l.Nodup->(∀x∈l,x<n)->l.length<=n
 | 0,l,_,h=>by
  cases l with
  |nil=>exact Ρ _
  |cons x l=>exact Κ (h x ώ) (Ă _)
 | n+1,l,hn,h=>by
  by_cases b:n∈l
  ·have e:=List.length_erase_of_mem b
   have:=dG n (l.erase n) (hn.erase n) λx a=>by
    have c:=(hn.mem_erase_iff).mp a
    have:=h x c.2
    have:=c.1
    omega
   omega
  ·have:=dG n l hn λx a=>by
    have:=h x a
    have:x≠n:=λz=>b (by rw[←z];exact a)
    omega
   exact ø ‹_›
theorem GR.EH(h:GR L a):a.length<=L:=by
 have:=dG L (a.map (·.1)) h.nd λx b=>by
  obtain⟨y,c,rfl⟩:=Ö.mp b
  exact h.lt y c
 rwa [ϊ]at this
theorem GR.add(h:GR L a)(e:x<L)(f:x∉a.map (·.1)):GR L (a++[(x,l)]) where
 nd:=by
  rw[Ì,kA]
  refine⟨h.nd,by simp,λy b c d=>?_⟩
  have d:c=x:=by simpa using d
  intro z
  rw[z,d]at b
  exact f b
 lt:=λy b=>by
  rcases ϯ.mp b with b|b
  ·exact h.lt y b
  ·rw[ϙ.mp b];exact e
theorem yL(l:Option Nat)(a:As):addW l a []=a:=rfl
theorem n8(l:Option Nat)(a:As)(b:List Nat)(x:Nat):addW l a (b++[x])=if x∈(addW l a b).map (·.1) then addW l a b else addW l a b++[(x,l)]:=by
 unfold addW
 rw[Wa];rfl
theorem kO(h:a[i]?=Β):∀f,i4 on f a i=a
 |0=>rfl
 |f+1=>by unfold i4;rw[h]
theorem jp(h:a[i]?=Α x):i4 on (f+1) a i=i4 on f (addW (Α x.1) a (on x.1)) (i+1):=by
 rw[i4,h]
inductive iO(c:Cs)(C:Ν)(J:jK)(vs:List V)(H:Hp)(Q:VK)(E:XK):Prop
 |mk (x dx lx Ef lt:Ν) (fs:List (Str×V)) (n:Nat) (DX:List V) (ps:List (Int×Int)) (wy:bJ->Nat) (_:vs=[.ref x]) (_:J H x wy) (_:H x=Α (.ρ C dx fs)) (_:fs.lookup ("land":Str)=Α (.ref lx)) (_:cT H c lx Ef lt n DX ps) (_:n<=12) (_:∀(D:Ν)(us:List V)(H':Hp),DP H H'->H D=Β->H' D=Α (.π us)->Ei H' us (bH wy n n)->Q (.ref D) H')
abbrev NSt:List Str:=["table","found","place","goal"]
theorem ll(m:Nat):(!(gy m).isEmpty)= !decide (m=0):=by
 congr 1
 rw[ĝ,List.isEmpty_iff,decide_eq_true_eq]
 unfold gy
 rw[ı]
 constructor
 ·intro h
  have:=Yd.Li (Yd.FI m)
  rw[h]at this
  exact this.symm
 ·rintro rfl;rfl
theorem LI:aw NSt ["table"] (am nY):=L2.Eu
theorem mF(F:En K "starts" "starts" nY f fd)(T:eD mg)(L:kC K c)(W:uI K C fw dw J)(nl:Eb K C "land")(Gw:DQ P w K mg μ aF 3 fw dw ["self","place","goal","came"] (dX J)):
  DQ P w K mg μ aF 4 f fd ["table"] (iO c C J):=by
 refine F.ok LI λ_ _ _ s H _ Q E hr h=>?_
 obtain⟨x,M,lx,Ef,lt,fs,n,DX,ps,a,rfl,hJ,A,hf,hL,hn,q⟩:=h
 refine⟨_,ae (aB (i:=1) LI.nd Λ (ύ Λ) (aU ad))
  (ae (aT Ϗ Λ (aO Λ T.range (aa (ap (ap (pv 0) Λ) Λ) ad)) (ax (i:=2) LI.nd Λ (ύ Λ))
   (aj (aT Ϗ Λ (aO Λ T.range (aa (ap (ap (pv 0) Λ) Λ) ad)) (ax (i:=3) LI.nd Λ (ύ Λ))
    (aj (aP (dE (aH (pv 0) W.cl W.m Gw hr W.b .nil ar (aa (pv 2) (aa (pv 3) (aa b9 ad)))) (λ_=>rfl))
     (aj (aX (cF plainAttrs_list PySem.F.slot_list_append PySem.F.type_list_append bX (pv 1) (aa (bM (aa (pv 2) (aa (pv 3) ad))) ad)))) aE)))))
  (aj (ay (pv 1)))),?_⟩
 obtain⟨Hv,GD,B,F1⟩:=W.inst _ _ _ hJ
 rw[A]at B
 injection B with B
 injection B with _ e1 e2
 subst e1 e2
 refine⟨Ϧ _,λD N=>?_⟩
 have O:=(DP.refl H).new (o:=.π []) N
 refine⟨x,C,M,_,_,Λ,O _ _ A,W.cl,nl,hf,_,_,_,_,_,Λ,O _ _ hL.1,L.cl,L.np,Λ,_,Λ,Φ _,by omega,?_⟩
 rw[Υ]
 refine aV (n:=n) (λi d r=>∃(R g:Option V)(us:List V),DP H r/\r D=Α (.π us)/\Ei r us (bH a n i)/\d=[Α (.ref x),Α (.ref D),R,g])
  ⟨Β,Β,[],O,ac,.nil,Λ⟩ ?_ ?_
 ·rintro i d r hi ⟨R,g,us,y,S,U,rfl⟩
  rw[Þ]
  refine⟨x,C,M,_,_,Λ,y _ _ A,W.cl,nl,hf,_,_,_,_,_,Λ,y _ _ hL.1,L.cl,L.np,Λ,_,Λ,Φ _,by omega,?_⟩
  rw[Υ]
  refine aV (n:=n) (λj d u=>∃(g:Option V)(us:List V),DP H u/\u D=Α (.π us)/\Ei u us (bH a n i++b7 a i j)/\d=[Α (.ref x),Α (.ref D),Α (.int i),g])
   ⟨_,us,y,S,by simpa [b7] using U,Λ⟩ ?_ ?_
  ·rintro j d u hj ⟨g,us,v,l,z,rfl⟩
   rw[Þ]
   refine⟨x,M,_,Λ,v _ _ A,F1,x,a,⟨(i:Int),(j:Int),Β,[]⟩,Λ,W.EM _ _ _ _ hJ v,λX Y GQ Z=>?_⟩
   have p:DP u (ο X Y (.π (gy (a (aN ⟨(i:Int),(j:Int),Β,[]⟩))))):=GQ.new Z
   refine⟨_,.inl ⟨_,DT.of ac,Λ⟩,?_⟩
   rw[ll]
   have hlen:us.length<=200:=by
    have e:=Paired.length z
    rw[ϗ]at e
    have b1:=dC a n i
    have b2:=oj a i j
    have b3:i* n<=12* 12:=OU (by omega) hn
    omega
   cases G:gZ a i j with
   | false =>
    have Mj:(!decide (a (aN ⟨(i:Int),(j:Int),Β,[]⟩)=0))=Ε:=G
    have hR:=p _ _ l
    rw[Mj]
    refine aJ ⟨_,us,v.trans p,hR,?_,Λ⟩
    rw[kP,G]
    exact Ei.same p z
   | true =>
    have Mj:(!decide (a (aN ⟨(i:Int),(j:Int),Β,[]⟩)=0))=Δ:=G
    rw[Mj]
    generalize ο X Y (.π (gy (a (aN ⟨(i:Int),(j:Int),Β,[]⟩))))=H5 at p⊢
    refine aL ⟨.inl ⟨Λ,_,DT.of (p _ _ l)⟩,by show 2<=ό;decide,λt ht=>?_⟩
    have s6:=(DP.refl H5).new (o:=.tup [.int i,.int j]) ht
    have gT:(ο H5 t (.tup [.int i,.int j])) t=Α (.tup [.int i,.int j]):=ac
    have nT:=Ϟ (ah (p _ _ l) ht)
    generalize ο H5 t (.tup [.int i,.int j])=H6 at s6 gT⊢
    have I:=p.trans s6
    refine⟨D,_,_,Λ,Λ,I _ _ l,by rw[Ω];omega,_,_,λb o e=>by rw[ag (ah e N)];exact I _ _ (v _ _ e),ac,?_,Λ⟩
    rw[kP,G,Ι Λ,←Ļ]
    exact Ei.snoc ⟨t,Λ,by rw[ag nT];exact gT⟩ (An (I _ _ l) (Ei.same I z))
  ·rintro d u ⟨g,us,v,l,z,rfl⟩
   refine⟨_,_,_,v,l,?_,Λ⟩
   rw[fX]
   exact z
 ·rintro d r ⟨R,g,us,y,S,U,rfl⟩
  exact(q D us r y N S U)
noncomputable def wl(wy:bJ->Nat)(k:bJ):List Nat:=Yd.GX (wy k) (Ó ((wy k:Nat):Int))
theorem gY(a:bJ->Nat)(k:bJ):gy (a k)=nV (wl a k):=rfl
noncomputable def dU(wy:bJ->Nat)(ps:List (Int×Int))(g l:Nat):List Nat:=if (ps.getD l (0,0)).2=(g:Int) then [] else wl wy [Α (ps.getD l (0,0)).2,Α (g:Int),Α (l:Int)]
noncomputable def bP(wy:bJ->Nat)(g m:Nat):List Nat:=(ϋ m).flatMap λp:Nat=>wl wy [Α (p:Int),Α (g:Int),Β]
theorem l7(a:bJ->Nat)(g m:Nat):bP a g (m+1)=bP a g m++wl a [Α (m:Int),Α (g:Int),Β]:=by
 unfold bP
 rw[ē,OX];simp
structure EB(c:Cs)(C:Ν)(J:jK)(H:Hp)(x lx Ef lt:Ν)(n:Nat)(DX:List V)(ps:List (Int×Int))(wy:bJ->Nat):Prop where
 j:J H x wy
 i:∃dx fs,H x=Α (.ρ C dx fs)/\fs.lookup ("land":Str)=Α (.ref lx)
 l:cT H c lx Ef lt (n:Int) DX ps
 IF:n<=12
 EH:ps.length<=40
 ok:∀k,∀z∈wl wy k,z<ps.length
 nr:∀k,(wl wy k).length<=40
theorem EB.same(W:uI K C fw dw J)(h:EB c C J H x lx Ef lt n DX ps wy)(s:DP H H'):EB c C J H' x lx Ef lt n DX ps wy:=
 ⟨W.EM _ _ _ _ h.j s,let ⟨dx,fs,h1,h2⟩:=h.i;⟨dx,fs,s _ _ h1,h2⟩,⟨s _ _ h.l.1,s _ _ h.l.2.1,Ei.same s h.l.2.2⟩,h.IF,h.EH,h.ok,h.nr⟩
inductive ww(c:Cs)(C:Ν)(J:jK)(vs:List V)(H:Hp)(Q:VK)(E:XK):Prop
 |mk (x lx Ef lt:Ν) (n:Nat) (DX:List V) (ps:List (Int×Int)) (wy:bJ->Nat) (l g:Nat) (_:vs=[.ref x,.int l,.int g]) (_:EB c C J H x lx Ef lt n DX ps wy) (_:l<ps.length) (_:∀(D:Ν)(H':Hp),DP H H'->H D=Β->H' D=Α (.π (nV (dU wy ps g l)))->Q (.ref D) H')
inductive tH(c:Cs)(C:Ν)(J:jK)(vs:List V)(H:Hp)(Q:VK)(E:XK):Prop
 |mk (x lx Ef lt:Ν) (n:Nat) (DX:List V) (ps:List (Int×Int)) (wy:bJ->Nat) (g:Nat) (_:vs=[.ref x,.int g]) (_:EB c C J H x lx Ef lt n DX ps wy) (_:∀(D:Ν)(H':Hp),DP H H'->H D=Β->H' D=Α (.π (nV (bP wy g n)))->Q (.ref D) H')
theorem Bm(F:En K "onward" "onward" Uh f fd)(L:kC K c)(W:uI K C fw dw J)(G:Eb K C "land")(I:DQ P w K mg μ aF 3 fw dw ["self","place","goal","came"] (dX J))
  (M:qT K c fe de) (N:DQ P w K mg μ aF 1 fe de ["self","lane"] (pz c Ï)):DQ P w K mg μ aF 4 f fd ["table","lane","goal"] (ww c C J):=by
 refine F.ok L5 λ_ _ _ s H _ Q E v h=>?_
 obtain⟨x,y,z,lt,n,O,e,R,l,g,rfl,a,S,q⟩:=h
 have T:Ea 1 _:=v.mono (by decide)
 refine⟨_,ae (aB (i:=3) L5.nd Λ (ύ Λ) (aH (ap (pv 0) Λ) L.cl M.m N T M.b .nil ar (aa (pv 1) ad)))
  (aj (ay (cQ (az bN (pv 3) (pv 2) (aC _)) (aU ad) (aH (pv 0) W.cl W.m I v W.b .nil ar (aa (pv 3) (aa (pv 2) (aa (pv 1) ad))))))),?_⟩
 obtain⟨A,fs,r,U⟩:=a.i
 obtain⟨Hv,GD,o,X⟩:=W.inst _ _ _ a.j
 rw[r]at o
 injection o with o
 injection o with _ Y Z
 subst Y Z
 have t:=Μ S
 have JN:e.getD l (0,0)=e[l]:=by rw[Χ,t];rfl
 unfold dU at q
 rw[JN]at q
 generalize e[l]=u at t q
 refine⟨x,C,A,_,_,Λ,r,W.cl,G,U,y,z,_,Λ,a.l.1,Λ,y,z,_,_,O,e,l,u,Λ,a.l,t,Λ,_,Λ,?_⟩
 rw[bK]
 by_cases p:u.2=(g:Int)
 ·rw[Ζ p]
  rw[Ι p]at q
  exact aL ⟨Ϧ _,λD d=>q D _ ((DP.refl H).new d) d ac⟩
 ·rw[Η p]
  rw[Θ p]at q
  exact aJ ⟨x,A,fs,Λ,r,X,x,R,⟨u.2,(g:Int),Α l,[]⟩,Λ,a.j,λH' D B d=>q D _ (B.new d) (B.free d) ac⟩
theorem Oa:aw ["table","goal","found","place"] ["table","goal"] (am rL):=L2.Eu
theorem xM(F:En K "first_lanes" "first_lanes" rL f fd)(T:eD mg)(L:kC K c)(W:uI K C fw dw J)(S:Eb K C "land")(U:DQ P w K mg μ aF 3 fw dw ["self","place","goal","came"] (dX J)):
  DQ P w K mg μ aF 4 f fd ["table","goal"] (tH c C J):=by
 refine F.ok Oa λ_ _ _ s H _ Q E X h=>?_
 obtain⟨x,Y,Z,lt,n,DX,ps,a,g,rfl,d,q⟩:=h
 refine⟨_,ae (aB (i:=2) Oa.nd Λ (ύ Λ) (aU ad))
  (ae (aT Ϗ Λ (aO Λ T.range (aa (ap (ap (pv 0) Λ) Λ) ad)) (ax (i:=3) Oa.nd Λ (ύ Λ))
   (aj (aX (cF plainAttrs_list slot_list_extend type_list_extend dA (pv 2) (aa (aH (pv 0) W.cl W.m U X W.b .nil ar (aa (pv 3) (aa (pv 1) (aa b9 ad)))) ad)))))
  (aj (ay (pv 2)))),?_⟩
 obtain⟨N,fs,y,hf⟩:=d.i
 obtain⟨Hv,GD,t,F1⟩:=W.inst _ _ _ d.j
 rw[y]at t
 injection t with t
 injection t with _ e1 e2
 subst e1 e2
 have hn:=d.IF
 refine⟨Ϧ _,λD z=>?_⟩
 have A:=(DP.refl H).new (o:=.π []) z
 refine⟨x,C,N,_,_,Λ,A _ _ y,W.cl,S,hf,Y,_,Z,_,_,Λ,A _ _ d.l.1,L.cl,L.np,Λ,_,Λ,Φ _,by omega,?_⟩
 rw[Υ]
 refine aV (n:=n) (λi B p=>∃G:Option V,DP H p/\p D=Α (.π (nV (bP a g i)))/\(bP a g i).length<=40* i/\B=[Α (.ref x),Α (.int g),Α (.ref D),G])
  ⟨Β,A,ac,Ϧ _,Λ⟩ ?_ ?_
 ·rintro i B p hi ⟨G,r,u,hl,rfl⟩
  rw[Þ]
  refine⟨.inl ⟨Λ,_,DT.of u⟩,x,N,_,Λ,r _ _ y,F1,x,a,⟨(i:Int),(g:Int),Β,[]⟩,Λ,W.EM _ _ _ _ d.j r,λO v s3 I=>?_⟩
  have hk:aN ⟨(i:Int),(g:Int),Β,[]⟩=[Α (i:Int),Α (g:Int),Β]:=rfl
  rw[hk,gY]
  have M:=s3.new (o:=.π (nV (wl a [Α (i:Int),Α (g:Int),Β]))) I
  have R:(ο O v (.π (nV (wl a [Α (i:Int),Α (g:Int),Β])))) v=Α (.π (nV (wl a [Α (i:Int),Α (g:Int),Β]))):=ac
  generalize ο O v (.π (nV (wl a [Α (i:Int),Α (g:Int),Β])))=H4 at M R⊢
  have hw:=d.nr [Α (i:Int),Α (g:Int),Β]
  refine⟨D,v,_,_,Λ,Λ,M _ _ u,R,by rw[Ω,aW,aW];omega,_,λb o e=>by rw[ag (ah e z)];exact M _ _ (r _ _ e),by rw[ac,l7,lg],by rw[l7,ϗ];omega,Λ⟩
 ·rintro B p ⟨G,r,u,hl,rfl⟩
  exact(q D p r z u)
noncomputable def oV:Option Nat->V
 |some l =>.int (l:Int)
 |none =>.Eh
noncomputable def ak(x:Nat×Option Nat):L2.Key×V:=(Ñ (x.1:Int),oV x.2)
theorem pc(p:Nat):∀a:As,(fU (a.map ak) (Ñ (p:Int))).isSome=decide (p∈a.map (·.1))
 |[]=>rfl
 | x:: a=>by
  have c:=pc p a
  rw[Ϭ]
  by_cases h:x.1=p
  ·rw[iF (show(ak x).1=Ñ (p:Int) by rw[←h];rfl),Ζ (by rw[Ϭ,h];exact ώ)];rfl
  ·rw[iG (λz=>h (by have:=Ñ.inj z;exact Ä ‹_›)),c,Ϭ]
   by_cases b:p∈a.map (·.1)
   ·rw[Ζ b,Ζ (ϟ _ b)]
   ·rw[Η b,Η λz=>(ϥ.mp z).elim (λe=>h e.symm) b]
theorem tQ{a:As}{x:Nat}(h:x∉a.map (·.1)):fD (a.map ak) (Ñ (x:Int)) (oV c)=(a++[(x,c)]).map ak:=by
 have b:fU (a.map ak) (Ñ (x:Int))=Β:=by
  have:=pc x a
  rw[Η h]at this
  exact Option.not_isSome_iff_eq_none.mp (by rw[this];decide)
 rw[xp _ b,Ì];rfl
theorem zw{a:As}{x:Nat}(b:∀y∈a,y.2=Β)(h:x∈a.map (·.1)):fD (a.map ak) (Ñ (x:Int)) .Eh=a.map ak:=by
 unfold fD
 rw[iH,pc,Ζ h,Ι Λ,č]
 refine ų λy c=>?_
 show(if (ak y).1=Ñ (x:Int) then ((ak y).1,V.Eh) else ak y)=ak y
 split
 ·unfold ak;rw[b y c];rfl
 ·rfl
theorem qN:∀(c:List Nat)(a:As),(∀y∈a,y.2=Β)->∀y∈addW Β a c,y.2=Β
 |[],a,h=>h
 | x:: c,a,h=>by
  show ∀y∈addW Β (if x∈a.map (·.1) then a else a++[(x,Β)]) c,y.2=Β
  refine qN c _ ?_
  split
  ·exact h
  ·intro y b
   rcases ϯ.mp b with b|b
   ·exact h y b
   ·rw[ϙ.mp b]
theorem GR.addW:∀(b:List Nat){a:As},GR L a->(∀x∈b,x<L)->GR L (K93.addW l a b)
 |[],a,h,_=>h
 | x:: b,a,h,hw=>by
  show GR L (K93.addW l (if x∈a.map (·.1) then a else a++[(x,l)]) b)
  refine GR.addW b ?_ λy c=>hw y (ϟ _ c)
  split
  ·exact h
  ·exact h.add (hw x ώ) (by assumption)
noncomputable def bT(wy:bJ->Nat)(ps:List (Int×Int))(n g:Nat):As:=i4 (dU wy ps g) ps.length (addW Β [] (bP wy g n)) 0
inductive tN(c:Cs)(C:Ν)(J:jK)(vs:List V)(H:Hp)(Q:VK)(E:XK):Prop
 |mk (x lx Ef lt:Ν) (n:Nat) (DX:List V) (ps:List (Int×Int)) (wy:bJ->Nat) (g:Nat) (_:vs=[.ref x,.int g]) (_:EB c C J H x lx Ef lt n DX ps wy) (_:∀(D:Ν)(H':Hp),DP H H'->H D=Β->GR ps.length (bT wy ps n g)->H' D=Α (.dK ((bT wy ps n g).map ak))->Q (.ref D) H')
abbrev NAh:List Str:=["table","goal","ahead","lane","line","looked_at","way"]
theorem I0:aw NAh ["table","goal"] (am rQ):=L2.Eu
theorem xU(F:En K "lanes_ahead" "lanes_ahead" rQ f fd)(T:eD mg)(W:uI K C fw dw J)
  (mf:mg "first_lanes"=Α (.ref ff)) (kf:Ϯ K (.ref ff)=Δ) (bf:Binds K df ["table","goal"] []) (Gf:DQ P w K mg μ aF 4 ff df ["table","goal"] (tH c C J))
  (mo:mg "onward"=Α (.ref fo)) (ko:Ϯ K (.ref fo)=Δ) (bo:Binds K Ob ["table","lane","goal"] []) (Go:DQ P w K mg μ aF 4 fo Ob ["table","lane","goal"] (ww c C J)):
  DQ P w K mg μ aF 5 f fd ["table","goal"] (tN c C J):=by
 refine F.ok I0 λ_ _ _ s H _ Q E hr h=>?_
 obtain⟨x,lx,Ef,lt,n,DX,d,j,g,rfl,hT,q⟩:=h
 have hu:=yp hr
 have h40:=hT.EH
 refine⟨_,ae (aB (i:=2) I0.nd Λ (ύ Λ) kW)
  (ae (aT Ϗ Λ (aR (au Gf hr Λ mf kf bf .nil ar (aa (pv 0) (aa (pv 1) ad)))) (ax (i:=3) I0.nd Λ (ύ Λ))
   (aj (iV hu (pv 2) (pv 3) b9 Λ)))
  (ae (aB (i:=4) I0.nd Λ (ύ Λ) (bS (lC Λ) Λ T.list PySem.Pv.boot_list (aa (pv 2) ad)))
  (ae (aB (i:=5) I0.nd Λ (ύ Λ) ao)
  (ae (iU Ϗ (az mB (pv 5) (aG aA Λ T.len PySem.boot_len (aa (pv 4) ad)) (aC _))
   (ae (aB (i:=3) I0.nd Λ (ύ Λ) (aD DZ (pv 4) (pv 5) (λ_ _=>rfl)))
   (ae (rT (i:=5) I0.nd Λ (ύ Λ) ao sF)
   (aj (aT Ϗ Λ (aR (au Go hr Λ mo ko bo .nil ar (aa (pv 0) (aa (pv 3) (aa (pv 1) ad))))) (ax (i:=6) I0.nd Λ (ύ Λ))
    (aj (aP (om (m9 hu (pv 6) (pv 2)))
     (ae (iV hu (pv 2) (pv 6) (pv 3) Λ)
     (aj (aX (cF plainAttrs_list PySem.F.slot_list_append PySem.F.type_list_append bX (pv 4) (aa (pv 6) ad))))) aE)))))))
  (aj (ay (pv 2))))))),?_⟩
 refine λr LK=>?_
 have s0:=(DP.refl H).new (o:=.dK []) LK
 have YG:(ο H r (.dK [])) r=Α (.dK ([].map ak)):=ac
 generalize ο H r (.dK [])=H0 at s0 YG⊢
 refine⟨x,_,_,_,n,_,d,j,g,Λ,hT.same W s0,λFl H1 s1 YH gFl=>⟨Fl,Λ,⟨_,DT.of gFl⟩,?_⟩⟩
 have gf1:=s1 _ _ YG
 have nFf:Fl≠r:=Ϟ (ah YG YH)
 have Ln:∀z∈bP j g n,z<d.length:=λz I=>by
  obtain⟨p,_,I⟩:=Č.mp I
  exact hT.ok _ z I
 refine bZ (K:=K) (a:=Fl) (xs:=nV (bP j g n)) (λi B O=>∃a3:Option V,DP H O/\O Fl=Α (.π (nV (bP j g n)))/\O r=Α (.dK ((addW Β [] ((bP j g n).take i)).map ak))/\B=[Α (.ref x),Α (.int g),Α (.ref r),a3,Β,Β,Β])
  ⟨Β,s0.trans s1,gFl,gf1,Λ⟩ (λi B O _ DS=>by obtain⟨_,_,g2,_⟩:=DS;exact DT.of g2) ?_ ?_
 ·rintro i v B O G ⟨a3,s2,g2,U,rfl⟩
  have hi:i<(bP j g n).length:=by have:=(gQ0 G);rw[aW]at this;exact this
  have t:=Μ hi
  have ID:=dH t
  rw[ID]at G
  have G:=Ϝ G
  subst G
  generalize (bP j g n)[i]=l at t
  have hA:GR d.length (addW Β [] ((bP j g n).take i)):=GR.addW _ ⟨by simp,λy L=>by cases L⟩ λz I=>Ln z (Ŧ I)
  have Ij:=hA.EH
  have YI:=qN ((bP j g n).take i) [] λy L=>by cases L
  have Sf:=n8 Β [] ((bP j g n).take i) l
  have KZ:(bP j g n).take (i+1)=(bP j g n).take i++[l]:=by rw[ä,t];rfl
  refine⟨r,_,Λ,HH.k (k:=Ñ (l:Int)) U (by rw[Ω,ϊ];omega),?_⟩
  refine⟨_,λb o e=>by rw[ag (ah e LK)];exact s2 _ _ e,by rw[ag nFf];exact g2,?_,Λ⟩
  rw[ac,KZ,Sf]
  by_cases hm:l∈(addW Β [] ((bP j g n).take i)).map (·.1)
  ·rw[Ι hm,zw YI hm]
  ·rw[Θ hm]
   exact congrArg (λz=>Α (HO.dK z)) (tQ (c:=Β) hm)
 rintro B O ⟨a3,s2,g2,U,rfl⟩
 rw[aW,â]at U
 have hA0:GR d.length (addW Β [] (bP j g n)):=GR.addW _ ⟨by simp,λy L=>by cases L⟩ Ln
 have Sg:bT j d n g=i4 (dU j d g) (d.length - 0) (addW Β [] (bP j g n)) 0:=rfl
 generalize addW Β [] (bP j g n)=R at U hA0 Sg
 refine⟨r,_,Λ,.inl U,λu El=>?_⟩
 have el:(R.map ak).map (λp=>kV p.1)=nV (R.map (·.1)):=by
  unfold nV
  rw[č,č];rfl
 rw[el]
 have s3:=s2.new (o:=.π (nV (R.map (·.1)))) El
 have YJ:H u=Β:=s2.free El
 have gl:(ο O u (.π (nV (R.map (·.1))))) u=Α (.π (nV (R.map (·.1)))):=ac
 have gf3:(ο O u (.π (nV (R.map (·.1))))) r=Α (.dK (R.map ak)):=by rw[ag (ah U El)];exact U
 generalize ο O u (.π (nV (R.map (·.1))))=H3 at s3 gl gf3⊢
 refine⟨λm B S=>∃(a:As)(i:Nat)(b3 M:Option V),m=d.length - i/\GR d.length a/\i<=a.length/\bT j d n g=i4 (dU j d g) (d.length - i) a i/\DP H S/\S r=Α (.dK (a.map ak))/\S u=Α (.π (nV (a.map (·.1))))/\B=[Α (.ref x),Α (.int g),Α (.ref r),b3,Α (.ref u),Α (.int (i:Nat)),M],
  ⟨d.length - 0,R,0,_,_,Λ,hA0,Ϧ _,Sg,s3,gf3,gl,Λ⟩,?_⟩
 rintro m B H4 ⟨a,i,b3,M,rfl,hA,YK,LL,s4,UB,Sh,rfl⟩
 have Ij:=hA.EH
 refine⟨u,_,Λ,.inl (DT.of Sh),_,_,Λ,Λ,_,Λ,?_⟩
 by_cases hi:i<a.length
 rotate_left
 ·have e:i=a.length:=by omega
  subst e
  rw[Η (by rw[aW,ϊ];omega)]
  rw[kO (Ā (Ρ _))]at LL
  exact aJ (q r H4 s4 LK (by rw[LL];exact hA) (by rw[LL];exact UB))
 rw[Ζ (by rw[aW,ϊ];exact ó.mpr ‹_›)]
 have L:=Μ hi
 generalize a[i]=lc at L
 obtain⟨l,lc⟩:=lc
 have hl:l<d.length:=hA.lt _ (Ϙ L)
 have FH:(nV (a.map (·.1)))[i]?=Α (.int (l:Int)):=dH (by rw[Å,L];rfl)
 have MN:bT j d n g=i4 (dU j d g) (d.length - (i+1)) (addW (Α l) a (dU j d g l)) (i+1):=by
  rw[LL,show d.length - i=(d.length - (i+1))+1 by omega,jp L]
 have Nq:∀z∈dU j d g l,z<d.length:=λz I=>by
  unfold dU at I
  split at I
  ·cases I
  ·exact hT.ok _ z I
 refine aL ⟨λσ' S=>∃(X:As)(b3 M:Option V),GR d.length X/\i+1<=X.length/\bT j d n g=i4 (dU j d g) (d.length - (i+1)) X (i+1)/\DP H S/\S r=Α (.dK (X.map ak))/\S u=Α (.π (nV (X.map (·.1))))/\σ'=[Α (.ref x),Α (.int g),Α (.ref r),b3,Α (.ref u),Α (.int ((i:Int)+1)),M],
  λσ' S DS=>by obtain⟨X,b3,M,h1,h2,h3,h4,h5,h6,h7⟩:=DS;exact⟨_,by omega,X,_,_,M,Λ,h1,h2,h3,h4,h5,h6,h7⟩,?_⟩
 refine⟨u,_,_,_,Λ,Λ,DT.of Sh,aq FH,?_⟩
 refine⟨_,_,Λ,Λ,?_⟩
 refine⟨x,lx,Ef,lt,n,DX,d,j,l,g,Λ,hT.same W s4,hl,λOl H5 s5 hOl YL=>⟨Ol,Λ,⟨_,DT.of YL⟩,?_⟩⟩
 have nOf:Ol≠r:=Ϟ (ah UB hOl)
 have nOl:Ol≠u:=Ϟ (ah Sh hOl)
 have nlf:u≠r:=aQ Sh UB (by intro z;cases z)
 generalize dU j d g l=A at YL Nq MN
 refine bZ (K:=K) (a:=Ol) (xs:=nV A) (λm B D=>∃M:Option V,GR d.length (addW (Α l) a (A.take m))/\a.length<=(addW (Α l) a (A.take m)).length/\DP H D/\D Ol=Α (.π (nV A))/\D r=Α (.dK ((addW (Α l) a (A.take m)).map ak))/\D u=Α (.π (nV ((addW (Α l) a (A.take m)).map (·.1))))/\
   B=[Α (.ref x),Α (.int g),Α (.ref r),Α (.int (l:Int)),Α (.ref u),Α (.int ((i:Int)+1)),M])
  ⟨_,hA,Ρ _,s4.trans s5,YL,s5 _ _ UB,s5 _ _ Sh,Λ⟩ (λm B D _ DS=>by obtain⟨_,_,_,_,g6,_⟩:=DS;exact DT.of g6) ?_ ?_
 ·rintro m v B D G ⟨M,Y,Jy,s6,YM,Z,MO,rfl⟩
  have hm:m<A.length:=by have:=(gQ0 G);rw[aW]at this;exact this
  have t:=Μ hm
  have ID:=dH t
  rw[ID]at G
  have G:=Ϝ G
  subst G
  generalize A[m]=y at t
  have hyl:=Nq y (Ϙ t)
  have KZ:A.take (m+1)=A.take m++[y]:=by rw[ä,t];rfl
  have Sf:=n8 (Α l) a (A.take m) y
  generalize TY:addW (Α l) a (A.take m)=N at Y Jy Z MO Sf
  have hf6:=Y.EH
  refine⟨r,_,Λ,FU.k (k:=Ñ (y:Int)) Z,_,Λ,?_⟩
  rw[pc]
  by_cases Jb:y∈N.map (·.1)
  ·rw[Ζ Jb]
   refine aJ ⟨_,?_,?_,s6,YM,?_,?_,Λ⟩<;>rw[KZ,Sf,Ι Jb]
   ·exact Y
   ·exact Jy
   ·exact Z
   ·exact MO
  ·rw[Η Jb]
   refine aL ⟨r,_,Λ,HH.k (k:=Ñ (y:Int)) Z (by rw[Ω,ϊ];omega),?_⟩
   have ep:fD (N.map ak) (Ñ (y:Int)) (V.int (l:Int))=(N++[(y,Α l)]).map ak:=tQ (c:=Α l) Jb
   rw[ep]
   have gO7:(ο D r (.dK ((N++[(y,Α l)]).map ak))) Ol=Α (.π (nV A)):=by rw[ag nOf];exact YM
   have YN:(ο D r (.dK ((N++[(y,Α l)]).map ak))) u=Α (.π (nV (N.map (·.1)))):=by rw[ag nlf];exact MO
   have gf7:(ο D r (.dK ((N++[(y,Α l)]).map ak))) r=Α (.dK ((N++[(y,Α l)]).map ak)):=ac
   have s7:DP H (ο D r (.dK ((N++[(y,Α l)]).map ak))):=λb o e=>by rw[ag (ah e LK)];exact s6 _ _ e
   generalize ο D r (.dK ((N++[(y,Α l)]).map ak))=H7 at gO7 YN gf7 s7⊢
   refine⟨.inl ⟨Λ,_,DT.of YN⟩,u,_,_,Λ,Λ,YN,by rw[Ω,aW,ϊ];omega,?_⟩
   refine⟨_,?_,?_,λb o e=>by rw[ag (ah e YJ)];exact s7 _ _ e,by rw[ag nOl];exact gO7,?_,?_,Λ⟩<;>rw[KZ,Sf,Θ Jb]
   ·exact Y.add hyl Jb
   ·rw[ϗ];omega
   ·rw[ag (Ϟ nlf)];exact gf7
   ·rw[ac,Ì,lg];rfl
 ·rintro B D ⟨M,Y,Jy,s6,YM,Z,MO,rfl⟩
  rw[aW,â]at Y Jy Z MO
  exact⟨_,_,_,Y,by omega,MN,s6,Z,MO,Λ⟩
noncomputable def dY(g:Nat)(S:List Nat)(l:Nat):List Nat:=S.set l (S.getD l 0|||2^g)
noncomputable def yt(wy:bJ->Nat)(ps:List (Int×Int))(n:Nat)(S:List Nat)(g:Nat):List Nat:=((bT wy ps n g).map (·.1)).foldl (dY g) S
noncomputable def cK(wy:bJ->Nat)(ps:List (Int×Int))(n m:Nat):List Nat:=(ϋ m).foldl (yt wy ps n) (Ϛ ps.length 0)
theorem gr(a:bJ->Nat)(b:List (Int×Int))(n m:Nat):cK a b n (m+1)=yt a b n (cK a b n m) m:=by
 unfold cK
 rw[ē,Wa];rfl
theorem p6(g:Nat)(S:List Nat)(l:Nat):(dY g S l).length=S.length:=by unfold dY;rw[Ĵ]
theorem j4(g:Nat):∀(ls S:List Nat),(ls.foldl (dY g) S).length=S.length
 |[],S=>rfl
 |l:: ls,S=>by rw[List.foldl_cons,j4 g ls,p6]
theorem jW(b:bJ->Nat)(a:List (Int×Int))(n:Nat):∀m,(cK b a n m).length=a.length
 |0=>by unfold cK;simp
 |m+1=>by rw[gr];unfold yt;rw[j4,jW b a n m]
theorem zf(b:g<m)(h:∀z∈S,z<2^m)(l:Nat):∀z∈dY g S l,z<2^m:=λz a=>by
 unfold dY at a
 rcases Ll a with a|a
 ·exact h z a
 ·rw[a]
  refine W4 ?_ (PY (by decide) b)
  rw[Χ]
  cases e:S[l]? with
  |none=>exact Mm m
  |some y=>exact h y (Ϙ e)
theorem qj(a:g<m):∀(ls:List Nat){S:List Nat},(∀z∈S,z<2^m)->∀z∈ls.foldl (dY g) S,z<2^m
 |[],S,h=>h
 |l:: ls,S,h=>qj a ls (zf a h l)
theorem sh(a:bJ->Nat)(b:List (Int×Int))(n:Nat):∀m,m<=n->∀z∈cK a b n m,z<2^n
 | 0,_,z,hz=>by
  unfold cK at hz
  rw[List.range_zero,List.foldl_nil]at hz
  rw[Ū hz];exact Mm n
 | m+1,h,z,hz=>by
  rw[gr]at hz
  exact qj (‹_›) _ (sh a b n m (ê ‹_›)) z hz
inductive Bc(c:Cs)(C:Ν)(J:jK)(vs:List V)(H:Hp)(Q:VK)(E:XK):Prop
 |mk (x lx Ef lt:Ν) (n:Nat) (DX:List V) (ps:List (Int×Int)) (wy:bJ->Nat) (_:vs=[.ref x]) (_:EB c C J H x lx Ef lt n DX ps wy) (_:∀(D:Ν)(H':Hp),DP H H'->H D=Β->H' D=Α (.tup (nV (cK wy ps n n)))->Q (.ref D) H')
abbrev NMt:List Str:=["table","sets","goal","lane"]
theorem LM:aw NMt ["table"] (am wY):=L2.Eu
theorem YO:ES NMt (am wY) (DE ((aK wY).getD 0 (.Pass ⟨0,0,0,0⟩))) [] []:=L2.FC
theorem YQ:(["lane"]:List Str).Nodup:=by decide +kernel
theorem CC(F:En K "met" "met" wY f fd)(T:eD mg)(L:kC K c)(W:uI K C fw dw J)(nl:Eb K C "land")
  (mh:mg "lanes_ahead"=Α (.ref fh)) (kh:Ϯ K (.ref fh)=Δ) (bh:Binds K dh ["table","goal"] []) (Gh:DQ P w K mg μ aF 5 fh dh ["table","goal"] (tN c C J)):
  DQ P w K mg μ aF 6 f fd ["table"] (Bc c C J):=by
 refine F.ok LM λ_ _ _ s H _ Q E hr h=>?_
 obtain⟨x,lx,Ef,lt,n,G,d,m,rfl,u,q⟩:=h
 have h40:=u.EH
 have hn:=u.IF
 refine⟨_,ae (dF (i:=1) (own:=["lane"]) (capN:=[]) (cap:=[]) YO Λ LM.nd Λ Λ (js (ap (ap (pv 0) Λ) Λ))
   (λC s' H' fp=>⟨ax (i:=0) YQ Λ (ύ Λ),c4,ao⟩))
  (ae (aT Ϗ Λ (aO Λ T.range (aa (ap (ap (pv 0) Λ) Λ) ad)) (ax (i:=2) LM.nd Λ (ύ Λ))
   (aj (aT Ϗ Λ (zA (au Gh hr Λ mh kh bh .nil ar (aa (pv 0) (aa (pv 2) ad)))) (ax (i:=3) LM.nd Λ (ύ Λ))
    (aj (gi (aI x8 (aD DZ (pv 1) (pv 3) (λ_ _=>rfl)) (aI ou ao (pv 2))) (jt (pv 1) (pv 3) eK))))))
  (aj (ay (bS cC Λ T.tuple PySem.Pv.boot_tuple (aa (pv 1) ad))))),?_⟩
 obtain⟨dx,fs,hx,hf⟩:=u.i
 have UC:=Paired.length u.l.2.2
 refine⟨x,C,_,_,_,Λ,hx,W.cl,nl,hf,_,_,_,_,_,Λ,u.l.1,L.cl,L.nl,Λ,_,Λ,⟨_,Ec.of u.l.2.1⟩,bQ G.length (by rw[Ω];omega) (λi acc v=>v=H/\acc=nV (Ϛ i 0)) ⟨Λ,Λ⟩ (λi acc v h=>by rw[h.2,aW,õ];exact Ρ _) ?_ ?_⟩
 ·rintro i acc v hi ⟨rfl,rfl⟩
  refine⟨⟨G,G[i],Ec.of u.l.2.1,Μ hi⟩,λy H5 hy=>?_⟩
  obtain⟨rfl,_⟩:=hy
  refine⟨Λ,?_⟩
  rw[ph,lg];rfl
 rintro acc v ⟨rfl,rfl⟩
 refine⟨⟨G,Ec.of u.l.2.1,Ρ _⟩,λr O=>?_⟩
 rw[UC]
 have Y:=(DP.refl v).new (o:=.π (nV (Ϛ d.length 0))) O
 have g1:(ο v r (.π (nV (Ϛ d.length 0)))) r=Α (.π (nV (cK m d n 0))):=ac
 generalize ο v r (.π (nV (Ϛ d.length 0)))=H1 at Y g1⊢
 refine⟨x,C,_,_,_,Λ,Y _ _ hx,W.cl,nl,hf,_,_,_,_,_,Λ,Y _ _ u.l.1,L.cl,L.np,Λ,_,Λ,Φ _,by omega,?_⟩
 rw[Υ]
 refine aV (n:=n) (λg A R=>∃a2 D:Option V,DP v R/\R r=Α (.π (nV (cK m d n g)))/\A=[Α (.ref x),Α (.ref r),a2,D])
  ⟨Β,Β,Y,g1,Λ⟩ ?_ ?_
 ·rintro g A R hg ⟨a2,D,U,Z,rfl⟩
  rw[Þ]
  refine⟨x,_,_,_,n,G,d,m,g,Λ,u.same W U,λB H3 s3 LK hA gfa=>⟨B,_,Λ,gfa,λI=>?_⟩⟩
  have X:(ο H3 B (.FZ I (.dK ((bT m d n g).map ak)))) B=Α (.FZ I (.dK ((bT m d n g).map ak))):=ac
  have s5:DP R (ο H3 B (.FZ I (.dK ((bT m d n g).map ak)))):=λb o e=>by rw[ag (ah e LK)];exact s3 _ _ e
  generalize ο H3 B (.FZ I (.dK ((bT m d n g).map ak)))=H5 at X s5⊢
  have nfS:=Ϟ (ah Z LK)
  refine yw (a:=B) (o:=I) (kvs:=(bT m d n g).map ak) (λj A M=>∃D:Option V,DP v M/\M r=Α (.π (nV ((((bT m d n g).map (·.1)).take j).foldl (dY g) (cK m d n g))))/\M B=Α (.FZ I (.dK ((bT m d n g).map ak)))/\A=[Α (.ref x),Α (.ref r),Α (.int (g:Int)),D])
   ⟨_,U.trans s5,s5 _ _ Z,X,Λ⟩ (λj A M _ DS=>by obtain⟨_,_,_,g6,_⟩:=DS;exact g6) ?_ ?_
  ·rintro j k A M hk ⟨D,s6,N,g6,rfl⟩
   have hj:j<(bT m d n g).length:=by have:=(gQ0 hk);simpa using this
   have z:=Μ hj
   generalize (bT m d n g)[j]=pd at z
   obtain⟨l,lc⟩:=pd
   have ek:k=Ñ (l:Int):=by
    rw[Å,Å,z]at hk
    exact(Ϝ hk).symm
   subst ek
   rw[show kV (Ñ (l:Int))=V.int (l:Int) from Λ]
   have hl:=hA.lt _ (Ϙ z)
   have hjm:((bT m d n g).map (·.1))[j]?=Α l:=by rw[Å,z];rfl
   have KZ:(((bT m d n g).map (·.1)).take (j+1)).foldl (dY g) (cK m d n g)=dY g ((((bT m d n g).map (·.1)).take j).foldl (dY g) (cK m d n g)) l:=by
    rw[ä,hjm,Wa];rfl
   have hSl:((((bT m d n g).map (·.1)).take j).foldl (dY g) (cK m d n g)).length=d.length:=by rw[j4,jW]
   rw[KZ]
   generalize (((bT m d n g).map (·.1)).take j).foldl (dY g) (cK m d n g)=S at N hSl
   refine⟨r,_,_,_,Λ,Λ,DT.of N,aq (iW (p:=l) (by omega)),_,_,Λ,Λ,⟨(show (0:Int)<=(g:Int) from Φ _),(show (g:Int)<=1000000 by omega),(by decide)⟩,_,_,Λ,Λ,r,_,_,l,Λ,Λ,N,fK (by rw[aW];omega),?_⟩
   have e:Ť ((S.getD l 0:Nat):Int) (1* 2^(g:Int).toNat)=((S.getD l 0|||2^g:Nat):Int):=by
    rw[Υ,one_mul,show (2:Int)^g=((2^g:Nat):Int) by rw[et];rfl,Yd.FP]
   dsimp only
   rw[e,sg]
   exact⟨_,λb o e=>by rw[ag (ah e O)];exact s6 _ _ e,ac,by rw[ag nfS];exact g6,Λ⟩
  ·rintro A M ⟨D,s6,N,g6,rfl⟩
   refine⟨_,_,s6,?_,Λ⟩
   rw[ec (by rw[ϊ,ϊ];exact Ρ _)]at N
   rw[gr];exact N
 ·rintro A R ⟨a2,D,U,Z,rfl⟩
  refine⟨r,_,Λ,.inl ⟨DT.of Z,λt ht=>q t _ (U.new ht) (U.free ht) ac⟩⟩
theorem j9(l:Option Nat)(a:As)(x:Nat)(b:List Nat):addW l a (x:: b)=addW l (if x∈a.map (·.1) then a else a++[(x,l)]) b:=rfl
theorem jj(l:Option Nat):∀(b:List Nat)(a:As),∃r,addW l a b=a++r
 |[],a=>⟨[],by rw[yL,ĕ]⟩
 | x:: b,a=>by
  rw[j9]
  split
  ·exact jj l b a
  ·obtain⟨r,e⟩:=jj l b (a++[(x,l)])
   exact⟨_,by rw[e,Ļ]⟩
theorem lF(h:z∈a.map (·.1)):z∈(addW l a ws).map (·.1):=by
 obtain⟨r,e⟩:=jj l ws a
 rw[e,Ì]
 exact Í _ h
theorem lG(l:Option Nat):∀(b:List Nat)(a:As)(x:Nat),x∈b->x∈(addW l a b).map (·.1)
 | y:: b,a,x,h=>by
  rw[j9]
  rcases ϥ.mp h with h|h
  ·subst h
   refine lF ?_
   split
   ·assumption
   ·rw[Ì]
    exact ϫ _ (by simp)
  ·exact lG l b _ x h
theorem jC(m:∀x,∀z∈on x,z<L):∀(f:Nat)(a:As)(i:Nat),GR L a->i<=a.length->L<=f+i->(∀j y,j<i->a[j]?=Α y->∀z∈on y.1,z∈a.map (·.1))->
  (∀y∈i4 on f a i,∀z∈on y.1,z∈(i4 on f a i).map (·.1))/\∀z∈a.map (·.1),z∈(i4 on f a i).map (·.1)
 | 0,a,i,ok,hi,hf,inv=>by
  have:=ok.EH
  refine⟨λy c z b=>?_,λz b=>b⟩
  obtain⟨j,l,e⟩:=ĵ (show y∈a from c)
  exact inv j y (by omega) (by rw[Μ l,e]) z b
 | f+1,a,i,ok,hi,hf,inv=>by
  cases h:a[i]? with
  | none =>
   rw[kO h]
   have s:=List.getElem?_eq_none_iff.mp h
   refine⟨λy c z b=>?_,λz b=>b⟩
   obtain⟨j,l,e⟩:=ĵ c
   exact inv j y (ϛ ‹_› ‹_›) (by rw[Μ l,e]) z b
  | some x =>
   rw[jp h]
   have t:=(gQ0 h)
   obtain⟨r,n⟩:=jj (Α x.1) (on x.1) a
   have d:i+1<=(addW (Α x.1) a (on x.1)).length:=by rw[n,ϗ];omega
   obtain⟨p,q⟩:=jC m f (addW (Α x.1) a (on x.1)) (i+1) (GR.addW (on x.1) ok (m x.1)) d (by omega) (λj y l c z b=>by
    have g:a[j]?=Α y:=by
     rw[n,Ϫ (ϛ ‹_› ‹_›)]at c
     exact c
    rcases Ě j i with o|o
    ·exact lF (inv j y o g z b)
    ·have:j=i:=by omega
     subst this
     rw[h]at g
     injection g with g
     subst g
     exact lG _ _ _ z b)
   exact⟨p,λz b=>q z (lF b)⟩
def qR(wy:bJ->Nat)(ps:List (Int×Int))(n g z:Nat):Prop:=z∈(bT wy ps n g).map (·.1)
theorem x9(h:∀k,∀z∈wl wy k,z<ps.length)(g x:Nat):∀z∈dU wy ps g x,z<ps.length:=by
 intro z a
 unfold dU at a
 split at a
 ·cases a
 ·exact h _ z a
theorem ji(h:∀k,∀z∈wl wy k,z<ps.length)(n g:Nat):
  (∀y∈bT wy ps n g,∀z∈dU wy ps g y.1,z∈(bT wy ps n g).map (·.1))/\∀z∈bP wy g n,z∈(bT wy ps n g).map (·.1):=by
 have b:∀z∈bP wy g n,z<ps.length:=λz a=>by
  obtain⟨p,_,c⟩:=Č.mp a
  exact h _ z c
 have ok:GR ps.length (addW Β [] (bP wy g n)):=GR.addW _ ⟨ĺ,λx d=>by cases d⟩ b
 obtain⟨e,f⟩:=jC (x9 h g) ps.length (addW Β [] (bP wy g n)) 0 ok (Ϧ _) (Ρ _) (λj y i=>Κ i (Ă _))
 exact⟨e,λz a=>f z (lG _ _ _ z a)⟩
theorem vw(h:∀k,∀z∈wl wy k,z<ps.length){n g p z:Nat}(a:p<n)(b:z∈wl wy [Α (p:Int),Α (g:Int),Β]):qR wy ps n g z:=
 (ji h n g).2 z (Č.mpr ⟨p,È.mpr a,b⟩)
theorem vW(h:∀k,∀z∈wl wy k,z<ps.length)(a:qR wy ps n g l)(b:z∈dU wy ps g l):qR wy ps n g z:=by
 obtain⟨y,c,rfl⟩:=Ö.mp a
 exact(ji h n g).1 y c z b
theorem uO(h:(S.getD l 0).testBit b=Δ):((dY g S l').getD l 0).testBit b=Δ:=by
 unfold dY
 rw[Χ,ņ]
 by_cases e:l'=l
 ·subst e
  rw[Ι Λ]
  split
  ·rw[vr,A4,h];rfl
  ·rename_i hl
   rw[Χ,Ā (æ ‹_›)]at h
   rw[ŭ]at h⊢
   exact h
 ·rw[Θ e,←Χ]
  exact h
theorem i9:∀(ls:List Nat){S:List Nat},(S.getD l 0).testBit b=Δ->((ls.foldl (dY g) S).getD l 0).testBit b=Δ
 |[],_,h=>h
 |_:: ls,_,h=>i9 ls (uO h)
theorem mS:∀(ls:List Nat){S:List Nat},l∈ls->l<S.length->((ls.foldl (dY g) S).getD l 0).testBit g=Δ
 | x:: ls,S,h,hl=>by
  rw[List.foldl_cons]
  rcases ϥ.mp h with h|h
  ·subst h
   refine i9 ls ?_
   unfold dY
   rw[Χ,ņ,Ι Λ,Ι hl,vr,A4,nF]
   simp
  ·exact mS ls h (by rw[p6];exact hl)
theorem i6:∀{m:Nat},g<m->l<ps.length->qR wy ps n g l->((cK wy ps n m).getD l 0).testBit g=Δ
 | m+1,hg,hl,h=>by
  rw[gr]
  rcases Ě g m with a|a
  ·exact i9 _ (i6 a hl h)
  ·have:g=m:=by omega
   subst this
   exact mS _ h (by rw[jW];exact hl)
end K93
namespace L2
noncomputable def nk(ks:List (Nat×V)):List (Key×V):=ks.map λx=>((Ñ (x.1:Int):Key),x.2)
theorem Ai{l:Nat}(h:l∉ks.map (·.1)):fU (nk ks) (Ñ (l:Int))=Β:=by
 induction ks with
 |nil=>rfl
 | cons y ks a =>
  rw[Ϭ,ϥ,not_or]at h
  show(List.find? _ (((Ñ (y.1:Int):Key),y.2):: nk ks)).map _=_
  rw[Ĕ,show(decide ((Ñ (y.1:Int):Key)=Ñ (l:Int)))=Ε from Η (λz=>h.1 (by injection z with z;omega))]
  exact a h.2
theorem xY(a:(ks.map (·.1)).Nodup){l:Nat}(h:(l,v)∈ks):fU (nk ks) (Ñ (l:Int))=Α v:=by
 induction ks with
 |nil=>cases h
 | cons y ks b =>
  rw[Ϭ,Ć]at a
  show(List.find? _ (((Ñ (y.1:Int):Key),y.2):: nk ks)).map _=_
  rcases ϥ.mp h with e|h
  ·subst e
   rw[Ĕ,show(decide ((Ñ (l:Int):Key)=Ñ (l:Int)))=Δ from Ζ Λ]
   rfl
  ·have c:y.1≠l:=λz=>a.1 (by rw[z];exact Ö.mpr ⟨(l,v),h,Λ⟩)
   rw[Ĕ,show(decide ((Ñ (y.1:Int):Key)=Ñ (l:Int)))=Ε from Η (λz=>c (by injection z with z;exact Ä ‹_›))]
   exact b a.2 h
theorem rZ{l:Nat}(h:l∉ks.map (·.1)):fD (nk ks) (Ñ (l:Int)) v=nk (ks++[(l,v)]):=by
 have e:((nk ks).any λa=>decide (a.1=(Ñ (l:Int):Key)))=Ε:=by
  rw[n7]
  intro x b c
  obtain⟨y,d,rfl⟩:=Ö.mp b
  have z:=of_decide_eq_true c
  injection z with z
  exact h (Ö.mpr ⟨y,d,Ä ‹_›⟩)
 unfold fD
 rw[e,Θ (by decide)]
 unfold nk
 rw[Ì]
 rfl
theorem sf(a:List (Nat×V)):(nk a).length=a.length:=by unfold nk;rw[ϊ]
end L2
namespace K93
open PySem L2
variable {P:Program}{w:Î}{K:ϧ}{mg:Str->Option Τ}{μ:Ü}
section
variable {on:Nat->List Nat}{lf fin:Nat->Bool}{L:Nat}
noncomputable def jh(on:Nat->List Nat)(lf fin:Nat->Bool):Nat->Nat->Bool
 |0,_=>Ε
 |k+1,l=>lf l&& (fin l||(on l).any (jh on lf fin k))
theorem E3:jh on lf fin (k+1) l=Δ↔lf l=Δ/\(fin l=Δ∨∃z∈on l,jh on lf fin k z=Δ):=by
 show(lf l&& (fin l||(on l).any (jh on lf fin k)))=Δ↔_
 rw[É,ļ,ō]
theorem lE:∀{k l:Nat},jh on lf fin k l=Δ->jh on lf fin (k+1) l=Δ
 |0,_,h=>by cases h
 | k+1,l,h=>by
  obtain⟨a,b⟩:=E3.mp h
  refine E3.mpr ⟨a,b.imp id λc=>by obtain⟨z,d,e⟩:=c;exact⟨z,d,lE e⟩⟩
theorem sQ(h:jh on lf fin k l=Δ):∀m,jh on lf fin (k+m) l=Δ
 |0=>h
 |m+1=>lE (sQ h m)
theorem qK(a:∀l,∀z∈on l,z<L)(h:∀l,l<L->jh on lf fin (k+1) l=Δ->jh on lf fin k l=Δ):∀m l,jh on lf fin (k+1+m) l=Δ->jh on lf fin (k+1) l=Δ
 |0,_,hl=>hl
 | m+1,l,hl=>by
  obtain⟨b,c⟩:=E3.mp hl
  refine E3.mpr ⟨b,c.imp id fun⟨z,hz,h3⟩=>⟨z,hz,?_⟩⟩
  exact h z (a l z hz) (qK a h m z h3)
theorem oM:∀{l:List Nat}{x:Nat},(∀y,p y=Δ->q y=Δ)->x∈l->q x=Δ->p x=Ε->(l.filter p).length<(l.filter q).length:=by
 have le:∀(l:List Nat),(∀y,p y=Δ->q y=Δ)->(l.filter p).length<=(l.filter q).length:=λl h=>by
  induction l with
  |nil=>exact Ρ _
  | cons a l b =>
   rw[Ķ,Ķ]
   cases d:p a with
   |true=>rw[h a d,Ι Λ,Ι Λ];exact V8 b
   | false =>
    rw[Θ (by decide)]
    split
    ·exact ø b
    ·exact b
 intro l x h c f d
 induction l with
 |nil=>cases c
 | cons a l b =>
  rw[Ķ,Ķ]
  rcases ϥ.mp c with e|c
  ·subst e
   rw[d,f,Θ (by decide),Ι Λ]
   exact Ð (le l h)
  ·have:=b c
   cases g:p a with
   |true=>rw[h a g,Ι Λ,Ι Λ];exact Nat.succ_lt_succ this
   | false =>
    rw[Θ (by decide)]
    split
    ·exact ĥ this
    ·exact this
theorem qL(a:∀j,j<=L->∃l,l<L/\jh on lf fin (j+1) l=Δ/\jh on lf fin j l=Ε):∀k,k<=L+1->k<=((ϋ L).filter (jh on lf fin k)).length
 |0,_=>Ϧ _
 | k+1,h=>by
  have f:=qL a k (ê ‹_›)
  obtain⟨l,b,c,d⟩:=a k (Ů ‹_›)
  have:=oM (p:=jh on lf fin k) (q:=jh on lf fin (k+1)) (λy e=>lE e) (È.mpr b) c d
  exact Nat.lt_of_le_of_lt ‹_› ‹_›
theorem pb(g:∀l,∀z∈on l,z<L)(h:jh on lf fin k l=Δ):jh on lf fin (L+1) l=Δ:=by
 by_cases a:∃j,j<=L/\∀l,l<L->jh on lf fin (j+1) l=Δ->jh on lf fin j l=Δ
 ·obtain⟨j,f,a⟩:=a
  have b:jh on lf fin (j+1) l=Δ:=by
   rcases Ě k (j+1) with c|c
   ·obtain⟨m,d⟩:=Nat.exists_eq_add_of_lt c
    rw[d,Nat.add_assoc]
    exact sQ h (m+1)
   ·obtain⟨m,rfl⟩:=Nv c
    exact qK g a m l h
  obtain⟨m,d⟩:=Nv (show j+1<=L+1 from Ð ‹_›)
  rw[d]
  exact sQ b m
 ·exfalso
  have i:∀j,j<=L->∃l,l<L/\jh on lf fin (j+1) l=Δ/\jh on lf fin j l=Ε:=λj f=>by
   refine Ħ λz=>a ⟨j,f,λl n b=>?_⟩
   cases e:jh on lf fin j l with
   |true=>rfl
   |false=>exact Κ ⟨l,n,b,e⟩ z
  have b:=qL i (L+1) (Ρ _)
  have e:=Æ (jh on lf fin (L+1)) (ϋ L)
  rw[ã]at e
  omega
theorem yJ{S:Nat->Prop}(a:∀l,l<L->lf l=Δ->(fin l=Δ∨∃z∈on l,S z)->S l)(b:∀l,∀z∈on l,z<L):∀{k l:Nat},l<L->jh on lf fin k l=Δ->S l
 |0,_,_,h=>by cases h
 | k+1,l,hl,h=>by
  obtain⟨d,e⟩:=E3.mp h
  exact a l hl d (e.imp id λf=>by obtain⟨z,c,g⟩:=f;exact⟨z,c,yJ a b (b l z c) g⟩)
end
noncomputable def vg(out:Nat)(l:Nat):Bool:=!out.testBit l
noncomputable def dN(ps:List (Int×Int))(g l:Nat):Bool:=decide ((ps.getD l (0,0)).2=(g:Int))
noncomputable def kB(wy:bJ->Nat)(ps:List (Int×Int))(out g l:Nat):Bool:=jh (dU wy ps g) (vg out) (dN ps g) (ps.length+1) l
noncomputable def nH(a:List Nat):List (Nat×V):=a.map λl=>(l,V.bl Δ)
theorem iI(a:List Nat):(nH a).map (·.1)=a:=by unfold nH;rw[č];exact map_id _
theorem sS(a b:List Nat):nH (a++b)=nH a++nH b:=by unfold nH;rw[Ì]
theorem vO(a:List Nat)(b:a.Nodup)(l:Nat):(fU (nk (nH a)) (Ñ (l:Int))).isSome=decide (l∈a):=by
 by_cases h:l∈a
 ·rw[xY (ks:=nH a) (l:=l) (v:=.bl Δ) (by rw[iI];exact b) (Ö.mpr ⟨l,h,Λ⟩),Ζ h];rfl
 ·rw[Ai (ks:=nH a) (by rw[iI];exact h),Η h];rfl
inductive p0(c:Cs)(C:Ν)(J:jK)(vs:List V)(H:Hp)(Q:VK)(E:XK):Prop
 |mk (x lx Ef lt:Ν) (n:Nat) (DX:List V) (ps:List (Int×Int)) (wy:bJ->Nat) (out g:Nat) (_:vs=[.ref x,.int out,.int g]) (_:EB c C J H x lx Ef lt n DX ps wy) (_:∀(D:Ν)(a:List Nat)(H':Hp),DP H H'->H D=Β->H' D=Α (.dK (nk (nH a)))->a.Nodup->(∀l,l∈a↔l<ps.length/\kB wy ps out g l=Δ)->Q (.ref D) H')
abbrev AR:List Str:=["table","out","goal","land","left","after","lane","line","alive","looked_at","found"]
noncomputable def DD(s:Ç):Scope:=match s with
 |.Assign _ (.ListComp _ _ sc _) _=>sc
 |_=>zQ0
noncomputable def B1(s:Ç):List Ç:=match s with
 |.While _ b _ _=>b
 |_=>[]
abbrev al(i:Nat):Ç:=(aK fv).getD i (.Pass ⟨0,0,0,0⟩)
noncomputable def iY(L out:Nat):List Nat:=(ϋ L).filter (vg out)
theorem uo(L out:Nat):(iY L out).Nodup:=þ _ List.nodup_range
theorem IA:l∈iY L out↔l<L/\vg out l=Δ:=by unfold iY;rw[ϩ,È]
theorem lB(p:Nat->Bool)(l:us.length<=100000)(d:H a=Α (.π (nV us)))
  (f:∀(x:Nat)(acc:List V)(N:List V->Hp->Prop),x∈us->N (if p x then acc++[.int (x:Int)] else acc) H->g (.int (x:Int)) σ0 H λc m=>tt c m λb i=>if b=Δ then te c i λy n=>N (acc++[y]) n else N acc i)
  (j:∀D,H D=Β->Q (.ref D) (ο H D (.π (nV (us.filter p))))):dM (vJ K a) g tt te σ0 Q H:=by
 refine gK (K:=K) (a:=a) (xs:=nV us) (λv=>match v with|.int z=>p z.toNat|_=>Ε) (λv=>v) (by rw[Ω,aW];omega) (DT.of d) (λv acc N o h=>?_) λD q=>?_
 ·obtain⟨x,r,rfl⟩:=jz o
  exact f x acc N r h
 ·have e:((nV us).filter (λv=>match v with|.int z=>p z.toNat|_=>Ε)).map (λv=>v)=nV (us.filter p):=by
   rw[List.map_id']
   clear l d f j
   induction us with
   |nil=>rfl
   | cons x us s =>
    show List.filter _ (V.int (x:Int):: nV us)=_
    rw[Ķ,Ķ,s]
    show(if p ((x:Int)).toNat=Δ then _ else _)=_
    rw[Υ]
    cases p x<;>rfl
  rw[e]
  exact j D q
theorem Sj(x:Nat)(us:List Nat):Bo (.int (x:Int)) (nV us)=decide (x∈us):=by
 rw[show nV us=(iz us).map V.int from o0 us,kd]
 by_cases h:x∈us
 ·rw[Ζ h,Ζ (ER.mpr ⟨x,h,Λ⟩)]
 ·rw[Η h,Η (λz=>by
   obtain⟨y,a,e⟩:=ER.mp z
   have:y=x:=Ä ‹_›
   exact h (this▸a))]
theorem Ay(us:List Nat):(nV us).all io=Δ:=by rw[show nV us=(iz us).map V.int from o0 us];exact hZ _
theorem Fi:aw AR ["table","out","goal"] (am fv):=L2.Eu
theorem YR:ES AR (am fv) (DD (al 1)) ["out"] [1]:=L2.FC
theorem YT:ES AR (am fv) (DD (al 4)) ["land","goal"] [3,2]:=L2.FC
theorem YU:ES AR (am fv) (DD ((B1 (al 8)).getD 0 (.Pass ⟨0,0,0,0⟩))) ["alive","line","looked_at","after"] [8,7,9,5]:=L2.FC
theorem YV:(["lane","out"]:List Str).Nodup:=by decide +kernel
theorem YW:(["lane","land","goal"]:List Str).Nodup:=by decide +kernel
theorem YX:(["lane","alive","line","looked_at","after"]:List Str).Nodup:=by decide +kernel
theorem vb(F:En K "lanes_alive" "lanes_alive" fv f fd)(T:eD mg)(L:kC K c)(W:uI K C fw dw J)(nl:Eb K C "land")(M:qT K c fe de)(Ge:DQ P w K mg μ aF 1 fe de ["self","lane"] (pz c Ï))(X:AU P w K mg μ fx Yr)
  (mo:mg "onward"=Α (.ref fo)) (ko:Ϯ K (.ref fo)=Δ) (bo:Binds K GB ["table","lane","goal"] []) (Go:DQ P w K mg μ aF 4 fo GB ["table","lane","goal"] (ww c C J)):DQ P w K mg μ aF 5 f fd ["table","out","goal"] (p0 c C J):=by
 refine F.ok Fi λ_ _ _ s H _ Q E hr h=>?_
 obtain⟨x,lx,Ef,lt,n,DX,d,I,out,g,rfl,hT,q⟩:=h
 have Ex:Ea 1 _:=hr.mono (by decide)
 have KR:=į (oD (show 1<=64 by decide) _) hr.units
 refine⟨_,ae (aB (i:=3) Fi.nd Λ (Ĥ Λ) (ap (pv 0) Λ))
  (ae (dF (i:=4) (own:=["lane"]) (capN:=["out"]) (cap:=[1]) YR Λ Fi.nd Λ Λ (aO Λ T.range (aa (aG aA Λ T.len PySem.boot_len (aa (ap (pv 3) Λ) ad)) ad))
   (λC s' H' fp=>⟨ax (i:=0) YV Λ (ύ Λ),bY (bE (bA (au X.G Ex Λ X.m X.k X.b .nil ar (aa (pv 1) (aa (pv 0) ad))))),pv 0⟩))
  (ae (aB (i:=5) Fi.nd Λ (Ĥ Λ) kW)
  (ae (aT Ϗ Λ (aR (pv 4)) (ax (i:=6) Fi.nd Λ (ύ Λ))
   (aj (iV KR (pv 5) (pv 6) (au Go hr Λ mo ko bo .nil ar (aa (pv 0) (aa (pv 6) (aa (pv 2) ad)))) Λ)))
  (ae (aB (i:=7) Fi.nd Λ (Ĥ Λ) (bv (own:=["lane"]) (capN:=["land","goal"]) (cap:=[3,2]) YT Λ (aR (pv 4))
   (λC s' H' fp=>⟨ax (i:=0) YW Λ (ύ Λ),bY (az bN (aH (pv 1) L.cl M.m Ge Ex M.b .nil ar (aa (pv 0) ad)) (pv 2) (aC _)),pv 0⟩)))
  (ae (aB (i:=8) Fi.nd Λ (Ĥ Λ) kW)
  (ae (aT Ϗ Λ (aR (pv 7)) (ax (i:=6) Fi.nd Λ (ύ Λ))
   (aj (iV KR (pv 8) (pv 6) eM Λ)))
  (ae (aB (i:=9) Fi.nd Λ (Ĥ Λ) ao)
  (ae (iU Ϗ (az mB (pv 9) (aG aA Λ T.len PySem.boot_len (aa (pv 7) ad)) (aC _))
   (ae (dF (i:=10) (own:=["lane"]) (capN:=["alive","line","looked_at","after"]) (cap:=[8,7,9,5]) YU Λ Fi.nd Λ Λ (aR (pv 4))
    (λC s' H' fp=>⟨ax (i:=0) YX Λ (ύ Λ),bY (PW.pt (ge (om (m9 KR (pv 0) (pv 1)) (by with_unfolding_all rfl)) (fB (az (show eU _ (compareOp .In) (TK K Ε) from mD) (aD (show G0 _ (rS K) from DZ) (pv 2) (pv 3) (λ_ _=>rfl)) (zB KR (pv 4) (pv 0) (λ_ _=>rfl)) (by with_unfolding_all rfl))))),pv 0⟩))
   (ae (rT (i:=9) Fi.nd Λ (Ĥ Λ) ao sF)
   (ae (aT Ϗ Λ (aR (pv 10)) (ax (i:=6) Fi.nd Λ (ύ Λ))
    (aj (iV KR (pv 8) (pv 6) eM Λ)))
   (aj (aX (cF plainAttrs_list slot_list_extend type_list_extend dA (pv 7) (aa (pv 10) ad))))))))
  (aj (ay (pv 8))))))))))),?_⟩
 obtain⟨dx,fs,hx,hf⟩:=hT.i
 have h40:=hT.EH
 have UC:DX.length=d.length:=Paired.length hT.l.2.2
 have Hu:=x9 hT.ok g
 refine⟨x,C,_,_,_,Λ,hx,W.cl,nl,hf,?_⟩
 refine⟨_,_,_,_,_,Λ,hT.l.1,L.cl,L.nl,Λ,_,_,Λ,.inr (Ec.of hT.l.2.1),_,Λ,Φ _,by omega,?_⟩
 rw[Υ,UC]
 refine lA (vg out) (λk:Nat=>V.int (k:Int)) (by rw[Ω];omega) (λi acc N hi h=>?_) λO hLf=>?_
 ·rw[Þ]
  refine⟨_,i,Λ,_,Λ,?_⟩
  unfold vg at h
  cases hb:out.testBit i with
  |true=>rw[hb]at h;exact aJ h
  |false=>rw[hb]at h;exact aL (h)
 have s1:=(DP.refl H).new (o:=.π (((ϋ d.length).filter (vg out)).map λk:Nat=>V.int (k:Int))) hLf
 have gL:(ο H O (.π (((ϋ d.length).filter (vg out)).map λk:Nat=>V.int (k:Int)))) O=Α (.π (nV (iY d.length out))):=ac
 have MP:∀l∈iY d.length out,l<d.length:=λl j=>(IA.mp j).1
 have Sk:(iY d.length out).length<=40:=À (dG _ _ (uo _ _) MP) h40
 show cY 4 (V.ref O) _ (ο H O _) _
 generalize ο H O (.π (((ϋ d.length).filter (vg out)).map λk:Nat=>V.int (k:Int)))=H1 at s1 gL⊢
 refine λaf YY=>?_
 have s2:=s1.new (o:=.dK []) YY
 have gA:(ο H1 af (.dK [])) af=Α (.dK (nk [])):=ac
 have UD:(ο H1 af (.dK [])) O=Α (.π (nV (iY d.length out))):=by rw[ag (ah gL YY)];exact gL
 have YZ:H af=Β:=s1.free YY
 generalize ο H1 af (.dK [])=H2 at s2 gA UD⊢
 have K2:=uo d.length out
 have UE:∀{l},l∈iY d.length out↔l<d.length/\vg out l=Δ:=λ{l}=>IA
 generalize iY d.length out=p at gL UD MP Sk K2 UE
 refine⟨O,Λ,⟨_,DT.of UD⟩,?_⟩
 refine bZ (K:=K) (a:=O) (xs:=nV p) (λi R Y=>∃(a6:Option V)(ks:List (Nat×V)),DP H Y/\Y O=Α (.π (nV p))/\Y af=Α (.dK (nk ks))/\ks.map (·.1)=p.take i/\(∀l v,(l,v)∈ks->∃U,v=.ref U/\Y U=Α (.π (nV (dU I d g l))))/\R=[Α (.ref x),Α (.int out),Α (.int g),Α (.ref lx),Α (.ref O),Α (.ref af),a6,Β,Β,Β,Β])
  ⟨Β,[],s2,UD,gA,Λ,(λl v h=>by cases h),Λ⟩ (λi R Y _ DS=>by obtain⟨_,_,_,g3,_⟩:=DS;exact DT.of g3) ?_ ?_
 ·rintro i v R Y B ⟨a6,ks,s3,Od,Za,Oe,LJ,rfl⟩
  have hi:i<p.length:=by have:=(gQ0 B);rw[aW]at this;exact this
  have r:=Μ hi
  have ID:=dH r
  rw[ID]at B
  have B:=Ϝ B
  subst B
  have IB:p[i]∉ks.map (·.1):=λz=>by
   rw[Oe]at z
   obtain⟨k,hk,ek⟩:=Ċ.mp z
   exact ú.mp K2 k i (by omega) hi (by omega) ek
  have ET:=MP _ (ă hi)
  generalize p[i]=l at r IB ET
  refine⟨x,_,_,_,n,_,d,I,l,g,Λ,hT.same W s3,ET,λD4 H4 s4 hD4 UG=>?_⟩
  have UH:=s4 _ _ Za
  have Fg:ks.length=(p.take i).length:=by rw[←Oe,ϊ]
  refine⟨_,_,Λ,HH.k (k:=Ñ (l:Int)) UH (by rw[Ω,sf,Fg];have:=ć i p;omega),?_⟩
  rw[rZ IB]
  refine⟨_,_,λb o e=>by rw[ag (ah e YZ)];exact s4 _ _ (s3 _ _ e),?_,ac,?_,λl' v' h=>?_,Λ⟩
  ·rw[ag (aQ (s4 _ _ Od) UH (by intro z;cases z))];exact s4 _ _ Od
  ·rw[Ì,Oe,ä,r];rfl
  ·rcases ϯ.mp h with h|h
   ·obtain⟨U,e1,e2⟩:=LJ l' v' h
    exact⟨U,e1,by rw[ag (aQ (s4 _ _ e2) UH (by intro z;cases z))];exact s4 _ _ e2⟩
   ·have e:=ϙ.mp h
    injection e with e1 e2
    subst e1 e2
    exact⟨_,Λ,by rw[ag (aQ UG UH (by intro z;cases z))];exact UG⟩
 rintro R Y ⟨a6,ks,s3,Od,Za,Oe,LJ,rfl⟩
 rw[aW,â]at Oe
 have Zb:(ks.map (·.1)).Nodup:=by rw[Oe];exact K2
 have Zc:∀l∈p,∃U,(l,V.ref U)∈ks/\Y U=Α (.π (nV (dU I d g l))):=λl j=>by
  rw[←Oe]at j
  obtain⟨y,hy,e⟩:=Ö.mp j
  obtain⟨l',v'⟩:=y
  have e:l'=l:=e
  subst e
  obtain⟨U,e1,e2⟩:=LJ l' v' hy
  subst e1
  exact⟨U,hy,e2⟩
 have Jq:=hT.same W s3
 refine⟨O,Λ,⟨_,DT.of Od⟩,?_⟩
 refine lB (dN d g) (by omega) Od (λl acc N j h=>?_) λD El=>?_
 ·have ET:=MP l j
  have he:=Μ ET
  have OH:d.getD l (0,0)=d[l]:=by rw[Χ,he];rfl
  unfold dN at h
  rw[OH]at h
  refine⟨_,_,_,Λ,Jq.l.1,Λ,_,_,_,_,_,d,l,_,Λ,Jq.l,he,?_⟩
  refine⟨Λ,_,Λ,?_⟩
  rw[fL]
  cases hd:decide ((d[l]).2=(g:Int)) with
  |true=>rw[hd]at h;exact aL (h)
  |false=>rw[hd]at h;exact aJ h
 have Rx:H D=Β:=s3.free El
 have s4:=s3.new (o:=.π (nV (p.filter (dN d g)))) El
 have g4:(ο Y D (.π (nV (p.filter (dN d g))))) D=Α (.π (nV (p.filter (dN d g)))):=ac
 have Zd:=(DP.refl Y).new (o:=.π (nV (p.filter (dN d g)))) El
 generalize ο Y D (.π (nV (p.filter (dN d g))))=H4 at s4 g4 Zd⊢
 refine λA UI=>?_
 have Ze:H A=Β:=s4.free UI
 have UJ:=(DP.refl H4).new (o:=.dK []) UI
 have g5:(ο H4 A (.dK [])) A=Α (.dK (nk (nH []))):=ac
 generalize ο H4 A (.dK [])=H5 at UJ g5⊢
 have k35:=Zd.trans UJ
 have s5:=s4.trans UJ
 have nlL:D≠O:=Ϟ (ah Od El)
 have nav:∀b o,Y b=Α o->b≠A:=λb o e=>ah (Zd _ _ e) UI
 have nln:∀b o,Y b=Α o->b≠D:=λb o e=>ah e El
 have LN:(p.filter (dN d g)).Nodup:=þ _ K2
 have Sl:∀l∈p.filter (dN d g),l∈p/\dN d g l=Δ:=λl j=>ϩ.mp j
 have a0f:∀l∈p,dN d g l=Δ->l∈p.filter (dN d g):=λl h1 h2=>ϩ.mpr ⟨h1,h2⟩
 generalize p.filter (dN d g)=a0 at g4 LN Sl a0f
 have a0l:a0.length<=d.length:=dG _ _ LN λl j=>MP l (Sl l j).1
 have Zf:=UJ _ _ g4
 have LO:D≠A:=ah g4 UI
 refine⟨D,Λ,⟨_,DT.of Zf⟩,?_⟩
 refine bZ (K:=K) (a:=D) (xs:=nV a0) (λi R H6=>∃(a6:Option V),(∀b o,b≠A->H5 b=Α o->H6 b=Α o)/\H6 A=Α (.dK (nk (nH (a0.take i))))/\R=[Α (.ref x),Α (.int out),Α (.int g),Α (.ref lx),Α (.ref O),Α (.ref af),a6,Α (.ref D),Α (.ref A),Β,Β])
  ⟨_,(λb o _ e=>e),g5,Λ⟩ (λi R H6 _ DS=>by obtain⟨_,k6,_⟩:=DS;exact DT.of (k6 _ _ LO Zf)) ?_ ?_
 ·rintro i v R H6 B ⟨a6,k6,g6,rfl⟩
  have hi:i<a0.length:=by have:=(gQ0 B);rw[aW]at this;exact this
  have r:=Μ hi
  have ID:=dH r
  rw[ID]at B
  have B:=Ϝ B
  subst B
  have IB:a0[i]∉a0.take i:=λz=>by
   obtain⟨k,hk,ek⟩:=Ċ.mp z
   exact ú.mp LN k i (by omega) hi (by omega) ek
  generalize a0[i]=l at r IB
  refine⟨A,_,Λ,HH.k (k:=Ñ (l:Int)) g6 (by rw[Ω,sf];unfold nH;rw[ϊ];have:=ć i a0;omega),?_⟩
  rw[rZ (by rw[iI];exact IB)]
  refine⟨_,λb o nb e=>by rw[ag nb];exact k6 b o nb e,?_,Λ⟩
  rw[ac,ä,r,sS];rfl
 rintro R H6 ⟨a6,k6,g6,rfl⟩
 rw[aW,â]at g6
 have k36:∀b o,Y b=Α o->H6 b=Α o:=λb o e=>k6 b o (nav b o e) (k35 b o e)
 have g6l:=k6 _ _ LO Zf
 refine⟨λm R H'=>∃(a:List Nat)(i:Nat)(b6 Pg:Option V),m=d.length - i/\i<=a.length/\(∀b o,Y b=Α o->H' b=Α o)/\H' D=Α (.π (nV a))/\H' A=Α (.dK (nk (nH a)))/\a.Nodup/\(∀l∈a,l∈p/\kB I d out g l=Δ)/\(∀l∈p,dN d g l=Δ->l∈a)/\(∀(k z l:Nat),k<i->a[k]?=Α z->l∈p->z∈dU I d g l->l∈a)/\
   R=[Α (.ref x),Α (.int out),Α (.int g),Α (.ref lx),Α (.ref O),Α (.ref af),b6,Α (.ref D),Α (.ref A),Α (.int (i:Int)),Pg],
  ⟨d.length - 0,a0,0,a6,Β,Λ,Ϧ _,k36,g6l,g6,LN,(λl j=>⟨(Sl l j).1,pb (L:=d.length) Hu (k:=1) (E3.mpr ⟨(UE.mp (Sl l j).1).2,.inl (Sl l j).2⟩)⟩),a0f,(λk z l hk=>Κ hk (Ă _)),Λ⟩,?_⟩
 rintro m R H7 ⟨a,i,b6,Pg,rfl,YK,k7,UK,UL,and',Sm,Sn,MQ,rfl⟩
 have Ht:a.length<=d.length:=dG _ _ and' λl j=>MP l (Sm l j).1
 refine⟨D,_,Λ,.inl (DT.of UK),_,_,Λ,Λ,_,Λ,?_⟩
 rw[aW]
 by_cases Eo:i<a.length
 rotate_left
 ·rw[Η (show ¬(i:Int)<(a.length:Nat) by omega)]
  refine aJ (q A a H7 (s3.trans k7) Ze UL and' λl=>⟨λj=>⟨MP l (Sm l j).1,(Sm l j).2⟩,fun⟨j,Zg⟩=>?_⟩)
  refine yJ (L:=d.length) (S:=λz=>z∈a) (λl' Im hlf hc=>?_) Hu j Zg
  have Jb:l'∈p:=UE.mpr ⟨Im,hlf⟩
  rcases hc with hc|⟨z,hz,hza⟩
  ·exact Sn l' Jb hc
  ·obtain⟨k,hk,ek⟩:=ĵ hza
   exact MQ k z l' (by omega) (by rw[Μ hk,ek]) Jb hz
 rw[Ζ (show (i:Int)<(a.length:Nat) from ó.mpr ‹_›)]
 have Kf:=Μ Eo
 have Sr:=Sm _ (ă Eo)
 generalize a[i]=ai at Kf Sr
 refine aL ⟨λσ' H8=>∃(a':List Nat)(b6 Pg:Option V),i+1<=a'.length/\(∀b o,Y b=Α o->H8 b=Α o)/\H8 D=Α (.π (nV a'))/\H8 A=Α (.dK (nk (nH a')))/\a'.Nodup/\(∀l∈a',l∈p/\kB I d out g l=Δ)/\(∀l∈p,dN d g l=Δ->l∈a')/\(∀(k z l:Nat),k<i+1->a'[k]?=Α z->l∈p->z∈dU I d g l->l∈a')/\
   σ'=[Α (.ref x),Α (.int out),Α (.int g),Α (.ref lx),Α (.ref O),Α (.ref af),b6,Α (.ref D),Α (.ref A),Α (.int ((i+1:Nat):Int)),Pg],?_,?_⟩
 ·rintro σ' H8 ⟨a',b6,Pg,h1,h2,h3,h4,h5,h6,h7,h8,rfl⟩
  exact⟨_,by omega,_,_,_,_,Λ,h1,h2,h3,h4,h5,h6,h7,h8,Λ⟩
 have gL7:=k7 _ _ Od
 have gA7:=k7 _ _ Za
 refine⟨O,Λ,⟨_,DT.of gL7⟩,?_⟩
 refine lB (λl=>!decide (l∈a)&& decide (ai∈dU I d g l)) (by omega) gL7 (λl acc N j h=>?_) λFd KN=>?_
 ·obtain⟨U,hU,gU⟩:=Zc l j
  refine⟨A,_,Λ,FU.k (k:=Ñ (l:Int)) UL,_,Λ,?_⟩
  rw[vO a and' l]
  by_cases Z:l∈a
  ·rw[Ζ Z]
   rw[Ζ Z]at h
   exact aJ (aJ h)
  ·rw[Η Z]
   rw[Η Z,Bool.not_false,ñ]at h
   refine aL ⟨D,_,_,_,Λ,Λ,DT.of UK,aq (dH Kf),af,.ref U,Λ,?_,?_⟩
   ·rw[←xY Zb hU]
    exact FU.k (k:=Ñ (l:Int)) gA7
   refine⟨U,_,Λ,.inl (DT.of (k7 _ _ gU)),Λ,Ay _,_,Λ,?_⟩
   show if (Bo (.int (ai:Int)) (nV (dU I d g l)))=Δ then _ else _
   rw[Sj]
   cases hd:decide (ai∈dU I d g l) with
   |true=>rw[hd]at h;exact aL (h)
   |false=>rw[hd]at h;exact aJ h
 have jN:(p.filter λl=>!decide (l∈a)&& decide (ai∈dU I d g l)).Nodup:=þ _ K2
 have fm:∀{l},l∈(p.filter λl=>!decide (l∈a)&& decide (ai∈dU I d g l))↔l∈p/\l∉a/\ai∈dU I d g l:=λ{l}=>by
  rw[ϩ,É,ö,decide_eq_false_iff_not,decide_eq_true_eq]
 have g8:(ο H7 Fd (.π (nV (p.filter λl=>!decide (l∈a)&& decide (ai∈dU I d g l))))) Fd=Α (.π (nV (p.filter λl=>!decide (l∈a)&& decide (ai∈dU I d g l)))):=ac
 have k8:=(DP.refl H7).new (o:=.π (nV (p.filter λl=>!decide (l∈a)&& decide (ai∈dU I d g l)))) KN
 show cY 10 (V.ref Fd) _ (ο H7 Fd _) _
 generalize (p.filter λl=>!decide (l∈a)&& decide (ai∈dU I d g l))=Jz at jN fm g8 k8⊢
 generalize ο H7 Fd (.π (nV Jz))=H8 at g8 k8⊢
 have g8l:=k8 _ _ UK
 have g8a:=k8 _ _ UL
 have nFl:Fd≠D:=Ϟ (ah UK KN)
 have nFa:Fd≠A:=Ϟ (ah UL KN)
 have fl:Jz.length<=d.length:=dG _ _ jN λl j=>MP l (fm.mp j).1
 have OG:(a++Jz).Nodup:=kA.mpr ⟨and',jN,λu hu v B e=>(fm.mp B).2.1 (by rw[←e];exact hu)⟩
 refine⟨_,_,Λ,Λ,?_⟩
 refine⟨Fd,Λ,⟨_,DT.of g8⟩,?_⟩
 refine bZ (K:=K) (a:=Fd) (xs:=nV Jz) (λt R H9=>∃(b6:Option V),(∀b o,b≠A->H8 b=Α o->H9 b=Α o)/\H9 A=Α (.dK (nk (nH (a++Jz.take t))))/\R=[Α (.ref x),Α (.int out),Α (.int g),Α (.ref lx),Α (.ref O),Α (.ref af),b6,Α (.ref D),Α (.ref A),Α (.int ((i:Int)+1)),Α (.ref Fd)])
  ⟨_,(λb o _ e=>e),by rw[take_zero,ĕ];exact g8a,Λ⟩ (λt R H9 _ DS=>by obtain⟨_,k9,_⟩:=DS;exact DT.of (k9 _ _ nFa g8)) ?_ ?_
 ·rintro t v R H9 B ⟨b6,k9,g9,rfl⟩
  have ht:t<Jz.length:=by have:=(gQ0 B);rw[aW]at this;exact this
  have r:=Μ ht
  have ID:=dH r
  rw[ID]at B
  have B:=Ϝ B
  subst B
  have IB:Jz[t]∉a++Jz.take t:=λz=>by
   rcases ϯ.mp z with z|z
   ·exact(fm.mp (ă ht)).2.1 z
   ·obtain⟨k,hk,ek⟩:=Ċ.mp z
    exact ú.mp jN k t (by omega) ht (by omega) ek
  generalize Jz[t]=l at r IB
  refine⟨A,_,Λ,HH.k (k:=Ñ (l:Int)) g9 (by rw[Ω,sf];unfold nH;rw[ϊ,ϗ];have:=ć t Jz;omega),?_⟩
  rw[rZ (by rw[iI];exact IB)]
  refine⟨_,λb o nb e=>by rw[ag nb];exact k9 b o nb e,?_,Λ⟩
  rw[ac,ä,r,î,←Ļ,sS (a++Jz.take t)];rfl
 rintro R H9 ⟨b6,k9,g9,rfl⟩
 rw[aW,â]at g9
 have g9l:=k9 _ _ LO g8l
 have g9f:=k9 _ _ nFa g8
 refine⟨.inl ⟨Λ,_,DT.of g9l⟩,D,Fd,_,_,Λ,Λ,g9l,g9f,by rw[Ω,aW,aW];omega,?_⟩
 rw[←lg]
 refine⟨a++Jz,b6,Α (.ref Fd),by rw[ϗ];omega,λb o e=>?_,ac,by rw[ag (Ϟ LO)];exact g9,OG,λl j=>?_,λl j hf'=>Í _ (Sn l j hf'),λk z l hk hz j hzo=>?_,?_⟩
 ·rw[ag (nln b o e)]
  exact k9 b o (nav b o e) (k8 _ _ (k7 b o e))
 ·rcases ϯ.mp j with j|j
  ·exact Sm l j
  ·obtain⟨h1,_,h3⟩:=fm.mp j
   exact⟨h1,pb (L:=d.length) Hu (k:=d.length+1+1) (E3.mpr ⟨(UE.mp h1).2,.inr ⟨ai,h3,Sr.2⟩⟩)⟩
 ·by_cases hki:k<i
  ·have Nt:a[k]?=Α z:=by rw[Ϫ (by omega)]at hz;exact hz
   exact Í _ (MQ k z l hki Nt j hzo)
  ·have Jm:k=i:=by omega
   subst Jm
   rw[Ϫ Eo,Kf]at hz
   have hz:=Ϝ hz
   subst hz
   by_cases Z:l∈a
   ·exact Í _ Z
   ·exact ϫ _ (fm.mpr ⟨j,Z,hzo⟩)
 ·rw[show((i+1:Nat):Int)=(i:Int)+1 by omega]
end K93
namespace L2
open PySem
def B8(K:ϧ)(ta:TE):TT:=λσ H Q=>ta σ H λx H'=>∃k,DG K x H' k/\Q k H'
end L2
namespace K93
open PySem L2
variable {P:Program}{w:Î}{K:ϧ}{mg:Str->Option Τ}{μ:Ü}
noncomputable def oK(s:Ç):List Ç:=match s with
 |.For _ _ b _ _=>b
 |_=>[]
theorem nh(a:List (Int×Int))(p:Nat):(ca a p).length<=a.length+1:=by
 unfold ca
 rw[ï,ϊ]
 have:=Ar Ï a p
 exact Ð ‹_›
theorem ym:∀{a b:List Nat},iz a=iz b->a=b
 |[],[],_=>rfl
 |[],_:: _,h=>by cases h
 |_:: _,[],h=>by cases h
 | x:: a,y:: b,h=>by
  have d:(x:Int)=(y:Int):=(Ň h).1
  have c:=(Ň h).2
  rw[ym c]
  congr 1
  exact Ä ‹_›
theorem yd(h:F.Pairwise (· < ·)):Yd.GX (Yd.Ey F 0) (Ó ((Yd.Ey F 0:Nat):Int))=F:=ym (si (ur h) λk=>WL)
theorem nA(a:bJ->Nat)(k:bJ):(wl a k).Pairwise (· < ·):=Yd.Hn _ _
noncomputable def lO(wy:bJ->Nat)(ps:List (Int×Int))(out:Nat)(k:Key):List Nat:=(wl wy (bR k)).filter (kB wy ps out k.2.1.toNat)
noncomputable def dL(P:Program)(w:Î)(C:Ν):jK:=λH x wy=>∃(dx de:Ν)(fs:List (Str×V))(kvs:List fT),H x=Α (.ρ C dx fs)/\fs.lookup ("entries":Str)=Α (.ref de)/\fs.lookup ("ways":Str)=Β/\E4 P w H de kvs/\∀k,(cG kvs k).getD (.int 0)=.int (wy k)/\wy k<2^400
def yN(J:jK):Prop:=∀(H H':Hp)(y:Ν)(wy:bJ->Nat)(a Ca da:Ν),J H y wy->H a=Α (.ρ Ca da [])->Off a H H'->J H' y wy
theorem re:yN (eE P w ts):=λH l y m a n p ⟨g,h,i,c,e,b,j⟩ d o =>
 ⟨g,h,i,c,o _ _ (aQ e d (by intro z;cases z)) e,⟨o _ _ (aQ b.1 d (by intro z;cases z)) b.1,λx f=>o _ _ (aQ (b.2 x f) d (by intro z;cases z)) (b.2 x f)⟩,j⟩
theorem EB.off(f:yN J)(h:EB c C J H x lx Ef lt n DX ps wy)(b:H a=Α (.ρ Ca da []))(o:Off a H H'):EB c C J H' x lx Ef lt n DX ps wy:=by
 obtain⟨g,fs,d,e⟩:=h.i
 refine⟨f _ _ _ _ _ _ _ h.j b o,⟨g,fs,o _ _ (aQ d b (by intro z;cases z;cases e)) d,e⟩,⟨o _ _ (aQ h.l.1 b (by intro z;cases z)) h.l.1,o _ _ (aQ h.l.2.1 b (by intro z;cases z)) h.l.2.1,o.Jo b h.l.2.2⟩,h.IF,h.EH,h.ok,h.nr⟩
structure Of(K:ϧ)(C fw:Ν)(dw:Ý):Prop where
 cl:GK K C
 nl:Eb K C "land"
 ne:Eb K C "entries"
 nc:Eb K C "cut"
 m:cb K C "ways" fw
 b:Binds K dw ["self","place","goal","came"] []
noncomputable def fN(wy:bJ->Nat)(ps:List (Int×Int))(out:Nat)(z:Int×Int):Bool:=decide (lO wy ps out (z.1,z.2,Β)=[])
noncomputable def vA(wy:bJ->Nat)(ps:List (Int×Int))(n out:Nat):List (Int×Int):=(bH wy n n).filter (fN wy ps out)
structure lI(wy EE:bJ->Nat)(ps:List (Int×Int))(n out:Nat):Prop where
 eq:∀(p g:Nat)(c:Option Nat),p<n->g<n->c∈ca ps p->wl EE (bR ((p:Int),(g:Int),c))=lO wy ps out ((p:Int),(g:Int),c)
 sub:∀k,∀z∈wl EE k,z∈wl wy k
 Β:∀k,(∀(p g:Nat)(c:Option Nat),p<n->g<n->c∈ca ps p->bR ((p:Int),(g:Int),c)≠k)->wl EE k=[]
inductive r8(P:Program)(w:Î)(c:Cs)(C LC:Ν)(J:jK)(vs:List V)(H:Hp)(Q:VK)(E:XK):Prop
 |mk (x dx tx lx Ef lt:Ν) (n:Nat) (DX:List V) (ps:List (Int×Int)) (wy:bJ->Nat) (out:Nat) (_:vs=[.ref x,.ref tx,.int out]) (_:H x=Α (.ρ LC dx [])) (_:EB c C J H tx lx Ef lt n DX ps wy) (_:∀(H':Hp)(de cu:Ν)(kvs:List fT)(Hj:List V)(EE:bJ->Nat),Off x H H'->H' x=Α (.ρ LC dx [("land",.ref lx),("entries",.ref de),("cut",.ref cu)])->E4 P w H' de kvs->(∀k,(cG kvs k).getD (.int 0)=.int (EE k)/\EE k<2^400)->lI wy EE ps n out->H' cu=Α (.tup Hj)->Ei H' Hj (vA wy ps n out)->Q .Eh H')
abbrev Zh:List Str:=["self","table","out","goal","alive","place","came","ways"]
noncomputable def tR(s:Ç):Scope:=match s with
 |.Assign _ (.Call _ [.ListComp _ _ sc _] _ _) _=>sc
 |_=>zQ0
abbrev ls(i:Nat):Ç:=(aK m7).getD i (.Pass ⟨0,0,0,0⟩)
theorem Dv(a:List (Int×Int))(p:Nat):[V.Eh]++jY Ï a p a.length=(ca a p).map cV:=by
 unfold ca
 rw[Ϭ,č]
 rfl
theorem vf(c:H x=Α (.ρ C dx fs)):∀{a:List V}{b:List (Int×Int)},Ei H a b->Ei (ο H x o) a b:=λd=>by
 induction d with
 |nil=>exact .nil
 |cons f i h=>obtain⟨t,e,g⟩:=f;exact .cons ⟨t,e,by rw[ag (aQ g c (by intro z;cases z))];exact g⟩ h
structure HU(wy:bJ->Nat)(ps:List (Int×Int))(n out:Nat)(kvs:List fT)(ks:List Key):Prop where
 a:∀k∈ks,cG kvs (bR k)=Α (.int (Yd.Ey (lO wy ps out k) 0:Nat))
 b:∀key,cG kvs key=Β∨∃k∈ks,bR k=key
 r:∀k∈ks,∃(p g:Nat)(c:Option Nat),k=((p:Int),(g:Int),c)/\p<n/\g<n/\c∈ca ps p
theorem HU.put(h:HU wy ps n out kvs ks){k:Key}(j:∃(p g:Nat) (c:Option Nat),k=((p:Int),(g:Int),c)/\p<n/\g<n/\c∈ca ps p)(l:Ν):HU wy ps n out (ig kvs (bR k) l (.int (Yd.Ey (lO wy ps out k) 0:Nat))) (ks++[k]):=by
 refine⟨λd i=>?_,λf=>?_,λd i=>?_⟩
 ·rw[kD]
  by_cases e:bR d=bR k
  ·rw[Ι e,pR e]
  ·rw[Θ e]
   rcases ϯ.mp i with z|z
   ·exact h.a d z
   ·exact Κ (by rw[ϙ.mp z]) e
 ·rw[kD]
  by_cases e:f=bR k
  ·exact .inr ⟨k,ϫ _ ώ,e.symm⟩
  ·rw[Θ e]
   rcases h.b f with z|⟨d,z,m⟩
   ·exact .inl z
   ·exact .inr ⟨d,Í _ z,m⟩
 ·rcases ϯ.mp i with z|z
  ·exact h.r d z
  ·rw[ϙ.mp z];exact j
theorem HU.less(h:HU wy ps n out kvs ks)(t:∀k,∀z∈wl wy k,z<ps.length)(F:ps.length<=40)(u:∀(p g:Nat) (c:Option Nat),p<n->g<n->c∈ca ps p->((p:Int),(g:Int),c)∈ks):
  ∃o:bJ->Nat,(∀k,(cG kvs k).getD (.int 0)=.int (o k)/\o k<2^400)/\lI wy o ps n out:=by
 have i:∀d,∃m:Nat,(cG kvs d).getD (.int 0)=.int (m:Nat)/\m<2^400/\((∀k∈ks,bR k≠d)->m=0)/\∀k∈ks,bR k=d->m=Yd.Ey (lO wy ps out k) 0:=λd=>by
  by_cases f:∃k∈ks,bR k=d
  ·obtain⟨k,f,e⟩:=f
   refine⟨_,by rw[←e,h.a k f];rfl,wJ λz j=>?_,λz=>Κ e (z k f),λG _ v=>by rw[pR (v.trans e.symm)]⟩
   have:=t _ z (ϩ.mp j).1
   omega
  ·refine⟨0,?_,by decide,λ_=>rfl,λk l e=>Κ ⟨k,l,e⟩ f⟩
   rcases h.b d with z|z
   ·rw[z];rfl
   ·exact Κ z f
 refine⟨λd=>qp (i d),λd=>⟨(Ł (i d)).1,(Ł (i d)).2.1⟩,?_⟩
 have q:∀k∈ks,wl (λd=>qp (i d)) (bR k)=lO wy ps out k:=λk f=>by
  have e:=(Ł (i (bR k))).2.2.2 k f Λ
  unfold wl
  dsimp only
  rw[e]
  exact yd (þ _ (nA _ _))
 have s:∀d,(∀k∈ks,bR k≠d)->wl (λd=>qp (i d)) d=[]:=λd f=>by
  have e:=(Ł (i d)).2.2.1 f
  unfold wl
  dsimp only
  rw[e]
  rfl
 refine⟨λp g c x y A=>q _ (u p g c x y A),λd z j=>?_,λd f=>s d λk l e=>?_⟩
 ·by_cases f:∃k∈ks,bR k=d
  ·obtain⟨k,f,e⟩:=f
   rw[←e,q k f]at j
   rw[←e]
   exact(ϩ.mp j).1
  ·rw[s d λk l e=>f ⟨k,l,e⟩]at j
   cases j
 ·obtain⟨p,g,c,B,C,D,E⟩:=h.r k l
  exact f p g c C D E (by rw[←B];exact e)
theorem Ss:aw ["self","place","goal","came"] ["self","place","goal","came"] (am rG):=L2.Eu
theorem xH(F:En K "ways" "Less.ways" rG f fd)(b:Of K C fw dw)(l:mg "members"=Α (.ref fm))(m:Ϯ K (.ref fm)=Δ)(n:Binds K dm ["some"] [])
  (o:DQ P w K mg μ aF 2 fm dm ["some"] t8):DQ P w K mg μ aF 3 f fd ["self","place","goal","came"] (dX (dL P w C)):=by
 refine F.ok Ss λ_ _ _ s H _ Q E d h=>?_
 obtain⟨x,u,r,rfl,⟨v,y,fs,a,z,A,J,e,i⟩,q⟩:=h
 have B:=į (oD (show 1<=64 by decide) _) d.units
 refine⟨_,aj (ay (au o d Λ l m n .nil ar (aa (pN B (ap (pv 0) Λ) (aa (bM (aa (pv 1) (aa (pv 2) (aa (pv 3) ad)))) (aa ao ad))) ad))),x,C,v,_,_,Λ,z,b.cl,b.ne,A,y,a,Λ,e,by show 3<=ό;decide,λt G=>?_⟩
 have j:DP H (ο H t (.tup [.int r.p,.int r.g,cV r.c])):=(DP.refl H).new G
 refine⟨_,_,_,Λ,⟨a,aN r,t,e.same j,Λ,by rw[jX];exact ac,Λ⟩,?_⟩
 rw[(i (aN r)).1]
 exact⟨_,Λ,(i (aN r)).2,λD I=>q _ D j I⟩
theorem JF:aw Zh ["self","table","out"] (am m7):=L2.Eu
theorem Zi:ES Zh (am m7) (tR ((oK ((oK ((oK (ls 2)).getD 1 (.Pass ⟨0,0,0,0⟩))).getD 0 (.Pass ⟨0,0,0,0⟩))).getD 1 (.Pass ⟨0,0,0,0⟩))) ["alive"] [4]:=L2.FC
theorem Zj:ES Zh (am m7) (tR (ls 3)) ["self"] [0]:=L2.FC
theorem Zk:(["way","alive"]:List Str).Nodup:=by decide +kernel
theorem Zl:(["pair","self"]:List Str).Nodup:=by decide +kernel
theorem Aa(F:En K "__init__" "Less.__init__" m7 f fd)(T:eD mg)(L:kC K c)(B:Uj K mg ts f1 d1)(G1:DQ P w K mg μ aF 1 f1 d1 ["self","land"] (wj K))
  (W:uI K C fw dw J) (hJs:yN J) (nl:Eb K C "land") (Gw:DQ P w K mg μ aF 3 fw dw ["self","place","goal","came"] (dX J)) (M:DJ K c fi3 fi4 di3 di4) (Gi:DQ P w K mg μ aF 1 fi4 di4 ["self","place"] (wC c Ï))
  (Lc:Of K LC fw' dw') (Gw':DQ P w K mg μ aF 3 fw' dw' ["self","place","goal","came"] (dX (dL P w LC)))
  (ma:mg "lanes_alive"=Α (.ref fa)) (ka:Ϯ K (.ref fa)=Δ) (ba:Binds K da ["table","out","goal"] []) (Ga:DQ P w K mg μ aF 5 fa da ["table","out","goal"] (p0 c C J))
  (ms:mg "set_of"=Α (.ref GD)) (D:Ϯ K (.ref GD)=Δ) (bs:Binds K ds ["numbers"] []) (Gs:DQ P w K mg μ aF 1 GD ds ["numbers"] (wn K))
  (mst:mg "starts"=Α (.ref fst)) (kst:Ϯ K (.ref fst)=Δ) (bst:Binds K dst ["table"] []) (Fw:DQ P w K mg μ aF 4 fst dst ["table"] (iO c C J)):
  DQ P w K mg μ aF 6 f fd ["self","table","out"] (r8 P w c C LC J):=by
 refine F.ok JF λ_ _ _ s H _ Q E hr h=>?_
 obtain⟨x,X,Y,R,Ef,lt,n,DX,ps,u,out,rfl,hx,hT,q⟩:=h
 have Ex:Ea 1 _:=hr.mono (by decide)
 have JS:Ea 3 _:=hr.mono (by decide)
 have HX:Ea 4 _:=hr.mono (by decide)
 have KR:=į (oD (show 1<=64 by decide) _) hr.units
 refine⟨_,ae (aX (pO (dR (v:=.ref ts.tab) Λ B.mt Λ) B.cm G1 Ex B.bt .nil ar (aa (pv 0) (aa (ap (pv 1) Λ) ad))))
  (ae (bF (pv 0) (show PE _ _ (vQ P w) from tW) Λ)
  (ae (aT Ϗ Λ (aO Λ T.range (aa (ap (ap (pv 1) Λ) Λ) ad)) (ax (i:=3) JF.nd Λ (ύ Λ))
   (ae (aB (i:=4) JF.nd Λ (Ĥ Λ) (au Ga hr Λ ma ka ba .nil ar (aa (pv 1) (aa (pv 2) (aa (pv 3) ad)))))
   (aj (aT Ϗ Λ (aO Λ T.range (aa (ap (ap (pv 1) Λ) Λ) ad)) (ax (i:=5) JF.nd Λ (ύ Λ))
    (aj (aT Ϗ Λ (aR (aI rW (aU (aa b9 ad)) (aH (ap (pv 1) Λ) L.cl M.m4 Gi Ex M.b4 .nil ar (aa (pv 5) ad)))) (ax (i:=6) JF.nd Λ (ύ Λ))
     (ae (aB (i:=7) JF.nd Λ (ύ Λ) (aH (pv 1) W.cl W.m Gw JS W.b .nil ar (aa (pv 5) (aa (pv 3) (aa (pv 6) ad)))))
     (aj (tT KR (ap (pv 0) Λ) (bM (aa (pv 5) (aa (pv 3) (aa (pv 6) ad)))) (au Gs Ex Λ ms D bs .nil ar (aa (bv (own:=["way"]) (capN:=["alive"]) (cap:=[4]) Zi Λ (aR (pv 7))
      (λC s' O fp=>⟨ax (i:=0) Zk Λ (ύ Λ),bY (om (Cy KR (pv 0) (pv 1)) (by with_unfolding_all rfl)),pv 0⟩)) ad)) Λ)))))))))
  (aj (bF (pv 0) (bS cC Λ T.tuple PySem.Pv.boot_tuple (aa (bv (own:=["pair"]) (capN:=["self"]) (cap:=[0]) Zj Λ (aR (au Fw HX Λ mst kst bst .nil ar (aa (pv 1) ad)))
   (λC s' O fp=>⟨ax (i:=0) Zl Λ (ύ Λ),bY (bE (show PT _ _ (B8 K _) from dE (aH (pv 1) Lc.cl Lc.m Gw' JS Lc.b .nil ar (aa (aD (show G0 _ (jr K) from DV) (pv 0) ao (λ_ _=>rfl)) (aa (aD (show G0 _ (jr K) from DV) (pv 0) ao (λ_ _=>rfl)) (aa b9 ad)))) (λ_=>rfl))),pv 0⟩)) ad)) Λ)))),?_⟩
 have h40:=hT.EH
 have Iu:=hT.IF
 obtain⟨tdx,tfs,WR,htf⟩:=hT.i
 refine⟨Λ,Y,C,_,_,_,Λ,WR,W.cl,nl,htf,x,_,X,_,Λ,hx,Lc.cl,Lc.nl,?_⟩
 refine λI JK=>⟨x,LC,X,[("land",.ref R)],Λ,by rw[ag (ah ac JK)];exact ac,Lc.cl,Lc.ne,by show 1<1000;decide,?_⟩
 have Lp:=ah ac JK
 have Kk:H I=Β:=by rw[ag (Ϟ Lp)]at JK;exact JK
 generalize JI:ο (ο (ο H x (.ρ LC X [("land",.ref R)])) I (lK P w I [])) x (.ρ LC X (aS "entries" (.ref I) [("land",.ref R)]))=H2
 have o2:Off x H H2:=λb o hb e=>by rw[←JI,ag hb,ag (ah e Kk),ag hb];exact e
 have x2:H2 x=Α (.ρ LC X [("land",.ref R),("entries",.ref I)]):=by rw[←JI,ac];rfl
 have d2:E4 P w H2 I []:=⟨by rw[←JI,ag (Ϟ Lp),ac],λy hy=>by cases hy⟩
 clear JI
 have G:∀{O:Hp},Off x H O->EB c C J O Y R Ef lt n DX ps u:=λ{O} o=>EB.off hJs hT hx o
 have E0:HU u ps n out [] []:=⟨(λk hk=>by cases hk),(λkey =>.inl Λ),(λk hk=>by cases hk)⟩
 obtain⟨Zm,Zn,Zo,Zp⟩:=(G o2).i
 refine⟨Y,C,_,_,_,Λ,Zo,W.cl,nl,Zp,R,_,_,_,_,Λ,(G o2).l.1,L.cl,L.np,Λ,_,Λ,Φ _,by omega,?_⟩
 rw[Υ]
 refine aV (n:=n) (λi Z H3=>∃(a3 a4 a5 a6 a7:Option V)(d:List fT)(D:List Key),Off x H H3/\H3 x=Α (.ρ LC X [("land",.ref R),("entries",.ref I)])/\E4 P w H3 I d/\d.length<=i* 492/\HU u ps n out d D/\(∀(p g:Nat)(c:Option Nat),p<n->g<i->c∈ca ps p->((p:Int),(g:Int),c)∈D)/\Z=[Α (.ref x),Α (.ref Y),Α (.int out),a3,a4,a5,a6,a7])
  ⟨Β,Β,Β,Β,Β,[],[],o2,x2,d2,Ϧ _,E0,(λp g c _ hg=>Κ hg (Ă _)),Λ⟩ ?_ ?_
 ·rintro i Z H3 hi ⟨a3,a4,a5,a6,a7,d,D,o3,x3,d3,l3,e3,m3,rfl⟩
  rw[Þ]
  refine⟨Y,R,_,_,n,_,_,u,_,i,Λ,G o3,λAv av H4 s4 hAv gAv Zq avm=>?_⟩
  have o4:=o3.same s4
  obtain⟨Zr,Zs,Zt,Zu⟩:=(G o4).i
  refine⟨Y,C,_,_,_,Λ,Zt,W.cl,nl,Zu,R,_,_,_,_,Λ,(G o4).l.1,L.cl,L.np,Λ,_,Λ,Φ _,by omega,?_⟩
  rw[Υ]
  have nAv:=Ϟ (ah d3.1 hAv)
  have nAx:=Ϟ (ah x3 hAv)
  refine aV (n:=n) (λj Z H5=>∃(a5 a6 a7:Option V)(d:List fT)(D:List Key),Off x H H5/\H5 x=Α (.ρ LC X [("land",.ref R),("entries",.ref I)])/\E4 P w H5 I d/\H5 Av=Α (.dK (nk (nH av)))/\d.length<=i* 492+j* 41/\HU u ps n out d D/\(∀(p g:Nat)(c:Option Nat),p<n->g<i->c∈ca ps p->((p:Int),(g:Int),c)∈D)/\(∀(p:Nat)(c:Option Nat),p<j->c∈ca ps p->((p:Int),(i:Int),c)∈D)/\Z=[Α (.ref x),Α (.ref Y),Α (.int out),Α (.int (i:Int)),Α (.ref Av),a5,a6,a7])
   ⟨_,_,_,d,D,o4,s4 _ _ x3,d3.same s4,gAv,‹_›,e3,m3,(λp c U=>Κ U (Ă _)),Λ⟩ ?_ ?_
  ·rintro j Z H5 hj ⟨a5,a6,a7,d,D,o5,x5,d5,gA5,l5,e5,m5,p5,rfl⟩
   rw[Þ]
   obtain⟨Zv,Zw,Zx,Zy⟩:=(G o5).i
   refine⟨by show 1<=ό;decide,λq1 LX=>?_⟩
   have s6:=(DP.refl H5).new (o:=.π [.Eh]) LX
   have g6:(ο H5 q1 (.π [.Eh])) q1=Α (.π [.Eh]):=ac
   generalize ο H5 q1 (.π [.Eh])=H6 at s6 g6⊢
   have Su:=G (o5.same s6)
   refine⟨Y,C,_,_,_,Λ,s6 _ _ Zx,W.cl,nl,Zy,R,_,_,Λ,Su.l.1,Λ,R,_,_,_,_,_,_,Λ,Su.l,by omega,λH7 q2 s7 TV=>?_⟩
   have s8:=s7.new (o:=.π (jY Ï ps j ps.length)) TV
   have g8:(ο H7 q2 (.π (jY Ï ps j ps.length))) q2=Α (.π (jY Ï ps j ps.length)):=ac
   generalize ο H7 q2 (.π (jY Ï ps j ps.length))=H8 at s8 g8⊢
   have hxl:=oE (sel:=Ï) (ps:=ps) (pl:=(j:Int)) (i:=ps.length)
   refine⟨_,_,_,_,Λ,Λ,s8 _ _ g6,g8,by rw[Ω];simp only[Â];omega,λCm hCm=>?_⟩
   rw[Dv]
   have s9:=(s6.trans s8).new (o:=.π ((ca ps j).map cV)) hCm
   have gC:(ο H8 Cm (.π ((ca ps j).map cV))) Cm=Α (.π ((ca ps j).map cV)):=ac
   have nCx:Cm≠x:=Ϟ (ah ((s6.trans s8) _ _ x5) hCm)
   generalize ο H8 Cm (.π ((ca ps j).map cV))=H9 at s9 gC⊢
   have HG:((ca ps j).map cV).length<=41:=by rw[ϊ];have:=nh ps j;omega
   refine⟨_,Λ,⟨_,DT.of gC⟩,?_⟩
   refine bZ (K:=K) (a:=Cm) (xs:=(ca ps j).map cV) (λt Z Ha=>∃(a6 a7:Option V)(d:List fT)(D:List Key),Off x H Ha/\Ha x=Α (.ρ LC X [("land",.ref R),("entries",.ref I)])/\E4 P w Ha I d/\Ha Av=Α (.dK (nk (nH av)))/\Ha Cm=Α (.π ((ca ps j).map cV))/\d.length<=i* 492+j* 41+t/\HU u ps n out d D/\(∀(p g:Nat)(c:Option Nat),p<n->g<i->c∈ca ps p->((p:Int),(g:Int),c)∈D)/\(∀(p:Nat)(c:Option Nat),p<j->c∈ca ps p->((p:Int),(i:Int),c)∈D)/\(∀c∈(ca ps j).take t,((j:Int),(i:Int),c)∈D)/\Z=[Α (.ref x),Α (.ref Y),Α (.int out),Α (.int (i:Int)),Α (.ref Av),Α (.int (j:Int)),a6,a7])
    ⟨_,_,d,D,o5.same s9,s9 _ _ x5,d5.same s9,s9 _ _ gA5,gC,‹_›,e5,m5,p5,(λc S=>by rw[take_zero]at S;cases S),Λ⟩ (λt Z Ha _ DS=>by obtain⟨_,_,_,_,_,_,_,_,g,_⟩:=DS;exact DT.of g) ?_ ?_
   ·rintro t v Z Ha hv ⟨a6,a7,d,D,oa,xa,UM,UN,gCa,la,ea,Zz,IH,ta,rfl⟩
    rw[Å]at hv
    obtain⟨A,hcc,rfl⟩:∃A,(ca ps j)[t]?=Α A/\v=cV A:=by
     cases e:(ca ps j)[t]? with
     |none=>rw[e]at hv;cases hv
     |some c=>rw[e]at hv;exact⟨c,Λ,(Ϝ hv).symm⟩
    have UC:t<(ca ps j).length:=(gQ0 hcc)
    have hci:=Ϙ hcc
    obtain⟨Z0,Z1,Sv,htfa⟩:=(G oa).i
    obtain⟨Hv,fs2,EO,F1⟩:=W.inst _ _ _ (G oa).j
    rw[Sv]at EO
    injection EO with EO
    injection EO with _ e1 e2
    subst e1 e2
    refine⟨Y,_,_,Λ,Sv,F1,Y,u,⟨(j:Int),(i:Int),A,[]⟩,Λ,(G oa).j,λHb Wd sb hWd=>?_⟩
    have LP:aN ⟨(j:Int),(i:Int),A,[]⟩=bR ((j:Int),(i:Int),A):=rfl
    rw[LP,gY]
    have sc:=sb.new (o:=.π (nV (wl u (bR ((j:Int),(i:Int),A))))) hWd
    have gW:(ο Hb Wd (.π (nV (wl u (bR ((j:Int),(i:Int),A)))))) Wd=Α (.π (nV (wl u (bR ((j:Int),(i:Int),A))))):=ac
    generalize ο Hb Wd (.π (nV (wl u (bR ((j:Int),(i:Int),A)))))=Hc at sc gW⊢
    have gAc:=sc _ _ UN
    have Sw:=hT.ok (bR ((j:Int),(i:Int),A))
    have hwll:=hT.nr (bR ((j:Int),(i:Int),A))
    refine⟨_,Λ,⟨_,DT.of gW⟩,?_⟩
    refine lB (λz=>decide (z∈av)) (by omega) gW (λz acc N hz h=>?_) λFl YH=>?_
    ·refine⟨_,_,Λ,FU.k (k:=Ñ (z:Int)) gAc,_,Λ,?_⟩
     rw[vO av Zq z]
     cases hd:decide (z∈av) with
     |true=>rw[hd]at h;exact aL (h)
     |false=>rw[hd]at h;exact aJ h
    have elw:(wl u (bR ((j:Int),(i:Int),A))).filter (λz=>decide (z∈av))=lO u ps out ((j:Int),(i:Int),A):=by
     unfold lO
     refine Wc λz hz=>?_
     show _=kB u ps out ((i:Int)).toNat z
     rw[Υ]
     cases Ht:kB u ps out i z with
     |true=>exact Ζ ((avm z).mpr ⟨Sw z hz,Ht⟩)
     |false=>exact Η λh=>by rw[((avm z).mp h).2]at Ht;cases Ht
    rw[elw]
    have sd:=sc.new (o:=.π (nV (lO u ps out ((j:Int),(i:Int),A)))) YH
    have gF:(ο Hc Fl (.π (nV (lO u ps out ((j:Int),(i:Int),A))))) Fl=Α (.π (nV (lO u ps out ((j:Int),(i:Int),A)))):=ac
    generalize ο Hc Fl (.π (nV (lO u ps out ((j:Int),(i:Int),A))))=Hd at sd gF⊢
    refine⟨_,_,Λ,DT.of gF,(λz hz=>by have:=Sw z (ϩ.mp hz).1;omega),?_⟩
    have xd:=sd _ _ xa
    refine⟨x,_,X,_,_,Λ,xd,Lc.cl,Lc.ne,Λ,by show 3<=ό;decide,λkt WU=>?_⟩
    have se:=sd.new (o:=.tup [.int (j:Int),.int (i:Int),cV A]) WU
    have gk:(ο Hd kt (.tup [.int (j:Int),.int (i:Int),cV A])) kt=Α (.tup ((bR ((j:Int),(i:Int),A)).map vG)):=by
     rw[ac,←LP,jX]
    generalize ο Hd kt (.tup [.int (j:Int),.int (i:Int),cV A])=He at se gk⊢
    have Sy:=UM.same se
    have hc41:(ca ps j).length<=41:=by have:=nh ps j;omega
    refine⟨I,d,_,_,Λ,Sy,Λ,gk,by rw[Ω];have:i* 492<=12* 492:=Lg _ (by omega);have:j* 41<=12* 41:=Lg _ (by omega);omega,?_⟩
    have Og:∀b o,(∀φ,o≠.ext φ)->Ha b=Α o->(ο He I (lK P w I (ig d (bR ((j:Int),(i:Int),A)) kt (.int (Yd.Ey (lO u ps out ((j:Int),(i:Int),A)) 0:Nat))))) b=Α o:=λb o no e=>by
     rw[ag (aQ e UM.1 (no _))]
     exact se _ _ e
    refine⟨_,_,_,_,λb o nb e=>?_,?_,⟨ac,m8 (F:=λk a=>(ο He I (lK P w I (ig d (bR ((j:Int),(i:Int),A)) kt (.int (Yd.Ey (lO u ps out ((j:Int),(i:Int),A)) 0:Nat))))) a=Α (.tup (k.map vG))) (λy hy=>?_) ?_⟩,?_,?_,?_,ea.put ⟨j,i,A,Λ,hj,hi,hci⟩ kt,λp g c U hg S=>Í _ (Zz p g c U hg S),λp c U S=>Í _ (IH p c U S),λc S=>?_,Λ⟩
    ·rw[ag (ah e Kk)]
     exact se _ _ (oa b o nb e)
    ·exact Og _ _ (λφ z=>by cases z) xa
    ·rw[ag (aQ (Sy.2 y hy) Sy.1 (by intro z;cases z))];exact Sy.2 y hy
    ·rw[ag (aQ gk Sy.1 (by intro z;cases z))];exact gk
    ·exact Og _ _ (λφ z=>by cases z) UN
    ·exact Og _ _ (λφ z=>by cases z) gCa
    ·have:=@gh d (bR ((j:Int),(i:Int),A)) kt (.int (Yd.Ey (lO u ps out ((j:Int),(i:Int),A)) 0:Nat))
     omega
    ·rw[ä,hcc,î]at S
     rcases ϯ.mp S with z|z
     ·exact Í _ (ta c z)
     ·rw[ϙ.mp z];exact ϫ _ ώ
   ·rintro Z Ha ⟨a6,a7,d,D,oa,xa,UM,UN,gCa,la,ea,Zz,IH,ta,rfl⟩
    rw[ϊ,â]at ta
    refine⟨_,_,_,d,D,oa,xa,UM,UN,by rw[succ_mul];omega,ea,Zz,λp c U S=>?_,Λ⟩
    rcases Ě p j with h|h
    ·exact IH p c h S
    ·have:p=j:=by omega
     subst this
     exact ta c S
  ·rintro Z H5 ⟨a5,a6,a7,d,D,o5,x5,d5,gA5,l5,e5,m5,p5,rfl⟩
   have:n* 41<=12* 41:=Lg _ Iu
   refine⟨_,_,_,_,_,d,D,o5,x5,d5,by rw[succ_mul];omega,e5,λp g c U hg S=>?_,Λ⟩
   rcases Ě g i with h|h
   ·exact m5 p g c U h S
   ·have:g=i:=by omega
    subst this
    exact p5 p c U S
 rintro Z H3 ⟨a3,a4,a5,a6,a7,d,D,o3,x3,d3,l3,e3,m3,rfl⟩
 obtain⟨EE,Hk,hLW⟩:=e3.less hT.ok h40 m3
 have Oh:=G o3
 obtain⟨Z2,Z3,Z4,Z5⟩:=Oh.i
 have hLA:∀{O:Hp},DP H3 O->dL P w LC O x EE:=λ{O} s'=>⟨X,I,_,d,s' _ _ x3,Λ,Λ,d3.same s',Hk⟩
 refine⟨Y,_,R,_,_,_,n,_,_,u,Λ,Oh.j,Z4,Z5,Oh.l,Iu,λSt us H4 s4 hSt UO Z6=>⟨St,Λ,⟨_,DT.of UO⟩,?_⟩⟩
 have MG:us.length=(bH u n n).length:=Paired.length Z6
 have hul2:us.length<=144:=by
  rw[MG]
  have:=dC u n n
  have:n* n<=12* 12:=OU Iu Iu
  exact À ‹_› ‹_›
 have HS:∀z∈bH u n n,∃p g:Nat,z=((p:Int),(g:Int))/\p<n/\g<n:=λz hz=>by
  obtain⟨p,U,h⟩:=Č.mp hz
  obtain⟨g,hg,e⟩:=Ö.mp h
  exact⟨p,g,e.symm,È.mp U,È.mp (ϩ.mp hg).1⟩
 unfold vA at q
 generalize bH u n n=zs at q Z6 MG HS
 refine bQ us.length (by rw[Ω];omega) (λi acc O=>DP H4 O/\Ei O acc ((zs.take i).filter (fN u ps out))) ⟨DP.refl _,.nil⟩ (λi acc O h=>by have:=Paired.length h.2;rw[this];exact À (Æ _ _) (ć _ _)) (λi acc O hi h=>⟨⟨us,us[i],DT.of (h.1 _ _ UO),Μ hi⟩,λv H5 hy=>?_⟩) (λacc O h=>⟨⟨us,DT.of (h.1 _ _ UO),Ρ _⟩,λCt hCt=>?_⟩)
 ·obtain⟨e,hy⟩:=hy
  subst e
  obtain⟨s5,GY⟩:=h
  have hv:=hy us (DT.of (s5 _ _ UO))
  obtain⟨z,hz,t,rfl,gt⟩:=Ei.get Z6 hv
  obtain⟨p,g,rfl,U,hg⟩:=HS z (Ϙ hz)
  have KQ:=s4.trans s5
  have gt5:Ec K H5 t [.int (p:Int),.int (g:Int)]:=Ec.of (s5 _ _ gt)
  refine⟨x,X,_,Λ,KQ _ _ x3,Λ,t,_,0,_,Λ,Λ,gt5,aq (j:=0) Λ,t,_,1,_,Λ,Λ,gt5,aq (j:=1) Λ,x,_,⟨(p:Int),(g:Int),Β,[]⟩,Λ,hLA KQ,λH6 D6 s6 hD6=>?_⟩
  have s7:=s6.new (o:=.π (gy (EE (aN ⟨(p:Int),(g:Int),Β,[]⟩)))) hD6
  refine⟨_,.inl ⟨_,DT.of ac,Λ⟩,?_⟩
  generalize ο H6 D6 (.π (gy (EE (aN ⟨(p:Int),(g:Int),Β,[]⟩))))=H7 at s7⊢
  have LP:aN ⟨(p:Int),(g:Int),Β,[]⟩=bR ((p:Int),(g:Int),Β):=rfl
  have eB:(!(!(gy (EE (aN ⟨(p:Int),(g:Int),Β,[]⟩))).isEmpty))=fN u ps out ((p:Int),(g:Int)):=by
   rw[gY,LP,hLW.eq p g Β U hg ώ]
   unfold fN
   cases lO u ps out ((p:Int),(g:Int),Β)<;>rfl
  show if (!(!(gy (EE (aN ⟨(p:Int),(g:Int),Β,[]⟩))).isEmpty))=Δ then _ else _
  rw[eB]
  have J0:=Ei.same s7 GY
  cases hd:fN u ps out ((p:Int),(g:Int)) with
  | true =>
   refine aL ⟨s5.trans s7,?_⟩
   rw[ä,hz,î,ë,Ķ,hd]
   exact Ei.snoc ⟨t,Λ,s7 _ _ (s5 _ _ gt)⟩ J0
  | false =>
   refine aJ ⟨s5.trans s7,?_⟩
   rw[ä,hz,î,ë,Ķ,hd]
   simpa using J0
 obtain⟨s5,GY⟩:=h
 rw[MG,â]at GY
 have s6:=s5.new (o:=.π acc) hCt
 have g6:(ο O Ct (.π acc)) Ct=Α (.π acc):=ac
 have sH6:=(DP.refl O).new (o:=.π acc) hCt
 generalize ο O Ct (.π acc)=H6 at s6 g6 sH6⊢
 refine⟨_,_,Λ,.inl ⟨DT.of g6,λcu UP=>?_⟩⟩
 have Pe:=s4.trans s6
 have s7:=Pe.new (o:=.tup acc) UP
 have g7:(ο H6 cu (.tup acc)) cu=Α (.tup acc):=ac
 have s67:=(DP.refl H6).new (o:=.tup acc) UP
 generalize ο H6 cu (.tup acc)=H7 at s7 g7 s67⊢
 have sH:DP O H7:=sH6.trans s67
 have x7:=s7 _ _ x3
 refine⟨x,_,X,_,Λ,x7,Lc.cl,Lc.nc,by show 2<1000;decide,?_⟩
 have d7:=d3.same s7
 have J0:Ei H7 acc (zs.filter (fN u ps out)):=Ei.same (show DP O H7 from λb o e=>sH b o e) GY
 have ncx:cu≠x:=aQ g7 x7 (by intro z;cases z)
 refine q _ I cu d acc EE (λb o nb e=>?_) ac ⟨?_,λy hy=>?_⟩ Hk hLW ?_ ?_
 ·rw[ag nb]
  exact s7 _ _ (o3 b o nb e)
 ·rw[ag (aQ d7.1 x7 (by intro z;cases z))];exact d7.1
 ·rw[ag (aQ (d7.2 y hy) x7 (by intro z;cases z))];exact d7.2 y hy
 ·rw[ag ncx];exact g7
 ·exact vf x7 J0
theorem wM(h:((dY g S l').getD l 0).testBit b=Δ):(S.getD l 0).testBit b=Δ∨(b=g/\l'=l):=by
 unfold dY at h
 rw[Χ,ņ]at h
 by_cases e:l'=l
 ·rw[Ι e]at h
  split at h
  ·rw[vr,A4,ļ]at h
   rcases h with h|h
   ·rw[e]at h;exact .inl h
   ·rw[nF]at h
    exact .inr ⟨(of_decide_eq_true h).symm,e⟩
  ·rw[ŭ,IS]at h
   cases h
 ·rw[Θ e,←Χ]at h
  exact .inl h
theorem mT:∀(ls:List Nat){S:List Nat},((ls.foldl (dY g) S).getD l 0).testBit b=Δ->(S.getD l 0).testBit b=Δ∨(b=g/\l∈ls)
 |[],_,h =>.inl h
 | x:: ls,S,h=>by
  rcases mT ls h with h|⟨a,c⟩
  ·rcases wM h with h|⟨a,c⟩
   ·exact .inl h
   ·exact .inr ⟨a,by rw[c];exact ώ⟩
  ·exact .inr ⟨a,ϟ _ c⟩
theorem lj:∀{m:Nat},((cK wy ps n m).getD l 0).testBit g=Δ->qR wy ps n g l
 | 0,h=>by
  have e:(cK wy ps n 0).getD l 0=0:=by
   unfold cK
   rw[List.range_zero,List.foldl_nil,Χ,ľ]
   split<;>rfl
  rw[e,IS]at h
  cases h
 | m+1,h=>by
  rw[gr]at h
  rcases mT _ h with h|⟨rfl,h⟩
  ·exact lj h
  ·exact h
theorem jy:∀(n:Nat)(l:List Nat),l.Nodup->(∀x∈l,x<n)->l.length<=n
 | 0,l,_,h=>by
  cases l with
  |nil=>exact Ρ _
  |cons a _=>exact Κ (h a ώ) (Ă _)
 | n+1,l,nd,h=>by
  have b:=jy n (l.erase n) (nd.erase n) λx c=>by
   have d:=h x (List.mem_of_mem_erase c)
   have f:x≠n:=λe=>by subst e;exact(List.Nodup.mem_erase_iff nd).mp c|>.1 Λ
   omega
  rw[List.length_erase]at b
  split at b<;>omega
theorem yV(b:bJ->Nat)(a:bJ):wl b a=[]↔b a=0:=by
 have h:=ll (b a)
 have c:(gy (b a)).isEmpty=decide (b a=0):=by
  have:=congrArg (!·) h
  simpa using this
 unfold gy at c
 unfold wl
 rw[←decide_eq_true_iff (p:=b a=0),←c,List.isEmpty_iff,ı]
def AL(wy:bJ->Nat)(ps:List (Int×Int))(out g l:Nat):Prop:=∃k,jh (dU wy ps g) (vg out) (dN ps g) k l=Δ
theorem j8(h:∀k,∀z∈wl wy k,z<ps.length):kB wy ps out g l=Δ↔AL wy ps out g l:=
 ⟨λz=>⟨_,z⟩,λa=>by obtain⟨_,z⟩:=a;exact pb (L:=ps.length) (x9 h g) z⟩
theorem AL.step(b:vg out l=Δ)(a:dN ps g l=Δ∨∃z∈dU wy ps g l,AL wy ps out g z):AL wy ps out g l:=by
 rcases a with a|⟨z,c,k,d⟩
 ·exact⟨1,E3.mpr ⟨b,.inl a⟩⟩
 ·exact⟨_,E3.mpr ⟨b,.inr ⟨z,c,d⟩⟩⟩
theorem AL.inv(h:AL wy ps out g l):vg out l=Δ/\(dN ps g l=Δ∨∃z∈dU wy ps g l,AL wy ps out g z):=by
 obtain⟨k,a⟩:=h
 cases k with
 |zero=>cases a
 | succ k =>
  obtain⟨b,c⟩:=E3.mp a
  exact⟨b,c.imp id λd=>by obtain⟨z,e,f⟩:=d;exact⟨z,e,k,f⟩⟩
def eV(ps:List (Int×Int))(n:Nat):Prop:=∀l,l<ps.length->∃p:Nat,p<n/\(ps.getD l (0,0)).2=(p:Int)
theorem oX{l p:Nat}(a:l<ps.length)(b:(ps.getD l (0,0)).2=(p:Int)):Α l∈ca ps p:=by
 unfold ca
 refine ϟ _ (Ö.mpr ⟨l,?_,Λ⟩)
 unfold gH
 exact ϩ.mpr ⟨È.mpr a,Ζ b⟩
theorem zH(c:lI wy EE ps n out)(d:eV ps n)(a:l<ps.length)(e:g<n):dU EE ps g l=(dU wy ps g l).filter (kB wy ps out g):=by
 obtain⟨p,f,b⟩:=d l a
 unfold dU
 split
 ·rfl
 ·have h:=c.eq p g (Α l) f e (oX a b)
  rw[b]
  unfold lO at h
  have i:kB wy ps out ((p:Int),(g:Int),Α l).2.1.toNat=kB wy ps out g:=by show kB wy ps out ((g:Int)).toNat=_;rw[Υ]
  rw[i]at h
  exact h
theorem ul(a:lI wy EE ps n out)(h:∀k,∀z∈wl wy k,z<ps.length):∀k,∀z∈wl EE k,z<ps.length:=λk z b=>h k z (a.sub k z b)
theorem lH{S:Nat->Prop}:∀{c:List Nat}{a:As},(∀z∈a.map (·.1),S z)->(∀z∈c,S z)->∀z∈(addW l a c).map (·.1),S z
 |[],a,h,_=>h
 | x:: c,a,h,hw=>by
  rw[j9]
  refine lH ?_ λz b=>hw z (ϟ _ b)
  split
  ·exact h
  ·intro z b
   rw[Ì]at b
   rcases ϯ.mp b with b|b
   ·exact h z b
   ·rw[ϙ.mp b]
    exact hw x ώ
theorem pH{S:Nat->Prop}(b:∀l,S l->∀z∈on l,S z):∀(f:Nat)(a:As)(i:Nat),(∀z∈a.map (·.1),S z)->∀z∈(i4 on f a i).map (·.1),S z
 |0,a,i,h=>h
 | f+1,a,i,h=>by
  cases e:a[i]? with
  |none=>rw[kO e];exact h
  | some x =>
   rw[jp e]
   exact pH b f _ _ (lH h (b x.1 (h x.1 (Ö.mpr ⟨x,Ϙ e,Λ⟩))))
theorem Am{S:Nat->Prop}{n g:Nat}(b:∀p,p<n->∀z∈wl wy [Α (p:Int),Α (g:Int),Β],S z)(c:∀l,S l->∀z∈dU wy ps g l,S z)(h:qR wy ps n g z):S z:=by
 refine pH c _ _ _ (lH (λz a=>by cases a) λz a=>?_) z h
 obtain⟨p,d,a⟩:=Č.mp a
 exact b p (È.mp d) z a
theorem lp(a:lI wy EE ps n out)(b:p<n)(d:g<n)(e:c∈ca ps p):z∈wl EE (bR ((p:Int),(g:Int),c))↔z∈wl wy (bR ((p:Int),(g:Int),c))/\kB wy ps out g z=Δ:=by
 rw[a.eq p g c b d e]
 unfold lO
 rw[ϩ]
 rw[Υ]
theorem Sz(h:∀k,∀z∈wl wy k,z<ps.length)(b:eV ps n)(c:lI wy EE ps n out)(d:g<n)(f:l<ps.length)(i:kB wy ps out g l=Δ)(j:dN ps g l=Ε):dU EE ps g l≠[]:=by
 obtain⟨_,a⟩:=((j8 h).mp i).inv
 rcases a with a|⟨z,m,o⟩
 ·rw[j]at a;cases a
 ·intro e
  have:z∈dU EE ps g l:=by
   rw[zH c b f d]
   exact ϩ.mpr ⟨m,(j8 h).mpr o⟩
  rw[e]at this
  cases this
theorem S0(h:((cK wy ps n n).getD l 0).testBit g=Δ):g<n:=by
 rcases Ě g n with z|z
 ·exact z
 ·have a:(cK wy ps n n).getD l 0<2^n:=by
   rw[Χ]
   cases e:(cK wy ps n n)[l]? with
   |none=>exact Mm n
   |some y=>exact sh wy ps n n (Ρ _) y (Ϙ e)
  rw[ň (ϛ a (Ŝ (by decide) z))]at h
  cases h
theorem vX:gZ wy p g= !decide (wl wy (bR ((p:Int),(g:Int),Β))=[]):=by
 unfold gZ
 have h:=yV wy (bR ((p:Int),(g:Int),Β))
 have e:bR ((p:Int),(g:Int),Β)=[Α (p:Int),Α (g:Int),Β]:=rfl
 rw[e]at h⊢
 by_cases z:wy [Α (p:Int),Α (g:Int),Β]=0
 ·rw[Ζ z,Ζ (h.mpr z)]
 ·rw[Η z,Η λq=>z (h.mp q)]
theorem Of.ω(L:Of K C fw dw):uI K C fw dw (dL P w C):=
 ⟨L.cl,L.m,L.b,(λH x j l=>by obtain⟨c,f,fs,a,d,g,e,h,i⟩:=l;exact⟨c,_,d,e⟩),(λH n x j ⟨c,f,fs,a,d,g,e,h,i⟩ s=>⟨c,f,fs,a,s _ _ d,g,e,h.same s,i⟩)⟩
noncomputable def wf(wy:bJ->Nat):Wf:=λp g k=>wl wy (bR ((p:Int),(g:Int),k))
def E9(P:Program)(w:Î)(C:Ν):TJ:=λH x _ wyf=>∃wy,dL P w C H x wy/\wyf=wf wy
theorem E9.keep(h:E9 P w C H x n wyf)(k:E7 H H'):E9 P w C H' x n wyf:=by
 obtain⟨c,⟨d,f,fs,a,g,b,i,⟨j,l⟩,m⟩,e⟩:=h
 exact⟨c,⟨d,f,fs,a,k _ _ g (by cases fs with|nil=>cases b|cons _ _=>exact Ê),b,i,⟨k _ _ j Ê,λy o=>k _ _ (l y o) Ê⟩,m⟩,e⟩
theorem fJ(p g:Nat)(k:Option Nat):aN ⟨(p:Int),(g:Int),k,[]⟩=bR ((p:Int),(g:Int),k):=rfl
theorem vh(G:DQ P w K mg μ aF 3 f fd ["self","place","goal","came"] (dX (dL P w C))):DQ P w K mg μ aF 3 f fd ["self","place","goal","came"] (eZ (E9 P w C)):=
 G.imp λj H Q E b=>by obtain⟨x,n,c,p,g,k,e,⟨d,h,i⟩,l,m,q⟩:=b;exact⟨x,d,⟨(p:Int),(g:Int),k,[]⟩,e,h,λo D s a=>q D _ (s.new a) (s.free a) (by rw[ac,i,gY,fJ];rfl)⟩
theorem sw(G:DQ P w K mg μ aF 4 f fd ["table"] (iO c C (dL P w C))):DQ P w K mg μ aF 4 f fd ["table"] (wk c C (E9 P w C)):=
 G.imp λI H Q E ⟨a,e,b,q⟩=>by
  obtain⟨d,m,J⟩:=b.j
  obtain⟨o,fs,r,t,_⟩:=b.i
  refine⟨_,o,_,_,_,_,_,_,_,d,e,m,r,t,b.l,b.IF,λD us u s v x y=>q D us _ u s v x y λz A=>?_⟩
  obtain⟨p,B,h⟩:=Č.mp A
  obtain⟨g,F,e⟩:=Ö.mp h
  exact⟨p,g,e.symm,È.mp B,È.mp (ϩ.mp F).1⟩
theorem ub{g l e:Nat}(a:(ps.getD l (0,0)).2=(e:Int))(b:e≠g):dU wy ps g l=wf wy e g (Α l):=by
 unfold dU
 rw[a,Θ (by omega)]
 rfl
theorem xw{al:List Nat}(B:yO n ps (wf wy) nums al)(x:∀k,∀z∈wl wy k,z<ps.length)(y:eV ps n)(q:lI wy EE ps n out):
  yO n ps (wf EE) nums (cK EE ps n n)/\∀l g:Nat,c5 (cK EE ps n n) l g=Δ->out.testBit l=Ε:=by
 have j:=ul q x
 have inv:∀{g l:Nat},g<n->qR EE ps n g l->l<ps.length/\c5 al l g=Δ/\kB wy ps out g l=Δ:=λ{g l} b m=>by
  refine Am (S:=λl=>l<ps.length/\c5 al l g=Δ/\kB wy ps out g l=Δ) (λp t z a=>?_) (λl ⟨f,r,u⟩ z a=>?_) m
  ·have d:=(lp (c:=Β) q t b ώ).mp a
   exact⟨j _ z a,B.st p g t b z d.1,d.2⟩
  ·obtain⟨e,i,v⟩:=y l f
   by_cases o:e=g
   ·unfold dU at a;rw[v,Ι (congrArg Qh ‹_›)]at a;cases a
   rw[ub v o]at a
   have d:=(lp (c:=Α l) q i b (oX f v)).mp a
   exact⟨j _ z a,((B.on l g e f b r v o).2 z d.1).1,d.2⟩
 have s:∀{l g:Nat},c5 (cK EE ps n n) l g=Δ->g<n/\qR EE ps n g l:=λh=>⟨S0 h,lj h⟩
 refine⟨⟨B.nl,jW ..,λz a=>sh _ _ _ _ (Ρ _) z a,λp g t b l f=>?_,λl g e f b r i o=>?_⟩,λl g h=>?_⟩
 ·exact i6 b (j _ l f) (vw j t f)
 ·obtain⟨_,m⟩:=s r
  obtain⟨_,C,u⟩:=inv b m
  have d:=Sz x y q b f u (Η (by rw[i];exact mt Ä ‹_›))
  rw[ub i o]at d
  refine⟨d,λz a=>?_⟩
  have D:z∈dU EE ps g l:=by rw[ub i o];exact a
  have A:=(lp (c:=Α l) q (by obtain⟨E,d,A⟩:=y l f;omega) b (oX f i)).mp a
  exact⟨i6 b (j _ z a) (vW j m D),((B.on l g e f b C i o).2 z A.1).2⟩
 ·obtain⟨b,m⟩:=s h
  obtain⟨_,_,u⟩:=inv b m
  have d:=(AL.inv ((j8 x).mp u)).1
  unfold vg at d
  cases r:out.testBit l with
  |true=>rw[r]at d;cases d
  |false=>rfl
noncomputable def vH(wy:bJ->Nat)(ps:List (Int×Int))(out p g:Nat)(cc:Option Nat):Bool:=decide (p=g)||(wf wy p g cc).any (kB wy ps out g)
theorem S1{out g l e:Nat}(a:∀k,∀z∈wl wy k,z<ps.length)(i:(ps.getD l (0,0)).2=(e:Int)):kB wy ps out g l=(!out.testBit l&& vH wy ps out e g (Α l)):=by
 have b:dN ps g l=Δ∨(∃z∈dU wy ps g l,AL wy ps out g z)↔vH wy ps out e g (Α l)=Δ:=by
  unfold vH dN
  rw[ļ,decide_eq_true_eq,decide_eq_true_eq,i,ō]
  by_cases h:e=g
  ·exact⟨λ_ =>.inl h,λ_ =>.inl (congrArg Qh ‹_›)⟩
  ·rw[ub i h]
   exact⟨λz=>z.elim (λz=>Κ z (mt Ä ‹_›)) λc=>by obtain⟨y,d,f⟩:=c;exact .inr ⟨y,d,(j8 a).mpr f⟩,λz=>z.elim (λz=>Κ z h) λc=>by obtain⟨y,d,f⟩:=c;exact .inr ⟨y,d,(j8 a).mp f⟩⟩
 rw[ĝ,j8 a,É,←b]
 exact⟨λh=>h.inv,λh =>.step h.1 h.2⟩
noncomputable def rk(nums:List Int)(L l:Nat):Nat:=((ϋ L).filter λo=>decide (nums.getD l 0<nums.getD o 0)).length
theorem S2{L l w:Nat}(a:w<L)(h:nums.getD l 0<nums.getD w 0):rk nums L w<rk nums L l:=
 oM (x:=w) (λy b=>Ζ (by have:=of_decide_eq_true b;omega)) (È.mpr a) (Ζ h) (Η (by omega))
theorem S3{L w:Nat}(a:w<L):rk nums L w<L:=by
 have h:=oM (p:=λo=>decide (nums.getD w 0<nums.getD o 0)) (q:=λ_=>Δ) (l:=ϋ L) (x:=w) (λy _=>rfl) (È.mpr a) Λ (Η (by omega))
 unfold rk
 have:=Æ (λ_=>Δ) (ϋ L)
 rw[ã]at this
 exact ϛ ‹_› ‹_›
theorem Z7(m k:Nat):decide (V.int (ç ((m:Int) / 2^(k:Int).toNat) 1)=V.int 0)= !m.testBit k:=by
 have e:(m:Int) / 2^k=((m / 2^k:Nat):Int):=by rw[Int.natCast_ediv,et];rfl
 rw[fL,Υ,e,show (1:Int)=((1:Nat):Int) from Λ,Yd.Fe,xc,VT]
 rcases Nat.mod_two_eq_zero_or_one (m / 2^k) with h|h<;>rw[h]<;>rfl
structure UQ(n:Nat)(ps:List (Int×Int))(wy:bJ->Nat)(nums:List Int)(al:List Nat)(g p:Nat)(cc:Option Nat)(d:Nat):Prop where
 B:yO n ps (wf wy) nums al
 E:eV ps n
 hp:p<n
 hg:g<n
 s:∀l,cc=Α l->l<ps.length/\(ps.getD l (0,0)).2=(p:Int)/\c5 al l g=Δ/\rk nums ps.length l<d
 z:cc=Β->ps.length<d
theorem UQ.on{al:List Nat}{g p:Nat}{b:Option Nat}{d:Nat}(h:UQ n ps wy nums al g p b (d+1))(j:∀k,∀z∈wl wy k,z<ps.length)(m:p≠g){l:Nat}(c:l∈wf wy p g b):∃e:Nat,(ps.getD l (0,0)).2=(e:Int)/\UQ n ps wy nums al g e (Α l) d:=by
 have a:=j _ l c
 obtain⟨e,o,f⟩:=h.E l a
 refine⟨e,f,h.B,h.E,o,h.hg,λv q=>?_,λz=>by cases z⟩
 cases q
 cases b with
 |none=>have:=h.z Λ;have:=S3 (nums:=nums) a;exact⟨a,f,h.B.st p g h.hp h.hg l c,by omega⟩
 | some k =>
  obtain⟨r,t,u,x⟩:=h.s k Λ
  have i:=(h.B.on k g p r h.hg u t m).2 l c
  have:=S2 a i.2
  exact⟨a,f,i.1,by omega⟩
inductive tK(c:Cs)(C:Ν)(J:jK)(d:Nat)(vs:List V)(H:Hp)(Q:VK)(E:XK):Prop
 |mk (x lx Ef lt:Ν) (n:Nat) (DX:List V) (ps:List (Int×Int)) (wy:bJ->Nat) (nums:List Int) (al:List Nat) (out g p:Nat) (cc:Option Nat) (_:vs=[.ref x,.int g,.int p,cV cc,.int out]) (_:EB c C J H x lx Ef lt n DX ps wy) (_:UQ n ps wy nums al g p cc d) (_:∀H',DP H H'->Q (.bl (vH wy ps out p g cc)) H')
abbrev NCo:List Str:=["_law_table","_law_goal","_law_place","_law_came","_law_out","_law_lane"]
abbrev S4:List Str:=["_law_table","_law_goal","_law_place","_law_came","_law_out"]
theorem S5:aw NCo S4 (am rO):=L2.Eu
theorem xR(F:En K "_law_comes" "_law_comes" rO f fd)(L:kC K c)(W:uI K C fw dw J)(nl:Eb K C "land")(Gw:DQ P w K mg μ aF 3 fw dw ["self","place","goal","came"] (dX J))(M:qT K c fe de)(Ge:DQ P w K mg μ aF 1 fe de ["self","lane"] (pz c Ï))
  (mf:mg "_law_comes"=Α (.ref f)) (kf:Ϯ K (.ref f)=Δ) (bf:Binds K fd S4 []):∀d,DQ P w K mg μ aF (4+d) f fd S4 (tK c C J d):=by
 intro d
 induction d with
 | zero =>
  refine⟨λvs H Q E h=>?_,λA outer s H args us vs Q E Y he hb Z h=>?_⟩
  ·obtain⟨x,O,R,lt,n,DX,B,r,t,al,out,g,p,u,rfl,_⟩:=h
   rfl
  ·obtain⟨x,O,R,lt,n,DX,B,r,t,al,out,g,p,u,rfl,G,hC,q⟩:=h
   cases u with
   |none=>exact Κ (hC.z Λ) (Ă _)
   |some l=>exact Κ (hC.s l Λ).2.2.2 (Ă _)
 | succ d ih =>
  refine F.ok S5 λ_ _ _ s H _ Q E Y h=>?_
  obtain⟨x,O,R,lt,n,DX,B,r,t,al,out,g,p,u,rfl,G,hC,q⟩:=h
  have Ex:=Y.mono (show 1<=4+d by omega)
  have JS:=Y.mono (show 3<=4+d by omega)
  refine⟨_,ae (aP (az bN (pv 2) (pv 1) (aC _)) (aj (ay eM)) aE)
   (ae (aT Ϗ Λ (aR (aH (pv 0) W.cl W.m Gw JS W.b .nil ar (aa (pv 2) (aa (pv 1) (aa (pv 3) ad))))) (ax (i:=5) S5.nd Λ (ύ Λ))
    (aj (aP (PW.pt (ge (az bN (aI i5 (aI jv (pv 4) (pv 5)) ao) ao (aC _)) (fB (bA (au ih Y Λ mf kf bf .nil ar (aa (pv 0) (aa (pv 1) (aa (aH (ap (pv 0) Λ) L.cl M.m Ge Ex M.b .nil ar (aa (pv 5) ad)) (aa (pv 5) (aa (pv 4) ad)))))))))) (aj (ay eM)) aE)))
   (aj (ay eM))),?_⟩
  refine⟨Λ,_,Λ,?_⟩
  rw[bK]
  unfold vH at q
  by_cases hn:p=g
  ·rw[Ζ (show (p:Int)=(g:Int) from congrArg Qh ‹_›)]
   rw[Ζ hn]at q
   exact aL (q _ (DP.refl _))
  rw[Η (show ¬(p:Int)=(g:Int) from mt Ä ‹_›)]
  rw[Η hn,Ű]at q
  obtain⟨dx,fs,hx,hf⟩:=G.i
  obtain⟨Hv,GD,EO,F1⟩:=W.inst _ _ _ G.j
  rw[hx]at EO
  cases EO
  refine aJ ⟨x,dx,fs,Λ,hx,F1,x,r,⟨(p:Int),(g:Int),u,[]⟩,Λ,G.j,λH1 D s1 hD=>?_⟩
  rw[gY,fJ]
  have S:=s1.new (o:=.π (nV (wl r (bR ((p:Int),(g:Int),u))))) hD
  have gD:(ο H1 D (.π (nV (wl r (bR ((p:Int),(g:Int),u)))))) D=Α (.π (nV (wf r p g u))):=ac
  generalize ο H1 D (.π (nV (wl r (bR ((p:Int),(g:Int),u)))))=H2 at S gD⊢
  have Hu:=λl hl=>hC.on G.ok hn (l:=l) hl
  generalize wf r p g u=T at gD q Hu
  refine⟨D,Λ,⟨_,DT.of gD⟩,?_⟩
  refine bZ (K:=K) (a:=D) (xs:=nV T) (λi σ I=>∃U:Option V,DP H2 I/\(∀l∈T.take i,kB r B out g l=Ε)/\σ=[Α (.ref x),Α (.int g),Α (.int p),Α (cV u),Α (.int out),U]) ⟨Β,DP.refl _,(λl h=>by cases h),Λ⟩ (λi σ I _ DS=>by obtain⟨_,y,_⟩:=DS;exact DT.of (y _ _ gD)) ?_ ?_
  ·rintro i v σ I Z ⟨U,y,hF,rfl⟩
   have hi:i<T.length:=by have:=(gQ0 Z);rw[aW]at this;exact this
   have GO:=Μ hi
   have hm:=ă hi
   rw[dH GO]at Z
   cases Z
   generalize T[i]=l at GO hm
   obtain⟨e,he,X⟩:=Hu l hm
   have Ht:=S1 (out:=out) (g:=g) G.ok he
   have ET:=(X.s l Λ).1
   have Jq:=G.same W (S.trans y)
   have Uy:kB r B out g l=Ε->∃U:Option V,DP H2 I/\(∀l∈T.take (i+1),kB r B out g l=Ε)/\True:=λh=>⟨U,y,λz N=>by
    rw[ä,GO]at N
    rcases ϯ.mp N with N|N
    ·exact hF z N
    ·rw[ϙ.mp N];exact h,trivial⟩
   refine⟨_,_,Λ,Λ,(show (0:Int)<=(l:Int) from Φ _),_,_,Λ,Λ,Λ,_,Λ,?_⟩
   rw[Z7]
   cases hb:out.testBit l with
   | true =>
    rw[hb]at Ht
    obtain⟨_,_,h2,_⟩:=Uy Ht
    exact aJ (aJ ⟨_,y,h2,Λ⟩)
   | false =>
    rw[hb,Bool.not_false,ñ]at Ht
    have YD:=Μ ET
    have ee:(B[l]).2=(e:Int):=by rw[←he,Χ,YD];rfl
    refine aL ⟨x,C,dx,fs,_,Λ,(S.trans y) _ _ hx,W.cl,nl,hf,O,R,_,Λ,Jq.l.1,Λ,O,R,lt,(n:Int),DX,B,l,_,Λ,Jq.l,YD,x,O,R,lt,n,DX,B,r,t,al,out,g,e,Α l,by rw[ee];rfl,Jq,X,λH4 s4=>⟨_,Λ,?_⟩⟩
    rw[←Ht]
    cases ha:kB r B out g l with
    | true =>
     refine aL ?_
     have:=q H4 (S.trans (y.trans s4))
     rw[ō.mpr ⟨l,hm,ha⟩]at this
     exact this
    | false =>
     obtain⟨_,_,h2,_⟩:=Uy ha
     exact aJ ⟨_,y.trans s4,h2,Λ⟩
  rintro σ I ⟨U,y,hF,rfl⟩
  rw[aW,â]at hF
  have:=q I (S.trans y)
  rw[n7.mpr λl hl=>by rw[hF l hl];decide]at this
  exact this
theorem Dt{out p g:Nat}(h:p≠g):fN wy ps out ((p:Int),(g:Int))= !vH wy ps out p g Β:=by
 unfold fN vH lO wf
 rw[Η h,Ű]
 rw[Υ]
 cases a:(wl wy (bR ((p:Int),(g:Int),Β))).any (kB wy ps out g) with
 | true =>
  obtain⟨z,b,c⟩:=ō.mp a
  exact Η λe=>by have:=ϩ.mpr ⟨b,c⟩;rw[e]at this;cases this
 |false=>exact Ζ (Ŕ.mpr λz d=>n7.mp a z d)
theorem y9(c:∀p,wf wy p p Β=[]):(b7 wy i (j+1)).filter (fN wy ps out)=(b7 wy i j).filter (fN wy ps out)++if i≠j/\wf wy i j Β≠[]/\vH wy ps out i j Β=Ε then [((i:Int),(j:Int))] else []:=by
 rw[kP,vX]
 have no:∀{p:Prop} [Decidable p] {x y:List (Int×Int)},¬p->x++(if p then y else [])=x:=λh=>by rw[Θ h,ĕ]
 by_cases b:i=j
 ·subst b
  rw[no (λz=>z.1 Λ),Ζ (show wl wy (bR ((i:Int),(i:Int),Β))=[] from c i)]
  rfl
 ·by_cases a:wf wy i j Β=[]
  ·rw[no (λz=>z.2.1 a),Ζ (show wl wy (bR ((i:Int),(j:Int),Β))=[] from a)]
   rfl
  ·rw[Η (show ¬wl wy (bR ((i:Int),(j:Int),Β))=[] from a)]
   show((b7 wy i j)++[_]).filter _=_
   rw[ë]
   congr 1
   rw[Ķ,Dt b]
   cases d:vH wy ps out i j Β with
   |true=>exact(Θ (λz=>by cases z.2.2)).symm
   |false=>exact(Ι ⟨b,a,Λ⟩).symm
inductive Bh(c:Cs)(C:Ν)(J:jK)(vs:List V)(H:Hp)(Q:VK)(E:XK):Prop
 |mk (x lx Ef lt:Ν) (n:Nat) (DX:List V) (ps:List (Int×Int)) (wy:bJ->Nat) (nums:List Int) (al:List Nat) (out:Nat) (_:vs=[.ref x,.int out]) (_:EB c C J H x lx Ef lt n DX ps wy) (_:yO n ps (wf wy) nums al) (_:eV ps n) (_:ps.length<10) (_:∀p,wf wy p p Β=[]) (_:∀(D:Ν)(us:List V)(H':Hp),DP H H'->H D=Β->H' D=Α (.π us)->Ei H' us (vA wy ps n out)->Q (.ref D) H')
abbrev NCt:List Str:=["_law_table","_law_out","_law_found","_law_place","_law_goal"]
theorem LQ:aw NCt ["_law_table","_law_out"] (am Cj):=L2.Eu
theorem CN(F:En K "_law_cut" "_law_cut" Cj f fd)(T:eD mg)(L:kC K c)(W:uI K C fw dw J)(nl:Eb K C "land")(Gw:DQ P w K mg μ aF 3 fw dw ["self","place","goal","came"] (dX J))
  (mo:mg "_law_comes"=Α (.ref fo)) (ko:Ϯ K (.ref fo)=Δ) (bo:Binds K do_ S4 []) (Go:DQ P w K mg μ aF 14 fo do_ S4 (tK c C J 10)):DQ P w K mg μ aF 15 f fd ["_law_table","_law_out"] (Bh c C J):=by
 refine F.ok LQ λ_ _ _ s H _ Q E Z h=>?_
 obtain⟨x,lx,Ef,lt,n,DX,d,a,G,al,out,rfl,p,hB,hE,hp9,hd,q⟩:=h
 have hu:=Z.units
 have hn:=p.IF
 have JS:Ea 3 _:=Z.mono (by decide)
 refine⟨_,ae (aB (i:=2) LQ.nd Λ (ύ Λ) (aU ad))
  (ae (aT Ϗ Λ (aO Λ T.range (aa (ap (ap (pv 0) Λ) Λ) ad)) (ax (i:=3) LQ.nd Λ (ύ Λ))
   (aj (aT Ϗ Λ (aO Λ T.range (aa (ap (ap (pv 0) Λ) Λ) ad)) (ax (i:=4) LQ.nd Λ (ύ Λ))
    (aj (aP (iT (PW.pt (ge (az jE (pv 3) (pv 4) (aC _)) (ge (az (kY hu) (aH (pv 0) W.cl W.m Gw JS W.b .nil ar (aa (pv 3) (aa (pv 4) (aa b9 ad)))) (aU ad) (aC _)) (fB (bE (bA (au Go Z Λ mo ko bo .nil ar (aa (pv 0) (aa (pv 4) (aa (pv 3) (aa b9 (aa (pv 1) ad)))))))))))))
     (aj (aX (cF plainAttrs_list PySem.F.slot_list_append PySem.F.type_list_append bX (pv 2) (aa (bM (aa (pv 3) (aa (pv 4) ad))) ad)))) aE)))))
  (aj (ay (pv 2)))),?_⟩
 obtain⟨dx,fs,R,hf⟩:=p.i
 obtain⟨Hv,GD,EO,F1⟩:=W.inst _ _ _ p.j
 rw[R]at EO
 cases EO
 refine⟨Ϧ _,λD hD=>?_⟩
 have S:=(DP.refl H).new (o:=.π []) hD
 have g0:(ο H D (.π [])) D=Α (.π []):=ac
 generalize ο H D (.π [])=H0 at S g0⊢
 refine⟨x,C,_,_,_,Λ,S _ _ R,W.cl,nl,hf,_,_,_,_,_,Λ,S _ _ p.l.1,L.cl,L.np,Λ,_,Λ,Φ _,by omega,?_⟩
 rw[Υ]
 refine aV (n:=n) (λi r A=>∃(a2 t:Option V)(us:List V),DP H A/\A D=Α (.π us)/\Ei A us ((bH a n i).filter (fN a d out))/\r=[Α (.ref x),Α (.int out),Α (.ref D),a2,t]) ⟨Β,Β,[],S,g0,.nil,Λ⟩ ?_ ?_
 rotate_left
 ·rintro r A ⟨a2,t,us,I,g2,hL,rfl⟩
  exact(q D us A I hD g2 hL)
 rintro i r A hi ⟨a2,t,us,I,g2,hL,rfl⟩
 rw[Þ]
 refine⟨x,C,_,_,_,Λ,I _ _ R,W.cl,nl,hf,_,_,_,_,_,Λ,I _ _ p.l.1,L.cl,L.np,Λ,_,Λ,Φ _,by omega,?_⟩
 rw[Υ]
 refine aV (n:=n) (λj r u=>∃(t:Option V)(us:List V),DP H u/\u D=Α (.π us)/\Ei u us ((bH a n i).filter (fN a d out)++(b7 a i j).filter (fN a d out))/\r=[Α (.ref x),Α (.int out),Α (.ref D),Α (.int (i:Int)),t]) ⟨_,us,I,g2,by rw[show b7 a i 0=[] from Λ,List.filter_nil,ĕ];exact hL,Λ⟩ ?_ ?_
 rotate_left
 ·rintro r u ⟨t,us,v,M,B,rfl⟩
  exact⟨_,_,_,v,M,by rw[fX,ë];exact B,Λ⟩
 rintro j r u hj ⟨t,us,v,M,B,rfl⟩
 rw[Þ]
 rw[y9 hd,←Ļ]
 have MG:us.length<=1000:=by
  rw[Paired.length B,ϗ]
  have h1:=Æ (fN a d out) (bH a n i)
  have h2:=Æ (fN a d out) (b7 a i j)
  have h3:=dC a n i
  have h4:=oj a i j
  have:i* n<=12* 12:=OU (by omega) hn
  omega
 generalize (bH a n i).filter (fN a d out)++(b7 a i j).filter (fN a d out)=bs at B
 refine⟨λb N=>DP u N/\b=decide (i≠j/\wf a i j Β≠[]/\vH a d out i j Β=Ε),?_,?_⟩
 ·refine⟨Λ,_,Λ,?_⟩
  rw[bK]
  by_cases Nw:i=j
  ·rw[Ζ (show (i:Int)=(j:Int) from congrArg Qh ‹_›)]
   exact aJ ⟨DP.refl u,by rw[Η (λz=>z.1 Nw)]⟩
  rw[Η (show ¬(i:Int)=(j:Int) from mt Ä ‹_›)]
  refine aL ⟨x,dx,fs,Λ,v _ _ R,F1,x,a,⟨(i:Int),(j:Int),Β,[]⟩,Λ,(p.same W v).j,λN O g hDw=>?_⟩
  rw[gY,fJ]
  have s5:=g.new (o:=.π (nV (wl a (bR ((i:Int),(j:Int),Β))))) hDw
  have Ph:(ο N O (.π (nV (wl a (bR ((i:Int),(j:Int),Β)))))) O=Α (.π (nV (wf a i j Β))):=ac
  generalize ο N O (.π (nV (wl a (bR ((i:Int),(j:Int),Β)))))=H5 at s5 Ph⊢
  refine⟨Ϧ _,λo ho=>?_⟩
  have U:=s5.new (o:=.π []) ho
  have S6:(ο H5 o (.π [])) O=Α (.π (nV (wf a i j Β))):=by rw[ag (ah Ph ho)];exact Ph
  have g7:(ο H5 o (.π [])) o=Α (.π (([]:List Int).map V.int)):=ac
  generalize ο H5 o (.π [])=H6 at U S6 g7⊢
  refine⟨O,o,_,_,Λ,Λ,by rw[←o0];exact DT.of S6,DT.of g7,_,Λ,?_⟩
  by_cases X:wf a i j Β=[]
  ·rw[Ζ (show iz (wf a i j Β)=[] by rw[X];rfl)]
   exact aJ ⟨U,by rw[Η (λz=>z.2.1 X)]⟩
  rw[Η (show ¬iz (wf a i j Β)=[] from λz=>X (by unfold iz at z;exact ı.mp z))]
  refine aL ⟨x,lx,Ef,lt,n,DX,d,a,G,al,out,j,i,Β,Λ,p.same W (v.trans U),⟨hB,hE,hi,hj,(λl e=>by cases e),λ_=>hp9⟩,λH7 s7=>⟨_,Λ,U.trans s7,?_⟩⟩
  cases hc:vH a d out i j Β with
  |true=>exact(Η λz=>by cases z.2.2).symm
  |false=>exact(Ζ ⟨Nw,X,Λ⟩).symm
 rintro b N ⟨g,rfl⟩
 by_cases Y:i≠j/\wf a i j Β≠[]/\vH a d out i j Β=Ε
 ·rw[Ζ Y,Ι Y]
  refine aL ⟨.inl ⟨Λ,_,DT.of (g _ _ M)⟩,by show 2<=ό;decide,λt1 h1=>?_⟩
  obtain⟨k1,k2,k3⟩:=qM (x:=(i:Int)) (y:=(j:Int)) hD (v.trans g) (g _ _ M) (Ei.same g B) h1
  exact⟨D,_,_,Λ,Λ,k1,by rw[Ω];omega,_,_,k2,ac,k3,Λ⟩
 ·rw[Η Y,Θ Y,ĕ]
  exact aJ ⟨_,us,v.trans g,g _ _ M,Ei.same g B,Λ⟩
inductive AY(K:ϧ)(f1 f2:Str)(vs:List V)(H:Hp)(Q:VK)(_:XK):Prop
 |mk (e C tt v1 v2)(_:vs=[.ref e,v1,v2])(_:H e=Α (jk e C tt Β))(_:qO K C)(_:Ë K (.ref C) f1=Α Β)(_:Ë K (.ref C) f2=Α Β)(_:∀d H',H d=Β->(∀b o,b≠e->H b=Α o->H' b=Α o)->H' e=Α (jk e C tt (Α d))->H' d=Α (.xd [(f1,v1),(f2,v2)])->Q .Eh H')
structure Z8(K:ϧ)(mg:Str->Option Τ)(C f:Ν)(d:Ý):Prop where
 m:mg "NoWay"=Α (.ref C)
 x:j5 K C (Α (.ref f))=Δ
 k:Ϯ K (.ref C)=Δ
 c:qO K C
 n1:Ë K (.ref C) "start"=Α Β
 n2:Ë K (.ref C) "goal"=Α Β
 i:isFn K (.ref f)=Δ
 F:En K "__init__" "NoWay.__init__" Ui f d
 b:Binds K d ["self","start","goal"] []
 e:PySem.W.exmOne K (.ref C) (.ref C)=Α Δ
inductive sZ(K:ϧ)(c:Cs)(TC:Ν)(J:TJ)(ys:Ys)(nw:Ν)(vs:List V)(H:Hp)(Q:VK)(E:XK):Prop
 |mk (a:YA) (s:YS) (p g:Nat) (_:vs=[.ref a.y,.int p,.int g,.int 1,.int 0]) (_:JM K c TC J ys H a s) (_:p<a.n) (_:g<a.n) (_:a.wy p g Β=[]) (_:∀H' d,DP H H'->H' d=Α (.xd [("start",.int p),("goal",.int g)])->E (.ref nw) (Α d) H')
inductive wo(K:ϧ)(c:Cs)(TC:Ν)(J:TJ)(ys:Ys)(vs:List V)(H:Hp)(Q:VK)(E:XK):Prop
 |mk (a:YA) (s:YS) (p g:Nat) (_:vs=[.ref a.y,.int p,.int g]) (_:JM K c TC J ys H a s) (_:p<a.n) (_:g<a.n) (_:a.wy p g Β=[]) (_:∀H',DP H H'->Q (.bl Δ) H')
abbrev NRw:List Str:=["_law_yard","_law_start","_law_goal","_law_found","e"]
theorem Z9:aw ["self","start","goal"] ["self","start","goal"] (am Ui):=L2.Eu
theorem S7(F:En K "__init__" "NoWay.__init__" Ui f fd):DQ P w K mg μ aF 1 f fd ["self","start","goal"] (AY K "start" "goal"):=by
 refine F.ok Z9 λ_ _ _ s H _ Q E u h=>?_
 obtain⟨e,C,i,n,v,rfl,j,l,p,r,q⟩:=h
 refine⟨_,ae (xv (pv 0) (pv 1) Λ) (aj (xt (pv 0) (pv 2) Λ)),e,C,i,Λ,j,l,p,λd g=>?_⟩
 have a:=ah j g
 refine⟨e,C,i,d,_,Λ,ac,by rw[ag (Ϟ a)];exact ac,by show 1<1000;decide,l,r,?_⟩
 refine q d _ g (λb o t m=>?_) (by rw[ag a];exact ac) (by rw[ac];rfl)
 have c:=ah m g
 rw[ag c,ag t,ag c]
 exact m
theorem xC(F:HI K "post" "Yard.post" im f fd)(L:kC K c)(Y:jA K ys)(W:Wy K TC N2 N3 J)(Kp:DQ P w K mg μ aF 3 N2 N3 ["self","place","goal","came"] (eZ J))
  (G:mg "is_within"=Α (.ref fw)) (I:Ϯ K (.ref fw)=Δ) (M:Binds K dw ["value","least","most"] []) (N:DQ P w K mg μ aF 2 fw dw ["value","least","most"] eJ)
  (Xh:mg "is_word"=Α (.ref NA)) (Xi:Ϯ K (.ref NA)=Δ) (Xj:Binds K Rq ["word"] []) (OM:DQ P w K mg μ aF 2 NA Rq ["word"] rl)
  (mL:mg "MOST_LENGTH"=Α (.int 60 t1)) (r:Z8 K mg nw UR US):
  DQ P w K mg μ (AV P w) 4 f fd Bw (sZ K c TC J ys nw):=by
 have O:DQ P w K mg μ aF 1 UR US ["self","start","goal"] (AY K "start" "goal"):=S7 r.F
 refine F.okX Lx λ_ _ _ s H _ Q E X h=>?_
 obtain⟨a,st,p,g,rfl,B,Z,hg,hw,q⟩:=h
 have t:Ea 2 _:=X.mono (by decide)
 refine⟨_,ae (aB (i:=5) Lx.nd Λ (ύ Λ) (aI e8 (ap (ap (ap (pv 0) Λ) Λ) Λ) ao))
  (ae (aP (PW.pt (fZ (bE (bA (au N t Λ G I M .nil ar (aa (pv 1) (aa ao (aa (pv 5) ad)))))) (dD (bE (bA (au N t Λ G I M .nil ar (aa (pv 2) (aa ao (aa (pv 5) ad))))))))) (aj aY) aE)
  (ae (aP (bE (bA (au N t Λ G I M .nil ar (aa (pv 3) (aa ao (aa (dR (v:=.int 60) Λ mL ⟨_,Λ⟩) ad)))))) (aj aY) aE)
  (ae (aP (bE (bA (au OM t Λ Xh Xi Xj .nil ar (aa (pv 4) ad)))) (aj aY) aE)
  (ae (aP (iT (PW.pt (fZ (az bN (pv 1) (pv 2) (aC _)) (dD (bE (dE (aH (ap (pv 0) Λ) W.cl W.m Kp X W.b .nil ar (aa (pv 1) (aa (pv 2) (aa b9 ad)))) (λ_=>rfl)))))))
   (aj (xr Λ r.x uU (zu r.x r.i r.k O t r.b Λ r.m (aa (pv 1) (aa (pv 2) ad))))) aE)
  (ae aY (ae aY (ae aY (aj aY)))))))),?_⟩
 obtain⟨IG,u,HJ,EK,FK⟩:=B.T.i
 have hY:=B.Y
 refine⟨_,_,_,_,_,Λ,hY.ρ,Y.cl,Y.n1,Λ,_,_,_,u,_,Λ,HJ,W.cl,W.nl,EK,_,_,_,_,_,Λ,B.T.l.1,L.cl,L.np,Λ,_,_,Λ,Λ,?_⟩
 have A:∀x:Nat,x<a.n->lN (.int (x:Int)) 0 ((a.n:Int) - 1)=Δ:=λx h=>Ζ (by omega)
 refine⟨_,0,_,Λ,.int _,_,Λ,?_⟩
 rw[A p Z]
 refine aJ ⟨.int g,0,(a.n:Int) - 1,Λ,.int _,_,Λ,?_⟩
 rw[A g hg]
 refine aJ ⟨.int 1,1,60,Λ,.int _,_,Λ,aJ ⟨.int 0,Λ,.int _,_,Λ,?_⟩⟩
 rw[show QL (.int 0)=Δ by decide +kernel]
 refine aJ ⟨λk R=>DP H R/\k=Δ,?_,?_⟩
 ·refine⟨Λ,_,Λ,?_⟩
  rw[bK]
  cases ON:decide ((p:Int)=(g:Int)) with
  |true=>exact aL ⟨DP.refl H,Λ⟩
  |false=>exact aJ ⟨a.y,ys.DU,a.dy,_,_,Λ,hY.ρ,Y.cl,Y.n1,Λ,a.tb,IG,u,Λ,HJ,FK,a.tb,a.n,a.wy,p,g,Β,Λ,B.T.j,Z,hg,λD R C hD gD=>⟨_,.inl ⟨_,DT.of gD,Λ⟩,C,by rw[hw];rfl⟩⟩
 rintro k R ⟨C,rfl⟩
 refine aL ⟨by show 2<=ό;decide,λe tt he=>⟨e,_,tt,_,_,Λ,ac,r.c,r.n1,r.n2,λd H2 hd off KA S=>⟨Λ,Α d,KA,?_⟩⟩⟩
 have Lp:d≠e:=λz=>by rw[z,ac]at hd;cases hd
 refine q _ d (λz o ez=>?_) (by rw[gJ Lp];exact S)
 have U:=ah (C _ _ ez) he
 rw[gJ U]
 exact off z o U (by rw[ag U];exact C _ _ ez)
theorem LR:aw NRw ["_law_yard","_law_start","_law_goal"] (am wR):=L2.Eu
theorem zO(F:En K "_law_refused" "_law_refused" wR f fd)(Y:jA K ys)(W:Wy K TC fw dw J)(X:Z8 K mg nw UR US)(R:cb K ys.DU "post" fp)(S:Binds K dp Bw [Ĝ 0 tk])(T:DQ P w K mg μ (AV P w) 4 fp dp Bw (sZ K c TC J ys nw)):
  DQ P w K mg μ aF 5 f fd ["_law_yard","_law_start","_law_goal"] (wo K c TC J ys):=by
 refine F.ok LR λ_ _ _ s H _ Q E z h=>?_
 obtain⟨a,U,p,g,rfl,Z,hp,hg,hw,q⟩:=h
 have hu:=z.units
 refine⟨_,ae (aB (i:=3) LR.nd Λ (ύ Λ) (aU ad))
  (ae (xq (i:=4) Λ Λ LR.nd Λ Λ Λ X.m (AJ (xx (pv 0) Y.cl R T z S (.cons (show RelV (.int 0) _ from ⟨_,Λ⟩) .nil) Λ (aa (pv 1) (aa (pv 2) (aa ao ad)))))
   (λj l=>aj (aB (i:=3) LR.nd Λ (ύ Λ) (aU (aa (tU (pv 4) Λ) (aa (tU (pv 4) Λ) ad))))))
  (aj (ay (cP (C0 hu) (pv 3) (aU (aa (pv 1) (aa (pv 2) ad))) (aC _))))),?_⟩
 refine⟨Ϧ _,λFo n=>?_⟩
 have r:=(DP.refl H).new (o:=.π []) n
 generalize ο H Fo (.π [])=H1 at r⊢
 have A:=Z.same W r
 refine⟨_,_,_,Λ,A.Y.ρ,Λ,a,U,p,g,Λ,A,hp,hg,hw,λt d s' B=>⟨X.e,λj l C D G I hea=>?_⟩⟩
 refine⟨j,l,_,C,d,_,_,Λ,.head _,D,I,G,B,X.c,X.n1,Λ,j,l,_,C,d,_,_,Λ,.head _,D,I,G,B,X.c,X.n2,Λ,by show 2<=ό;decide,λb u=>?_⟩
 have L:=(DP.refl t).new (o:=.π [.int p,.int g]) u
 have M:(ο t b (.π [.int p,.int g])) b=Α (.π (([(p:Int),(g:Int)]).map V.int)):=ac
 generalize ο t b (.π [.int p,.int g])=N at L M⊢
 refine⟨by show 2<=ό;decide,λv x=>?_⟩
 have O:=(DP.refl N).new (o:=.π [.int p,.int g]) x
 have g4:(ο N v (.π [.int p,.int g])) v=Α (.π (([(p:Int),(g:Int)]).map V.int)):=ac
 refine⟨b,v,_,_,Λ,Λ,DT.of (O _ _ M),DT.of g4,?_⟩
 rw[Ζ Λ]
 exact q _ (r.trans (s'.trans (L.trans O)))
end K93
namespace L2
open PySem PySem.Spec
end L2
namespace K93
open PySem L2
variable {P:Program}{w:Î}{K:ϧ}{mg:Str->Option Τ}{μ:Ü}
structure Rv(K:ϧ)(c:Cs)(TC:Ν)(J:TJ)(ys:Ys)(H:Hp)(a:YA)(s:YS)(N:Nat->Nat->Nat)(nums:List Int)(S:List Nat)(rs:List Int):Prop where
 I:JM K c TC J (yx ys []) H a s
 J:Ff a s
 C:Kv a s N
 R:JR nums S s
 W:OY a s
 ro:s.rooms=rs.map V.int
 l4:∀t∈s.DO,0<=t.len/\t.len<=4
 P:yO a.n a.ps a.wy nums S
 rr:∀r∈rs,1<=r/\r<=60
section
variable {K:ϧ}{c:Cs}{TC fw:Ν}{dw:Ý}{J:TJ}{ys:Ys}{H H2:Hp}{a:YA}{s s':YS}{N:Nat->Nat->Nat}{nums:List Int}{S:List Nat}{rs:List Int}{m:Mv}
theorem Rv.same(W:Wy K TC fw dw J)(h:Rv K c TC J ys H a s N nums S rs)(e:DP H H2):Rv K c TC J ys H2 a s N nums S rs:=
 ⟨h.I.same W e,h.J,h.C,h.R,h.W,h.ro,h.l4,h.P,h.rr⟩
theorem Rv.room(h:Rv K c TC J ys H a s N nums S rs){k:Nat}(f:s.γ[k]?=Α ln):1<=ln.r+ln.b+ln.qs.length:=by
 have d:=(h.C.G.room k ln f).1
 rw[h.ro,Å]at d
 cases e:rs[k]? with
 |none=>rw[e]at d;cases d
 |some r=>rw[e]at d;have d:=Ϝ d;injection d with d;rw[←d];exact(h.rr r (Ϙ e)).1
theorem Rv.never(h:Rv K c TC J ys H a s N nums S rs)(b:cy a s=[]):qo s=Δ:=
 K93.never h.P h.I.O h.R h.C.G h.J (BL b) (λk e d=>h.room d) h.W h.I.T.ok
theorem Rv.most(h:Rv K c TC J ys H a s N nums S rs):s.done.length<=20000:=by
 have d:=h.C.most h.J
 have e:=(um h.l4).2
 have f:=h.J.EH
 have g:=h.J.JE
 have b:yk s<=240:=by unfold yk;omega
 have i:yk s* (2* a.ps.length+1:Nat)<=240* 81:=Int.mul_le_mul b (by omega) (Φ _) (by decide)
 omega
theorem Rv.move(W:Wy K TC fw dw J)(h:Rv K c TC J ys H a s N nums S rs)(b:GC a s m s')(o:Ee a.four H H2)(i:F0 K (yx ys []) H2 a {s' with done:=s.done++[eO m]}):∃d,Rv K c TC J ys H2 a {s' with done:=s.done++[eO m]} d nums S rs:=by
 obtain⟨d,j⟩:=h.C.step h.J b
 have f:Ff a {s' with done:=s.done++[eO m]}:=(h.J.step b).done _
 refine⟨d,⟨i,F5.keep W h.I.T (Ee.Er (λz l=>h.I.Y.Ja z l) o),h.I.O,f.ok⟩,f,j,(h.R.step h.P h.I.O h.J b).dn _,λp n=>h.W p (b.sgs▸n),b.rooms.trans h.ro,λt q=>?_,h.P,h.rr⟩
 have:t.len∈s.DO.map (·.len):=by rw[←b.Yb];exact İ q
 obtain⟨g,r,e⟩:=Ö.mp this
 have:=h.l4 g r
 have e:=e
 omega
end
theorem qJ:∀{l:List bD},(∀t∈l,t.δ<=t.len)->(l.map (·.δ)).sum=(l.map (·.len)).sum->∀t∈l,t.δ=t.len
 |[],_,_,t,a=>by cases a
 | x:: l,h,e,t,a=>by
  have c:=h x ώ
  have d:=nL λy b=>h y (ϟ _ b)
  rw[Ϭ,Ϭ,Ù,Ù]at e
  rcases ϥ.mp a with rfl|a
  ·omega
  ·exact qJ (λy b=>h y (ϟ _ b)) (by omega) t a
theorem DB(h:Rv K c TC J ys H a s N nums S rs)(g:cy a s=[])(m:Nat)(t:bD)(b:s.DO[m]?=Α t):∃(p n:Nat)(d:List (Int×Int)),t.ι=(p:Int)/\t.len=(n:Int)/\n<=60/\s.ε[p]?=Α d/\d.length<=3600/\cM m d=iR 0 n:=by
 have l:=h.never g
 have o:=vx h.J l
 have B:=of_decide_eq_true l
 have D:∀t∈s.DO,t.δ=t.len:=by
  refine qJ (λt b=>?_) ?_
  ·obtain⟨m,g⟩:=ô b
   exact(h.J.FL m t g).2.1
  ·have T:iJ s=0:=vV _ λk E F=>by rw[o k E F];rfl
   have r:=h.J.sum
   have r:((iJ s:Nat):Int)+(ie s:Nat)=(s.DO.map (·.δ)).sum:=r
   rw[B,iK]
   have U:(ie s:Nat)=(s.ε.map λq=>q.length).sum:=rfl
   omega
 obtain⟨x,y,X,u,Y,v⟩:=h.J.lets m t b
 have I:=h.J.FL m t b
 have f:=Μ (show y<s.ε.length by rw[h.J.ε];exact v)
 generalize s.ε[y]'(by rw[h.J.ε];exact v)=d at f
 have L:∀i,i<=t.ω.length->N m i=N m 0:=λi=>by
  induction i with
  |zero=>intro _;rfl
  | succ i M =>
   intro Z
   have j:i<t.ω.length:=‹_›
   have d1:=h.C.G.dn m t b i j
   have O:=Μ j
   have Q:=(h.J.EG m t b).1 _ (ă j)
   have z:=Μ (show t.ω[i]<s.γ.length by rw[h.J.γ];exact Q)
   have e:=h.C.G.q m t b i _ _ O z
   rw[o _ _ z]at e
   have A:(iR (N m (i+1)+zr m (i+1)) (N m i)).length=0:=by rw[←e];rfl
   rw[zo]at A
   have:=M (ê ‹_›)
   have z0:zr m (i+1)=0:=rfl
   omega
 have R:d.length<=3600:=by
  have e:=gs (λq:List (Int×Int)=>q.length) f
  have A:=h.J.MI.2
  have e:d.length<=ie s:=e
  omega
 have Ny:=D t (Ϙ b)
 have g0:((N m 0+0:Nat):Int)=t.δ:=h.C.G.g0 m t b
 refine⟨y,N m 0,d,u,by omega,by omega,f,R,?_⟩
 rw[h.C.G.F7 m t b y d f,Ι u.symm,L _ (Ρ _)]
theorem Aj(s:DP H H')(v:V)(m:List V)(h:FJ H v m):FJ H' v m:=h.keep (DP.Er s)
theorem pick(p:Paired (FJ H) E2 ((cy a s).map eO))(h:0<E2.length)(d:Int):∃(k:Nat)(m:Mv)(b:Ν),d% (E2.length:Int)=(k:Int)/\E2[k]?=Α (.ref b)/\H b=Α (.tup (eO m))/\m∈cy a s:=by
 have f:E2.length=(cy a s).length:=by rw[Paired.length p,ϊ]
 have i:=Ď d (show((E2.length:Nat):Int)≠0 by omega)
 have j:=ě d (show (0:Int)<(E2.length:Int) from ó.mpr ‹_›)
 have c:(d% (E2.length:Int)).toNat<(cy a s).length:=by omega
 obtain⟨v,e,b,rfl,g⟩:=Paired.at2 p (show((cy a s).map eO)[(d% (E2.length:Int)).toNat]?=Α (eO (cy a s)[(d% (E2.length:Int)).toNat]) by rw[Å,Μ c];rfl)
 exact⟨_,_,b,by omega,e,g,ă c⟩
inductive rm(K:ϧ)(c:Cs)(TC:Ν)(J:TJ)(ys:Ys)(vs:List V)(H:Hp)(Q:VK)(E:XK):Prop
 |mk (a:YA) (s:YS) (N:Nat->Nat->Nat) (nums:List Int) (S:List Nat) (rs ns:List Int) (sc:Ν) (out:Nat) (H0:Hp) (_:vs=[.ref a.y,.ref sc,.int out]) (_:Rv K c TC J ys H a s N nums S rs) (_:DP H0 H) (_:∀z∈a.four,H0 z=Β) (_:DT K H0 sc (ns.map V.int)) (_:∀l g:Nat,c5 S l g=Δ->out.testBit l=Ε) (_:∀H',Q (.bl Δ) H')
abbrev ZC:List Str:=["_law_yard","_law_script","_law_out","_law_moves","_law_done","_law_cell","_law_number","_law_begin","_law_goal","_law_length","_law_word"]
noncomputable def sI(s:Ç):Scope:=match s with
 |.If (.Compare (.ListComp _ _ sc _) _ _ _) _ _ _=>sc
 |_=>ue
structure RnF(P:Program)(w:Î)(K:ϧ)(mg:Str->Option Τ)(μ:Ü)(c:Cs)(TC:Ν)(J:TJ)(ys:Ys)(fm fd fe fp fl fy ft fc fx:Ν)(dm dd de dp dl dy dt dc dx:Ý):Prop where
 mm:cb K ys.DU "moves" fm
 bm:Binds K dm ["self"] []
 Gm:DQ P w K mg μ aF 7 fm dm ["self"] (nO K c TC J (yx ys []))
 md:cb K ys.DU "do" fd
 bd:Binds K dd ["self","move"] []
 Gd:DQ P w K mg μ aF 8 fd dd ["self","move"] (BM K c TC J (yx ys []))
 me:cb K ys.DU "ended" fe
 be:Binds K de ["self"] []
 Ge:DQ P w K mg μ aF 1 fe de ["self"] (nR K (yx ys []))
 mp:cb K ys.DU "posted" fp
 bp:Binds K dp ["self"] []
 Gp:DQ P w K mg μ aF 1 fp dp ["self"] (py K (yx ys []))
 ml:cb K ys.DU "letter_told" fl
 bl:Binds K dl ["self","number"] []
 Gl:DQ P w K mg μ aF 1 fl dl ["self","number"] (wB K (yx ys []))
 my:cb K ys.DU "lying" fy
 L7:Binds K dy ["self","place"] []
 Gy:DQ P w K mg μ aF 1 fy dy ["self","place"] (tD K (yx ys []))
 mt:cb K ys.DU "way_told" ft
 bt:Binds K dt ["self","number"] []
 Gt:DQ P w K mg μ aF 1 ft dt ["self","number"] (wc K (yx ys []))
 mc:mg "_law_cell_at"=Α (.ref fc)
 kc:Ϯ K (.ref fc)=Δ
 bc:Binds K dc ["_law_script","_law_k"] []
 Gc:DQ P w K mg μ aF 1 fc dc ["_law_script","_law_k"] (r9 K)
 mx:mg "_law_mixed"=Α (.ref fx)
 kx:Ϯ K (.ref fx)=Δ
 bx:Binds K dx ["_law_cell","_law_k"] []
 Gx:DQ P w K mg μ aF 1 fx dx ["_law_cell","_law_k"] lZ
inductive RL(K:ϧ)(c:Cs)(TC:Ν)(J:TJ)(ys:Ys)(nums:List Int)(S:List Nat)(rs:List Int)(sc:Ν)(out:Nat)(H0:Hp)(a:YA)(k:Nat)(σ:St)(H:Hp):Prop
 |mk (s:YS) (N:Nat->Nat->Nat) (D:Ν) (E2:List V) (d:Nat) (a5:Option V) (_:k=20000 - s.done.length) (_:Rv K c TC J ys H a s N nums S rs) (_:DP H0 H) (_:H D=Α (.π E2)) (_:Paired (FJ H) E2 ((cy a s).map eO)) (_:d<=s.done.length) (_:σ=[Α (.ref a.y),Α (.ref sc),Α (.int out),Α (.ref D),Α (.int d),a5,Β,Β,Β,Β,Β])
theorem GJ:aw ZC ["_law_yard","_law_script","_law_out"] (am kM):=L2.Eu
theorem S9:ES ZC (am kM) (sI (lb (oJ (lb (aK kM) 3)) 1)) ["_law_out"] [2]:=L2.FC
theorem SA:ES ZC (am kM) (sI (lb (oJ (lb (aK kM) 3)) 2)) ["_law_number"] [6]:=L2.FC
theorem SD:(["_law_lane","_law_out"]:List Str).Nodup:=by decide +kernel
theorem Bn:(["_law_letter","_law_count","_law_number"]:List Str).Nodup:=by decide +kernel
theorem zN(F:En K "_law_runs" "_law_runs" kM f fd)(T:eD mg)(Y:jA K ys)(W:Wy K TC fw dw J)(D:RnF P w K mg μ c TC J ys fm Jz fe fp fl fy ft fc fx dm dd de dp dl dy dt dc dx):
  DQ P w K mg μ aF 9 f fd ["_law_yard","_law_script","_law_out"] (rm K c TC J ys):=by
 refine F.ok GJ λcdv A outer s0 H vs Q E hr h=>?_
 obtain⟨a,s,N,r,S,rs,X,B,out,Hz,rfl,b,hE,J9,hS,K3,q⟩:=h
 have hu:=hr.units
 have u:Ea 1 _:=hr.mono (by decide)
 have SE:Ea 7 _:=hr.mono (by decide)
 refine⟨_,ae (aB (i:=3) GJ.nd Λ (ύ Λ) (cj (pv 0) Y.cl D.mm D.Gm SE D.bm .nil ar))
  (ae (aB (i:=4) GJ.nd Λ (ύ Λ) ao)
  (ae (iU Ϗ (az (kZ hu) (pv 3) (aU ad) (aC _))
   (ae (aB (i:=5) GJ.nd Λ (ύ Λ) (au D.Gc u Λ D.mc D.kc D.bc .nil ar (aa (pv 1) (aa (aI ck (pv 4) (aG (vD Λ) Λ T.max PyProof.Rows.boot_max (aa ao (aa (aG aA Λ T.len PySem.boot_len (aa (pv 1) ad)) ad)))) ad))))
   (ae (aX (aH (pv 0) Y.cl D.md D.Gd hr D.bd .nil ar (aa (aD DZ (pv 3) (aI ck (au D.Gx u Λ D.mx D.kx D.bx .nil ar (aa (pv 5) (aa (pv 4) ad))) (aG aA Λ T.len PySem.boot_len (aa (pv 3) ad))) (λ_ _=>rfl)) ad)))
   (ae (aB (i:=4) GJ.nd Λ (ύ Λ) (aI c6 (pv 4) ao))
   (aj (aB (i:=3) GJ.nd Λ (ύ Λ) (cj (pv 0) Y.cl D.mm D.Gm SE D.bm .nil ar)))))))
  (ae (aT Ϗ Λ (aO Λ T.range (aa (cj (pv 0) Y.cl D.mp D.Gp u D.bp .nil ar) ad)) (ax (i:=6) GJ.nd Λ (Ĥ Λ))
   (ae (gi (aH (pv 0) Y.cl D.ml D.Gl u D.bl .nil ar (aa (pv 6) ad)) (gj Λ (bI (ax (i:=7) GJ.nd Λ (ύ Λ)) (bI (ax (i:=8) GJ.nd Λ (ύ Λ)) (bI (ax (i:=9) GJ.nd Λ (ύ Λ)) (bI (ax (i:=10) GJ.nd Λ (ύ Λ)) dP))))))
   (ae (aP (az (kY hu) (bv (own:=["_law_lane"]) (capN:=["_law_out"]) (cap:=[2]) S9 Λ (aR (aH (pv 0) Y.cl D.mt D.Gt u D.bt .nil ar (aa (pv 6) ad)))
     (λC s' H' fp=>⟨ax (i:=0) SD Λ (ύ Λ),bY (az bN (aI i5 (aI jv (pv 1) (pv 0)) ao) ao (aC _)),pv 0⟩)) (aU ad) (aC _)) (aj (ay eM)) aE)
   (aj (aP (az (kY hu) (bv (own:=["_law_letter","_law_count"]) (capN:=["_law_number"]) (cap:=[6]) SA Λ (aR (aH (pv 0) Y.cl D.my D.Gy u D.L7 .nil ar (aa (pv 8) ad)))
     (λC s' H' fp=>⟨(show PG _ _ (Ax K 2 _) from gj Λ (bI (ax (i:=0) Bn Λ (ύ Λ)) (bI (ax (i:=1) Bn Λ (ύ Λ)) dP))),bY (az bN (pv 0) (pv 2) (aC _)),pv 1⟩))
    (bS (lT Λ) Λ T.list PySem.Pv.boot_list (aa (bS qC Λ T.range wh (aa (pv 9) ad)) ad)) (aC _)) (aj (ay eM)) aE)))))
  (aj (ay (cj (pv 0) Y.cl D.me D.Ge u D.be .nil ar)))))),?_⟩
 refine⟨_,_,_,Λ,b.I.Y.ρ,Λ,a,s,Λ,b.I,λD0 Z H0 OS nD0 gD0 pD0=>?_⟩
 refine⟨RL K c TC J ys r S rs B out Hz a,⟨_,s,N,D0,Z,0,Β,Λ,b.same W OS,hE.trans OS,gD0,pD0,Ϧ _,Λ⟩,?_⟩
 clear b N s D0 Z H0 OS nD0 gD0 pD0
 rintro k σ H1 ⟨s,N,Dm,E2,d,a5,rfl,b,hE1,gDm,pDm,hd,rfl⟩
 refine⟨Ϧ _,λo ho=>?_⟩
 have G:=(DP.refl H1).new (o:=.π []) ho
 have UT:=Paired.mono (Aj G) pDm
 refine neN (f:=yQ) (l:=cy a s) (.π (DT.of (G _ _ gDm)) (oR UT)) (.π (DT.of ac) .nil) (zc _) ⟨_,Λ,?_⟩
 generalize ο H1 o (.π [])=H2 at G UT⊢
 have e:=b.same W G
 have gD2:=G _ _ gDm
 have hE2:=hE1.trans G
 have hS2:=hE2.seq hS
 have hmost:=b.most
 cases ZD:cy a s with
 | cons m0 ms =>
  have IU:0<E2.length:=by rw[Paired.length UT,ZD];exact ť _
  have np:(0:Int)<((E2.length:Nat):Int):=ó.mpr ‹_›
  obtain⟨L,hL,MC⟩:∃L:Nat,(if ((X.length:Nat):Int) > 1 then ((X.length:Nat):Int) else 1)=(L:Int)/\0<L:=by
   by_cases h:((X.length:Nat):Int) > 1
   ·exact⟨_,Ι h,by omega⟩
   ·exact⟨1,Θ h,Ρ _⟩
  refine aL ⟨λσ' H'=>∃k',k'< 20000 - s.done.length/\RL K c TC J ys r S rs B out Hz a k' σ' H',λ_ _ h=>h,?_⟩
  refine⟨B,_,Λ,.inl hS2,_,_,Λ,?_⟩
  rw[ϊ,hL]
  refine⟨_,_,Λ,Λ,by show (0:Int)<(L:Int);exact ó.mpr ‹_›,B,X,d% L,?_,hS2,λd5=>?_⟩
  ·show [V.ref B,V.int ((d:Int)% (L:Int))]++[]=_
   rw[←Int.natCast_emod];rfl
  refine⟨_,_,_,Λ,e.I.Y.ρ,Λ,_,d,Λ,by omega,λdd Np=>?_⟩
  obtain⟨k,m,tm,hk,hv,gtm,hm⟩:=pick UT IU dd
  refine⟨_,_,Λ,.inl (DT.of gD2),_,_,Λ,Λ,np,_,_,_,_,Λ,Λ,DT.of gD2,by rw[hk];exact aq hv,a,s,_,m,Λ,e.I,gtm,hm,e.J.sml (by omega),λH3 s' st o3 GP=>?_⟩
  obtain⟨N',v⟩:=e.move W st o3 GP
  refine⟨_,_,Λ,Λ,_,_,_,Λ,v.I.Y.ρ,Λ,a,_,Λ,v.I,λD4 mv4 H4 s4 nD4 UG pD4=>⟨_,?_,_,N',D4,mv4,d+1,_,Λ,v.same W s4,(p8 hE2 o3 J9).trans s4,UG,pD4,?_,Λ⟩⟩
  ·have h1:=v.most
   have h1:=h1
   rw[ϗ,Â]at h1⊢
   omega
  ·show d+1<=(s.done++[eO m]).length
   rw[ϗ,Â];exact Ð ‹_›
 | nil =>
  have h60:=b.J.EH
  refine aJ ⟨a.y,a.dy,_,Λ,e.I.Y.ρ,Λ,a.y,a.dy,a.tb,a.ro,a.la,a.le,a.li,a.dn,s,Λ,e.I.Y,(s.DO.length:Int),Λ,Φ _,by omega,?_⟩
  rw[Υ]
  refine aV (n:=s.DO.length) (λi σ H3=>∃a6 a7 a8 a9 K1:Option V,DP H2 H3/\σ=[Α (.ref a.y),Α (.ref B),Α (.int out),Α (.ref Dm),Α (.int d),a5,a6,a7,a8,a9,K1]) ⟨Β,Β,Β,Β,Β,DP.refl _,Λ⟩ ?_ ?_
  ·rintro m σ H3 hm ⟨a6,a7,a8,a9,K1,s3,rfl⟩
   rw[Þ]
   have GP:=Eg.same e.I.Y s3
   have M:=Μ hm
   generalize s.DO[m]=t at M
   obtain⟨p,n,j,eg,el,hn60,hq,Ut,ZE⟩:=DB b ZD m t M
   refine⟨_,_,_,Λ,GP.ρ,Λ,_,_,_,_,_,_,_,_,s,m,t,Λ,GP,M,λtp H4 s4 gtp=>⟨tp,_,Λ,Ec.of gtp,Λ,_,_,Λ,_,_,Λ,_,_,Λ,_,_,Λ,Λ,?_⟩⟩
   rw[eg,el]
   have s24:=s3.trans s4
   have Ur:=Eg.same e.I.Y s24
   refine⟨_,_,_,Λ,Ur.ρ,Λ,_,_,_,_,_,_,_,_,s,m,t,Λ,Ur,M,λDw H5 s5 nDw Ph=>⟨Dw,Λ,⟨_,DT.of Ph⟩,?_⟩⟩
   have HB:=À (qW b.J M) b.J.JE
   refine mZ (λl=>out.testBit l) (by rw[Ω];omega) (DT.of Ph) (λl acc N' hl h=>?_) (λO hDc=>?_)
   ·refine⟨_,_,Λ,Λ,(show (0:Int)<=(l:Int) from Φ _),_,_,Λ,Λ,Λ,_,Λ,?_⟩
    rw[D1]
    cases hb:out.testBit l with
    |true=>rw[hb]at h;exact aL (h)
    |false=>rw[hb]at h;exact aJ h
   have e0:t.ω.filter (λl=>out.testBit l)=[]:=Ŕ.mpr λl hl=>by rw[K3 l _ ((b.R m t M).1 l hl)];decide
   rw[e0]
   have u5:=(s24.trans s5).new (o:=.π []) hDc
   have SG:(ο H5 O (.π [])) O=Α (.π (([]:List Int).map V.int)):=ac
   show BG yX _ (ο H5 O (.π [])) _
   generalize ο H5 O (.π [])=H6 at u5 SG⊢
   refine⟨Ϧ _,λo2 Fy=>?_⟩
   have u6:=u5.new (o:=.π []) Fy
   have SH:(ο H6 o2 (.π [])) O=Α (.π (([]:List Int).map V.int)):=by rw[ag (ah SG Fy)];exact SG
   have go2:(ο H6 o2 (.π [])) o2=Α (.π (([]:List Int).map V.int)):=ac
   generalize ο H6 o2 (.π [])=H7 at u6 SH go2⊢
   refine⟨O,_,_,_,Λ,Λ,DT.of SH,DT.of go2,_,Λ,aJ ?_⟩
   have hY7:=Eg.same e.I.Y u6
   refine⟨_,_,_,Λ,hY7.ρ,Λ,a,s,p,j,Λ,hY7,hq,λDp Es H8 s8 nDp gDp hLp=>⟨Dp,Λ,⟨_,DT.of gDp⟩,?_⟩⟩
   refine yA (m:=m) gDp hLp (by rw[Ω];omega) (λx l c acc N' hx h=>?_) (λU hPc=>?_)
   ·refine⟨x,_,Λ,Ec.of hx,Λ,_,_,Λ,_,_,Λ,Λ,Λ,_,Λ,?_⟩
    by_cases e1:l=(m:Int)
    ·rw[Ι e1]at h
     rw[Ζ (show V.int l=V.int m by rw[e1])]
     exact aL (h)
    ·rw[Θ e1]at h
     rw[Η (λz=>e1 (V.int.inj z))]
     exact aJ h
   have v5:=(u6.trans s8).new (o:=.π ((cM m j).map V.int)) hPc
   have ZF:(ο H8 U (.π ((cM m j).map V.int))) U=Α (.π ((cM m j).map V.int)):=ac
   generalize ο H8 U (.π ((cM m j).map V.int))=H9 at v5 ZF⊢
   refine⟨_,Λ,λg hrg=>?_⟩
   have v6:=v5.new (o:=ij g (n:Int)) hrg
   have Oi:(ο H9 g (ij g (n:Int))) U=Α (.π ((cM m j).map V.int)):=by rw[ag (ah ZF hrg)];exact ZF
   have grg:(ο H9 g (ij g (n:Int))) g=Α (ij g (n:Int)):=ac
   generalize ο H9 g (ij g (n:Int))=Ha at v6 Oi grg⊢
   refine⟨g,n,Λ,grg,by omega,λLr hLr=>?_⟩
   have v7:=v6.new (o:=.π ((ϋ n).map λk:Nat=>V.int (k:Int))) hLr
   have ZG:(ο Ha Lr (.π ((ϋ n).map λk:Nat=>V.int (k:Int)))) U=Α (.π ((cM m j).map V.int)):=by rw[ag (ah Oi hLr)];exact Oi
   refine⟨U,_,_,_,Λ,Λ,DT.of ZG,DT.of (by rw[ac,č];rfl),_,Λ,?_⟩
   rw[Ζ (show cM m j=(ϋ n).map λk:Nat=>(k:Int) by rw[ZE];unfold iR;rw[Nat.sub_zero,←Pf])]
   exact aJ ⟨_,_,_,_,_,v7,Λ⟩
  rintro σ H3 ⟨a6,a7,a8,a9,K1,s3,rfl⟩
  have v:=e.same W s3
  refine⟨_,_,_,Λ,v.I.Y.ρ,Λ,_,_,_,_,_,_,_,_,s,Λ,v.I.Y,by omega,by rw[b.J.ε];have:=b.I.T.IF;omega,λH4 s4=>?_⟩
  rw[b.never ZD]
  exact q H4
theorem yT(h:pw K c TC J ys vs H Q E)(k:∀v a,Q v a->Q' v a):pw K c TC J ys vs H Q' E:=by
 obtain⟨y,b,d,e,f,lt,n,g,i,j,l,m,o,p,q,r,s,t⟩:=h
 exact⟨y,b,d,e,f,_,n,g,i,j,l,m,o,p,q,r,s,λh u x le z dn a A B C D F G=>k _ _ (t h u x le z dn a A B C D F G)⟩
theorem wb(g:H Tb=Α (.Fj ps))(o:Ee [Tb] H H')(h:DT K H a xs):DT K H' a xs:=by
 have k:∀b u,H b=Α u->(∀c,u≠.Fj c)->H' b=Α u:=λb u e n=>o b u (λz=>by rw[ϙ.mp z,g]at e;cases e;exact n _ Λ) e
 rcases h with (e|⟨o,e⟩)|e
 ·exact .inl (.inl (k _ _ e (by intro _ z;cases z)))
 ·exact .inl (.inr ⟨o,k _ _ e (by intro _ z;cases z)⟩)
 ·exact .inr e
def tX(a:YA)(ps:List (Int×Int)):Prop:=∀p∈ps,∃x y:Nat,p=((x:Int),(y:Int))/\x<a.n/\y<a.n/\x≠y/\a.wy x y Β≠[]
inductive wI(LC:Ν)(vs:List V)(H:Hp)(Q:VK)(E:XK):Prop
 |mk (x dx cu:Ν) (fs:List (Str×V)) (Hj:List V) (_:vs=[.ref x]) (_:H x=Α (.ρ LC dx fs)) (_:fs.lookup ("cut":Str)=Α (.ref cu)) (_:H cu=Α (.tup Hj)) (_:∀l,H l=Β->Q (.ref l) (ο H l (.π Hj)))
inductive tE(K:ϧ)(Tb:Ν)(vs:List V)(H:Hp)(Q:VK)(E:XK):Prop
 |mk (a:Ν) (ns:List Int) (_:vs=[.ref a]) (_:DT K H a (ns.map V.int)) (_:ns.length<=63) (_:H Tb=Α (.Fj #[])) (_:∀H',Q (.bl Δ) H')
abbrev UU:List Str:=["_law_script","_law_places","_law_lanes_here","_law_numbers_here","_law_alive_here","_law_table","_law_out","_law_left","_law_cut_here","_law_yard","_law_begins","_law_place","_law_k","_law_begin","_law_goal"]
structure Fns(P:Program)(w:Î)(K:ϧ)(mg:Str->Option Τ)(μ:Ü)(c:Cs)(ts:Ts)(ys:Ys)(Tb LC:Ν)(tk:Tok)(fc fx fl fn fa fi ft fr fz fo fu fe ff fy fq fp fk fw:Ν)(dc dx dl dn da di dt dr dz Ob du de df dy dq dp dk dw:Ý):Prop where
 mc:mg "_law_cell_at"=Α (.ref fc)
 kc:Ϯ K (.ref fc)=Δ
 bc:Binds K dc ["_law_script","_law_k"] []
 Gc:DQ P w K mg μ aF 1 fc dc ["_law_script","_law_k"] (r9 K)
 mx:mg "_law_mixed"=Α (.ref fx)
 kx:Ϯ K (.ref fx)=Δ
 bx:Binds K dx ["_law_cell","_law_k"] []
 Gx:DQ P w K mg μ aF 1 fx dx ["_law_cell","_law_k"] lZ
 ml:mg "_law_lanes"=Α (.ref fl)
 kl:Ϯ K (.ref fl)=Δ
 bl:Binds K dl ["_law_places","_law_amount","_law_cell"] []
 Gl:DQ P w K mg μ aF 2 fl dl ["_law_places","_law_amount","_law_cell"] tF
 mn:mg "_law_numbers"=Α (.ref fn)
 kn:Ϯ K (.ref fn)=Δ
 bn:Binds K dn ["_law_amount","_law_cell"] []
 Gn:DQ P w K mg μ aF 2 fn dn ["_law_amount","_law_cell"] wx
 ma:mg "_law_alive"=Α (.ref fa)
 ka:Ϯ K (.ref fa)=Δ
 ba:Binds K da ["_law_lanes_here","_law_numbers_here"] []
 Ga:DQ P w K mg μ aF 4 fa da ["_law_lanes_here","_law_numbers_here"] (tM K Tb)
 mi:mg "Land"=Α (.ref c.land)
 Mi:Mk K c.land fi
 bi:Binds K di ["self","places","lanes"] []
 Gi:DQ P w K mg μ aF 4 fi di ["self","places","lanes"] (wE K c)
 mt:mg "Told"=Α (.ref ts.told)
 Mt:Mk K ts.told ft
 bt:Binds K dt ["self","land","rows"] []
 Gt:DQ P w K mg μ aF 5 ft dt ["self","land","rows"] (wg P w K c ts)
 mr:mg "_law_made"=Α (.ref fr)
 kr:Ϯ K (.ref fr)=Δ
 br:Binds K dr U5 []
 Gr:DQ P w K mg μ aF 2 fr dr U5 wz
 mz:mg "Less"=Α (.ref LC)
 Mz:Mk K LC fz
 bz:Binds K dz ["self","table","out"] []
 Gz:DQ P w K mg μ aF 6 fz dz ["self","table","out"] (r8 P w c ts.told LC (eE P w ts))
 mo:cb K LC "cut_off" fo
 bo:Binds K Ob ["self"] []
 Go:DQ P w K mg μ aF 1 fo Ob ["self"] (wI LC)
 mu:mg "_law_cut"=Α (.ref fu)
 ku:Ϯ K (.ref fu)=Δ
 bu:Binds K du ["_law_table","_law_out"] []
 Gu:DQ P w K mg μ aF 15 fu du ["_law_table","_law_out"] (Bh c ts.told (eE P w ts))
 me:mg "met"=Α (.ref fe)
 ke:Ϯ K (.ref fe)=Δ
 be:Binds K de ["table"] []
 Ge:DQ P w K mg μ aF 6 fe de ["table"] (Bc c LC (dL P w LC))
 mf:mg "fault"=Α (.ref ff)
 kf:Ϯ K (.ref ff)=Δ
 bf:Binds K df ["table","paper"] []
 Gf:DQ P w K mg μ aF 7 ff df ["table","paper"] (tI K c LC (E9 P w LC))
 my:mg "Yard"=Α (.ref ys.DU)
 My:Mk K ys.DU fy
 ZH:Binds K dy ["self","table","rooms"] []
 Gy:DQ P w K mg μ aF 4 fy dy ["self","table","rooms"] (pw K c LC (E9 P w LC) (yx ys []))
 mq:mg "_law_refused"=Α (.ref fq)
 kq:Ϯ K (.ref fq)=Δ
 bq:Binds K dq ["_law_yard","_law_start","_law_goal"] []
 Gq:DQ P w K mg μ aF 5 fq dq ["_law_yard","_law_start","_law_goal"] (wo K c LC (E9 P w LC) (yx ys []))
 mp:cb K ys.DU "post" fp
 bp:Binds K dp Bw [Ĝ 0 tk]
 Gp:DQ P w K mg μ aF 4 fp dp Bw (rp K c LC (E9 P w LC) (yx ys []))
 mj:mg "_law_runs"=Α (.ref fk)
 kj:Ϯ K (.ref fk)=Δ
 bj:Binds K dk ["_law_yard","_law_script","_law_out"] []
 Gj:DQ P w K mg μ aF 9 fk dk ["_law_yard","_law_script","_law_out"] (rm K c LC (E9 P w LC) ys)
 W:Wy K LC fw dw (E9 P w LC)
 Gw:DQ P w K mg μ aF 3 fw dw ["self","place","goal","came"] (eZ (E9 P w LC))
theorem in4(a:YA):∀z∈[a.le,a.dn],z∈a.four:=λz b=>by
 simp only[ϥ,Õ,or_false]at b⊢
 rcases b with h|h<;>simp[h]
theorem Rv.post{J:TJ}(W:Wy K TC fw dw J)(h:Rv K c TC J ys H a s N nums S rs)(g:x<a.n)(i:y<a.n)(e:1<=l/\l<=4)(j:a.wy x y Β≠[])(m:s.DO.length<60)(o:Ee [a.le,a.dn] H H2)(p:F0 K (yx ys []) H2 a (dO s x y l u)):∃d,Rv K c TC J ys H2 a (dO s x y l u) d nums S rs:=by
 obtain⟨d,q⟩:=h.C.post (x:=(x:Int)) (y:=(y:Int)) (u:=u) e.1
 have f:=h.J.post (x:=x) (y:=y) (l:=l) (u:=u) g i ⟨by omega,by omega⟩ m
 refine⟨d,⟨p,F5.keep W h.I.T (Ee.Er (λz r=>h.I.Y.Ja z (in4 a z r)) o),h.I.O,f.ok⟩,f,q,h.R.post,h.W.post j,h.ro,λt b=>?_,h.P,h.rr⟩
 rcases ϯ.mp (b) with b|b
 ·exact h.l4 t b
 ·rw[ϙ.mp b];exact⟨by show 0<=l;omega,e.2⟩
inductive P1(P:Program)(w:Î)(c:Cs)(ts:Ts)(Tb:Ν)(H:Hp)(sc:Ν)(σ:St)(Hc:Hp):Prop
 |mk (tb lx Ef lt l nu la:Ν) (n:Nat) (DX Ed:List V) (ps:List (Int×Int)) (wy:bJ->Nat) (nums:List Int) (al:List Nat) (_:Ee [Tb] H Hc) (_:EB c ts.told (eE P w ts) Hc tb lx Ef lt n DX ps wy) (_:yO n ps (wf wy) nums al) (_:Hc l=Α (.π Ed)) (_:Ed.length=ps.length) (_:Hc nu=Α (.π (nums.map V.int))) (_:∀p∈ps,iB n p=Δ) (_:∀p,wf wy p p Β=[]) (_:ps.length<=9) (_:2<=n) (_:n<=5) (_:σ=[Α (.ref sc),Α (.int n),Α (.ref l),Α (.ref nu),Α (.ref la),Α (.ref tb),Β,Β,Β,Β,Β,Β,Β,Β,Β])
inductive P2(P:Program)(w:Î)(K:ϧ)(c:Cs)(ys:Ys)(LC:Ν)(sc:Ν)(ns:List Int)(σ:St)(Hc:Hp):Prop
 |mk (a:YA) (l nu la tb cu:Ν) (nums:List Int) (S:List Nat) (rs:List Int) (out:Nat) (H0:Hp) (_:Rv K c LC (E9 P w LC) ys Hc a (Y0 (rs.map V.int) a.n) zr nums S rs) (_:DP H0 Hc) (_:∀z∈a.four,H0 z=Β) (_:DT K H0 sc (ns.map V.int)) (_:∀l g:Nat,c5 S l g=Δ->out.testBit l=Ε) (_:∀x y,x<a.n->y<a.n->a.wy x y Β≠[]->x≠y) (_:σ=[Α (.ref sc),Α (.int a.n),Α (.ref l),Α (.ref nu),Α (.ref la),Α (.ref tb),Α (.int out),Α (.ref a.tb),Α (.ref cu),Α (.ref a.y),Β,Β,Β,Β,Β])
noncomputable def Di(s:Ç):Scope:=match s with
 |.Assign _ (.Call _ [_,.ListComp _ _ sc _] _ _) _=>sc
 |_=>ue
theorem ZI:aw ["self"] ["self"] (am oh):=L2.Eu
theorem Af(F:En K "cut_off" "Less.cut_off" oh f fd)(T:eD mg)(a:Of K C fw dw):DQ P w K mg μ aF 1 f fd ["self"] (wI C):=by
 refine F.ok ZI λ_ _ _ s H _ Q E i h=>?_
 obtain⟨x,b,c,fs,j,rfl,d,e,g,q⟩:=h
 exact⟨_,aj (ay (bS cI Λ T.list PySem.Pv.boot_list (aa (ap (pv 0) Λ) ad))),x,C,b,_,_,Λ,d,a.cl,a.nc,e,c,_,Λ,.inr (Ec.of g),q⟩
theorem F3:aw UU ["_law_script"] (am iy):=L2.Eu
theorem ZJ:ES UU (am iy) (Di (lb (aK iy) 9)) ["_law_script"] [0]:=L2.FC
theorem ZK:ES UU (am iy) (sI (lb (aK iy) 10)) ["_law_yard"] [9]:=L2.FC
theorem ZL:ES UU (am iy) (yF (lb (oJ (lb (aK iy) 12)) 0)) ["_law_left","_law_place"] [7,11]:=L2.FC
theorem ZM:(["_law_lane","_law_script"]:List Str).Nodup:=by decide +kernel
theorem ZN:(["_law_pair","_law_yard"]:List Str).Nodup:=by decide +kernel
theorem ZO:(["_law_goal","_law_left","_law_place"]:List Str).Nodup:=by decide +kernel
theorem CK(F:En K "law" "law" iy f fd)(T:eD mg)(L:kC K c)(Y:jA K ys)(Wt:uI K ts.told fwt dwt (eE P w ts))(Lc:Of K LC fw dw)(D:Fns P w K mg μ c ts ys Tb LC tk fc fx fl fn fa fi ft fr fz fo fu fe ff fy fq fp fk fw dc dx dl dn da di dt dr dz Ob du de df dy dq dp dk dw):
  DQ P w K mg μ aF 16 f fd ["_law_script"] (tE K Tb):=by
 refine F.ok F3 λ_ _ _ s H _ Q E M h=>?_
 obtain⟨U,ns,rfl,hS,hlen,Iq,q⟩:=h
 have hu:=M.units
 have X:Ea 1 _:=M.mono (by decide)
 have Fn:Ea 2 _:=M.mono (by decide)
 have JS:Ea 3 _:=M.mono (by decide)
 have HX:Ea 4 _:=M.mono (by decide)
 have NU:Ea 5 _:=M.mono (by decide)
 have Uu:Ea 6 _:=M.mono (by decide)
 have SE:Ea 7 _:=M.mono (by decide)
 have hr9:Ea 9 _:=M.mono (by decide)
 have W:=D.W
 refine⟨_,(pJ 5 (ae (aB (i:=1) F3.nd Λ (ύ Λ) (aI c6 ao (aI ck (au D.Gc X Λ D.mc D.kc D.bc .nil ar (aa (pv 0) (aa ao ad))) ao)))
  (ae (aB (i:=2) F3.nd Λ (ύ Λ) (au D.Gl Fn Λ D.ml D.kl D.bl .nil ar (aa (pv 1) (aa (aI ck (aI dS (au D.Gc X Λ D.mc D.kc D.bc .nil ar (aa (pv 0) (aa ao ad))) ao) ao) (aa (au D.Gc X Λ D.mc D.kc D.bc .nil ar (aa (pv 0) (aa ao ad))) ad)))))
  (ae (aB (i:=3) F3.nd Λ (ύ Λ) (au D.Gn Fn Λ D.mn D.kn D.bn .nil ar (aa (aG aA Λ T.len PySem.boot_len (aa (pv 2) ad)) (aa (au D.Gc X Λ D.mc D.kc D.bc .nil ar (aa (pv 0) (aa ao ad))) ad))))
  (ae (aB (i:=4) F3.nd Λ (ύ Λ) (au D.Ga HX Λ D.ma D.ka D.ba .nil ar (aa (pv 2) (aa (pv 3) ad))))
  (aj (aB (i:=5) F3.nd Λ (ύ Λ) (dQ D.Mt D.Gt Uu Λ D.mt D.bt .nil ar (aa (dQ D.Mi D.Gi NU Λ D.mi D.bi .nil ar (aa (pv 1) (aa (pv 2) ad))) (aa (au D.Gr Fn Λ D.mr D.kr D.br .nil ar (aa (pv 1) (aa (pv 2) (aa (pv 3) (aa (pv 4) (aa (au D.Gc X Λ D.mc D.kc D.bc .nil ar (aa (pv 0) (aa ao ad))) ad)))))) ad)))))))))
  (pJ 6 (ae (aB (i:=6) F3.nd Λ (ύ Λ) (aI i5 (aI i5 (au D.Gx X Λ D.mx D.kx D.bx .nil ar (aa (au D.Gc X Λ D.mc D.kc D.bc .nil ar (aa (pv 0) (aa ao ad))) (aa ao ad))) (au D.Gx X Λ D.mx D.kx D.bx .nil ar (aa (au D.Gc X Λ D.mc D.kc D.bc .nil ar (aa (pv 0) (aa ao ad))) (aa ao ad)))) ao))
  (ae (aB (i:=7) F3.nd Λ (Ĥ Λ) (dQ D.Mz D.Gz SE Λ D.mz D.bz .nil ar (aa (pv 5) (aa (pv 6) ad))))
  (ae (aB (i:=8) F3.nd Λ (ύ Λ) (cj (pv 7) Lc.cl D.mo D.Go X D.bo .nil ar))
  (ae (aP (PW.pt (fZ (az (kZ hu) (pv 8) (au D.Gu M Λ D.mu D.ku D.bu .nil ar (aa (pv 5) (aa (pv 6) ad))) (aC _)) (dD (az jT (au D.Gf SE Λ D.mf D.kf D.bf .nil ar (aa (pv 7) (aa (bM (aa (pv 3) (aa (au D.Ge Uu Λ D.me D.ke D.be .nil ar (aa (pv 7) ad)) ad))) ad))) b9 (aC _))))) (aj (ay eM)) aE)
  (ae (aB (i:=9) F3.nd Λ (Ĥ Λ) (dQ D.My D.Gy NU Λ D.my D.ZH .nil ar (aa (pv 7) (aa (bv (own:=["_law_lane"]) (capN:=["_law_script"]) (cap:=[0]) ZJ Λ (aO Λ T.range (aa (aG aA Λ T.len PySem.boot_len (aa (pv 2) ad)) ad)) (λC s' G fp=>⟨ax (i:=0) ZM Λ (ύ Λ),c4,(aI c6 ao (aI ck (au D.Gx X Λ D.mx D.kx D.bx .nil ar (aa (au D.Gc X Λ D.mc D.kc D.bc .nil ar (aa (pv 1) (aa ao ad))) (aa (pv 0) ad))) ao))⟩)) ad))))
  (aj (aP (az (kZ hu) (bv (own:=["_law_pair"]) (capN:=["_law_yard"]) (cap:=[9]) ZK Λ (aR (pv 8)) (λC s' G fp=>⟨ax (i:=0) ZN Λ (ύ Λ),bY (bE (bA (au D.Gq NU Λ D.mq D.kq D.bq .nil ar (aa (pv 1) (aa (aD (show G0 _ (jr K) from DV) (pv 0) ao (λ_ _=>rfl)) (aa (aD (show G0 _ (jr K) from DV) (pv 0) ao (λ_ _=>rfl)) ad)))))),pv 0⟩)) (aU ad) (aC _)) (aj (ay eM)) aE)))))))
  (ae (aB (i:=10) F3.nd Λ (ύ Λ) (aU ad))
  (ae (aT Ϗ Λ (aO Λ T.range (aa (pv 1) ad)) (ax (i:=11) F3.nd Λ (Ĥ Λ)) (aj (aB (i:=10) F3.nd Λ (ύ Λ) (aI rW (pv 10) (bv (own:=["_law_goal"]) (capN:=["_law_left","_law_place"]) (cap:=[7,11]) ZL Λ (aO Λ T.range (aa (pv 1) ad)) (λC s' G fp=>⟨ax (i:=0) ZO Λ (ύ Λ),bY (az (show eU _ (compareOp .NotEq) (Qf K) from kY hu) (aH (pv 1) W.cl W.m D.Gw JS W.b .nil ar (aa (pv 2) (aa (pv 0) (aa b9 ad)))) (aU ad) (aC _)),bM (aa (pv 2) (aa (pv 0) ad))⟩))))))
  (ae (aT Ϗ Λ (aO Λ T.range (aa (aI c6 ao (aI ck (au D.Gc X Λ D.mc D.kc D.bc .nil ar (aa (pv 0) (aa ao ad))) ao)) ad)) (ax (i:=12) F3.nd Λ (ύ Λ)) (aj (aP (az (kZ hu) (pv 10) (aU ad) (aC _)) (ae (gi (aD DZ (pv 10) (aI ck (au D.Gx X Λ D.mx D.kx D.bx .nil ar (aa (au D.Gc X Λ D.mc D.kc D.bc .nil ar (aa (pv 0) (aa ao ad))) (aa (aI c6 ao (pv 12)) ad))) (aG aA Λ T.len PySem.boot_len (aa (pv 10) ad))) (λ_ _=>rfl)) (gj Λ (bI (ax (i:=13) F3.nd Λ (ύ Λ)) (bI (ax (i:=14) F3.nd Λ (ύ Λ)) dP))))
  (aj (aX (aH (pv 9) Y.cl D.mp D.Gp HX D.bp (.cons (show RelV (.int 0) _ from ⟨_,Λ⟩) .nil) ar (aa (pv 13) (aa (pv 14) (aa (aI c6 ao (aI ck (au D.Gx X Λ D.mx D.kx D.bx .nil ar (aa (au D.Gc X Λ D.mc D.kc D.bc .nil ar (aa (pv 0) (aa ao ad))) (aa (aI c6 ao (pv 12)) ad))) ao)) ad))))))) aE)))
  (aj (ay (au D.Gj hr9 Λ D.mj D.kj D.bj .nil ar (aa (pv 9) (aa (pv 0) (aa (pv 6) ad))))))))))),?_⟩
 refine⟨P1 P w c ts Tb H U,?_,?_⟩
 ·refine⟨U,_,0,Λ,hS,λd0=>⟨_,_,Λ,Λ,(by show (0:Int)<4;decide),_,_,Λ,Λ,?_⟩⟩
  obtain⟨n,hn,JT,OZ⟩:∃n:Nat,(2:Int)+d0% 4=(n:Int)/\2<=n/\n<=5:=⟨(2+d0% 4).toNat,by omega,by omega,by omega⟩
  dsimp only
  rw[hn]
  refine⟨U,_,0,Λ,hS,λd1=>⟨_,_,Λ,Λ,⟨by decide,by decide⟩,_,_,Λ,Λ,(by show (0:Int)<10;decide),U,ns,1,Λ,hS,λd2=>?_⟩⟩
  obtain⟨m,hm,hm9⟩:∃m:Nat,d1 / 4% 10=(m:Int)/\m<10:=⟨(d1 / 4% 10).toNat,by omega,by omega⟩
  refine⟨n,m,_,by rw[←hm];rfl,JT,by omega,by omega,λl Ed ps H1 s1 nl gl Mw DY KG=>?_⟩
  have ET:=Paired.length Mw
  refine⟨l,_,Λ,.inl (DT.of gl),U,ns,2,Λ,s1.seq hS,λd3=>⟨Ed.length,d3,Λ,by omega,λnu nums H2 s2 nnu UW hnl=>?_⟩⟩
  have GZ:=s1.trans s2
  refine⟨l,nu,Ed,ps,nums,n,Λ,s2 _ _ gl,Ei.same s2 Mw,by omega,DY,by omega,UW,by omega,GZ _ _ Iq,λla al H3 o3 Lw EU Ht ZP ZQ=>?_⟩
  have ZR:=GZ _ _ Iq
  have k3:∀b u,H2 b=Α u->(∀qs,u≠.Fj qs)->H3 b=Α u:=λb u e nt=>o3 b u (λz=>by rw[ϙ.mp z,ZR]at e;cases e;exact nt _ Λ) e
  have oH3:Ee [Tb] H H3:=(DP.E8 GZ).trans o3
  have KO:=k3 _ _ (s2 _ _ gl) (by intro _ z;cases z)
  have SI:=k3 _ _ UW (by intro _ z;cases z)
  have G7:Ei H3 Ed ps:=Ei.imp (λ_ _ DS=>by obtain⟨t,e,g⟩:=DS;exact⟨t,e,k3 _ _ g (by intro _ z;cases z)⟩) (Ei.same s2 Mw)
  have hS3:DT K H3 U (ns.map V.int):=wb Iq oH3 hS
  have gd:=y2 (ps:=ps) (n:=n) (ê ‹_›) (by omega) (by omega) DY
  refine(λxl GI nx N4 KJ=>?_)
  have s4:DP H3 (ο (ο H3 GI (.own xl)) xl (.ρ c.land GI [])):=DP.new (DP.new (DP.refl H3) N4) (by rw[ag (Ϟ KJ)];exact nx)
  refine⟨xl,GI,(n:Int),l,Ed,ps,Λ,ac,DT.of (s4 _ _ KO),Ei.same s4 G7,by omega,(λh=>by rw[gd]at h;cases h),(λk h=>by rw[gd]at h;cases h),(λk h=>by rw[gd]at h;cases h),λ_ H4 lt DX off hL=>⟨Λ,?_⟩⟩
  have GQ:DP H3 H4:=λb o e=>off b o (ah e nx) (s4 _ _ e)
  refine⟨U,ns,3,Λ,GQ.seq hS3,λd4=>?_⟩
  refine⟨l,nu,la,Ed,ps,nums,al,n,d4,Λ,⟨GQ _ _ KO,Ei.same GQ G7,GQ _ _ SI,GQ _ _ EU,DY,by omega,by omega,‹_›⟩,JT,OZ,λDr Ej rs H5 s5 hDr gDr hR hO hG hC=>?_⟩
  have Kl:Ej.length=rs.length:=Paired.length hR
  have hrm:=hO.len
  refine λtb SJ nt ndt net=>?_
  have s6:DP H5 (ο (ο H5 SJ (.own tb)) tb (.ρ ts.told SJ [])):=DP.new (DP.new (DP.refl H5) ndt) (by rw[ag (Ϟ net)];exact nt)
  have KI:=s5.trans s6
  refine⟨tb,SJ,xl,GI,lt,Dr,(n:Int),DX,Ej,ps,rs,Λ,ac,⟨KI _ _ hL.1,KI _ _ hL.2.1,Ei.same KI hL.2.2⟩,DT.of (s6 _ _ gDr),IX.same s6 hR,by omega,by omega,λr M=>⟨λk hk=>by have:=mU (hO.fit r M) k hk;omega,by have:=hO.EH r M;omega⟩,(λi e=>by rw[hO.good]at e;cases e),λ_ H7 de kvs ZT hx7 hd7 hv7=>⟨Λ,?_⟩⟩
  have s7:DP H5 H7:=λb o e=>ZT b o (ah e nt) (s6 _ _ e)
  have UX:=s5.trans s7
  have ZU:=GQ.trans UX
  have NR:∀r∈rs,∀k∈r.s,k<ps.length:=λr M=>mU (hO.fit r M)
  have SK:∀l,l<ps.length->∀e:Nat,(ps.getD l (0,0)).2=(e:Int)->e<n:=λl hl e he=>by
   obtain⟨a,b,e1,_,hb⟩:=oz DY hl
   rw[e1]at he
   have he:(b:Int)=(e:Int):=he
   omega
  have UY:∀x,wf (fQ rs) x x Β=[]:=λx=>by
   show mN (fQ rs (aN ⟨(x:Int),(x:Int),Β,[]⟩))=[]
   unfold fQ
   cases IZ:cX rs (aN ⟨(x:Int),(x:Int),Β,[]⟩) with
   |none=>rfl
   | some r =>
    exfalso
    obtain⟨e1,e2,_⟩:=oC (lq IZ)
    have hf:=hO.fit r (gE IZ)
    unfold fM at hf
    have ho:=(É _ _▸hf).1
    unfold iB at ho
    simp only[É,decide_eq_true_eq,ö,decide_eq_false_iff_not]at ho
    exact ho.2.2 (e1.trans e2.symm)
  have Oj:∀k,fQ rs k<2^400/\∀z∈wl (fQ rs) k,z<ps.length:=λk=>by
   unfold wl fQ
   cases IZ:cX rs k with
   |none=>exact⟨by decide,λz hz=>by cases hz⟩
   |some r=>exact⟨wJ λz hz=>by have:=NR r (gE IZ) z hz;omega,λz hz=>NR r (gE IZ) z (yf hz)⟩
  refine⟨tb,xl,GI,lt,l,nu,la,n,DX,Ed,ps,fQ rs,nums,al,oH3.trans (DP.E8 ZU),⟨⟨SJ,de,_,kvs,hx7,hd7,λk=>⟨?_,(Oj k).1⟩⟩,⟨SJ,_,hx7,Λ⟩,⟨UX _ _ hL.1,UX _ _ hL.2.1,Ei.same UX hL.2.2⟩,by omega,by omega,λk=>(Oj k).2,λk=>?_⟩,Cq (show nums.length=ps.length by omega) Ht ZP ZQ hG hC SK,ZU _ _ KO,ET,ZU _ _ SI,DY,UY,by omega,JT,OZ,Λ⟩
  ·rw[hv7 k]
   unfold fQ
   cases cX rs k with
   |none=>rfl
   |some r=>rfl
  ·have:=jy ps.length (wl (fQ rs) k) ((nA _ _).imp λh=>Ã h) (Oj k).2
   omega
 rintro σ Hc ⟨tb,lx,Ef,lt,l,nu,la,n,DX,Ed,ps,wy,nums,al,oHc,hT,hP,gl,ET,UW,DY,UY,hp9,JT,OZ,rfl⟩
 have UZ:DT K Hc U (ns.map V.int):=wb Iq oHc hS
 have hEn:eV ps n:=λi hi=>by
  obtain⟨x,y,e,hx,hy⟩:=oz DY hi
  exact⟨y,hy,by rw[e]⟩
 have FH:=ET
 refine⟨P2 P w K c ys LC U ns,?_,?_⟩
 ·refine⟨U,ns,4,Λ,UZ,λd4=>⟨d4,1,Λ,by decide,λm1 h1=>⟨U,ns,4,Λ,UZ,λd5=>⟨d5,2,Λ,by decide,λm2 h2=>⟨_,_,Λ,Λ,_,_,Λ,Λ,?_⟩⟩⟩⟩⟩
  obtain⟨out,ho⟩:∃out:Nat,ç (ç m1 m2) 511=(out:Int):=by
   obtain⟨x,rfl⟩:=NC h1
   obtain⟨y,rfl⟩:=NC h2
   exact⟨_,by rw[Yd.Fe];exact Yd.Fe _ 511⟩
  dsimp only
  rw[ho]
  refine(λx dx nx N4 KJ=>?_)
  have s1:DP Hc (ο (ο Hc dx (.own x)) x (.ρ LC dx [])):=DP.new (DP.new (DP.refl Hc) N4) (by rw[ag (Ϟ KJ)];exact nx)
  refine⟨x,dx,tb,lx,Ef,lt,n,DX,ps,wy,out,Λ,ac,hT.same Wt s1,λH1 de cu kvs Hj EE off hx hd hv hW UP hLc=>⟨Λ,?_⟩⟩
  have ZV:DP Hc H1:=λb o e=>off b o (ah e nx) (s1 _ _ e)
  obtain⟨hPL,K3⟩:=xw hP hT.ok hEn hW
  have F1:=ul hW hT.ok
  have QW:=hT.same Wt ZV
  have ZW:EB c LC (dL P w LC) H1 x lx Ef lt n DX ps EE:=⟨⟨dx,de,_,kvs,hx,Λ,Λ,hd,hv⟩,⟨dx,_,hx,Λ⟩,QW.l,hT.IF,hT.EH,F1,λk=>by have:=jy ps.length (wl EE k) ((nA _ _).imp λh=>Ã h) (F1 k);omega⟩
  have hTJ:F5 c LC (E9 P w LC) H1 x lx Ef lt n DX ps (wf EE):=⟨⟨EE,ZW.j,Λ⟩,⟨dx,_,hx,Λ,Λ⟩,QW.l,hT.IF,hT.EH,λp g k _ _ z hz=>F1 _ z hz⟩
  have Ij:∀p g k,(wf EE p g k).length<=400:=λp g k=>by have:=ZW.nr (bR ((p:Int),(g:Int),k));show(wl EE _).length<=400;omega
  refine⟨x,dx,_,Λ,hx,Λ,x,dx,cu,_,Hj,Λ,hx,Λ,UP,λCu hCu=>?_⟩
  have GZ:=(DP.refl H1).new (o:=.π Hj) hCu
  have ZX:(ο H1 Cu (.π Hj)) Cu=Α (.π Hj):=ac
  show cY 8 (V.ref Cu) _ (ο H1 Cu (.π Hj)) _
  generalize ο H1 Cu (.π Hj)=H2 at GZ ZX⊢
  have FV:=Ei.same GZ hLc
  refine⟨tb,lx,Ef,lt,n,DX,ps,wy,nums,al,out,Λ,QW.same Wt GZ,hP,hEn,Ð ‹_›,UY,λDc us H3 Va nDc SG hLd=>?_⟩
  have s13:=GZ.trans Va
  refine neS (.π (DT.of (Va _ _ ZX)) (ja (Ei.same Va FV))) (.π (DT.of SG) (ja hLd)) (jn _) ⟨_,Λ,aJ ?_⟩
  refine⟨x,lx,Ef,lt,n,DX,ps,EE,Λ,ZW.same Lc.ω s13,λSa H4 GQ nSa gSa=>⟨by show 2<=ό;decide,λpa HY=>?_⟩⟩
  have u5:=(DP.refl H4).new (o:=.tup [.ref nu,.ref Sa]) HY
  have Vb:=s13.trans (GQ.trans u5)
  have hO5:yM ⟨0,0,x,0,0,0,0,0,lx,Ef,lt,n,DX,ps,wf EE⟩:=⟨λi pr hi=>by
   have Iy:=DY pr (Ϙ hi)
   unfold iB at Iy
   simp only[É,decide_eq_true_eq,ö,decide_eq_false_iff_not]at Iy
   exact⟨pr.2.toNat,by omega,by show pr.2.toNat<n;omega⟩,Ij⟩
  refine⟨⟨0,0,x,0,0,0,0,0,lx,Ef,lt,n,DX,ps,wf EE⟩,pa,nu,Sa,nums,cK EE ps n n,Λ,ac,⟨F5.keep W hTJ (DP.Er Vb),hO5,.inl (DT.of ((ZV.trans Vb) _ _ UW)),.inr (Ec.of (u5 _ _ gSa)),hPL⟩,λH6 KI=>⟨Λ,_,Λ,?_⟩⟩
  have ZY:=Vb.trans KI
  generalize ο H4 pa (.tup [.ref nu,.ref Sa])=H5 at u5 Vb KI ZY
  rw[AD]
  refine aJ ?_
  have ZZ:=ZV.trans ZY
  have MO:=ZZ _ _ gl
  have hS6:=ZZ.seq UZ
  refine⟨l,_,Λ,.inl (DT.of MO),(Ed.length:Int),Λ,Φ _,by omega,?_⟩
  rw[Υ,ET]
  refine bQ ps.length (by rw[Ω];omega) (λi acc G=>G=H6/\∃ks:List Int,acc=ks.map V.int/\ks.length=i/\∀r∈ks,1<=r/\r<=60) ⟨Λ,[],Λ,Λ,λr M=>by cases M⟩ (λi acc G h=>by obtain⟨_,ks,rfl,e,_⟩:=h;rw[ϊ];exact ń ‹_›) (λi acc G hi h=>?_) (λacc G h=>?_)
  ·obtain⟨rfl,ks,rfl,e,Zc⟩:=h
   refine⟨hi,λv H2 y=>?_⟩
   obtain⟨rfl,rfl⟩:=y
   rw[Þ]
   refine⟨U,ns,5,Λ,hS6,λd=>⟨d,i,Λ,by omega,λz hz=>⟨_,_,Λ,Λ,(by show (0:Int)<3;decide),_,_,Λ,Λ,Λ,ks++[1+z% 3],by rw[Ì];rfl,by rw[ϗ,e];rfl,λr M=>?_⟩⟩⟩
   rcases ϯ.mp M with M|M
   ·exact Zc r M
   ·rw[ϙ.mp M];exact⟨by omega,by omega⟩
  obtain⟨rfl,rs,rfl,Kl,MJ⟩:=h
  refine⟨Ρ _,λro OJ=>?_⟩
  have u7:=(DP.refl G).new (o:=.π (rs.map V.int)) OJ
  have gro:(ο G ro (.π (rs.map V.int))) ro=Α (.π (rs.map V.int)):=ac
  show(λv G=>_) (V.ref ro) (ο G ro (.π (rs.map V.int)))
  generalize ο G ro (.π (rs.map V.int))=H7 at u7 gro⊢
  have s17:=ZY.trans u7
  have hT7:=F5.keep W hTJ (DP.Er s17)
  refine λy dy ny XJ XM=>yT (yU (P:=P) (w:=w) (ys:=ys) (ex:=[]) W hT7 Ij DY (DT.of gro) Kl MJ (by omega) (λz hz=>by cases hz) y dy ny XJ XM) λv H8 h=>⟨h.1,?_⟩
  obtain⟨_,a,ea,e1,e2,e3,e4,s78,fr,hI,hJ⟩:=h
  injection ea with ea
  subst e1 e2 e3 ea
  have s28:=Va.trans (GQ.trans (u5.trans (KI.trans (u7.trans s78))))
  have Vc:=s28 _ _ ZX
  have hL8:=Ei.same s28 FV
  have HG:Hj.length=(vA wy a.ps a.n out).length:=Paired.length hL8
  have hcm:∀z∈vA wy a.ps a.n out,∃p g:Nat,z=((p:Int),(g:Int))/\p<a.n/\g<a.n/\a.wy p g Β=[]:=λz hz=>by
   obtain⟨h1,h2⟩:=ϩ.mp hz
   obtain⟨p,hp,h⟩:=Č.mp h1
   obtain⟨g,hg,e⟩:=Ö.mp h
   have hp:=È.mp hp
   have hg:=È.mp (ϩ.mp hg).1
   refine⟨p,g,e.symm,hp,hg,?_⟩
   rw[←e]at h2
   rw[e4]
   exact(hW.eq p g Β hp hg ώ).trans (of_decide_eq_true h2)
  have hc9:Hj.length<=1000:=by
   rw[HG]
   have h1:=Æ (fN wy a.ps out) (bH wy a.n a.n)
   have h2:=dC wy a.n a.n
   have h3:a.n* a.n<=5* 5:=OU OZ OZ
   show(List.filter (fN wy a.ps out) (bH wy a.n a.n)).length<=_
   omega
  generalize vA wy a.ps a.n out=zs at hL8 hcm
  refine⟨Cu,Λ,⟨_,DT.of Vc⟩,?_⟩
  refine bQ Hj.length (by rw[Ω];omega) (λi acc G=>DP H8 G/\acc=[]) ⟨DP.refl _,Λ⟩ (λi acc G h=>by rw[h.2];exact Ϧ _) (λi acc H9 hi h=>⟨⟨Hj,Hj[i],DT.of (h.1 _ _ Vc),Μ hi⟩,λv Hx hy=>?_⟩) (λacc H9 h=>⟨⟨Hj,DT.of (h.1 _ _ Vc),Ρ _⟩,λPd hPd=>?_⟩)
  ·obtain⟨e,hy⟩:=hy
   subst e
   obtain⟨Pj,rfl⟩:=h
   have ID:=hy Hj (DT.of (Pj _ _ Vc))
   obtain⟨z,hz,t,rfl,gt⟩:=Ei.get hL8 ID
   obtain⟨p,g,rfl,hp,hg,hwe⟩:=hcm z (Ϙ hz)
   have gt9:Ec K Hx t [.int (p:Int),.int (g:Int)]:=Ec.of (Pj _ _ gt)
   exact⟨t,_,0,_,Λ,Λ,gt9,aq (j:=0) Λ,t,_,1,_,Λ,Λ,gt9,aq (j:=1) Λ,a,_,p,g,Λ,hI.same W Pj,hp,hg,hwe,λHy s9=>⟨_,Λ,aJ ⟨Pj.trans s9,Λ⟩⟩⟩
  obtain⟨Pj,rfl⟩:=h
  have v1:=(DP.refl H9).new (o:=.π []) hPd
  have gP:(ο H9 Pd (.π [])) Pd=Α (.π []):=ac
  show BG yX _ (ο H9 Pd (.π [])) _
  generalize ο H9 Pd (.π [])=Ha at v1 gP⊢
  refine⟨Ϧ _,λo2 Fy=>?_⟩
  have v2:=(DP.refl Ha).new (o:=.π []) Fy
  refine neN (f:=tY) (l:=[]) (.π (DT.of (v2 _ _ gP)) .nil) (.π (DT.of ac) .nil) (jn []) ⟨_,Λ,aJ ?_⟩
  have s8b:=Pj.trans (v1.trans v2)
  have hIb:=hI.same W s8b
  refine⟨a,l,nu,la,tb,Cu,nums,cK EE a.ps a.n a.n,rs,out,H7,⟨hIb,hJ,Yc MJ,(λm t h=>by cases h),(λp hp=>by cases hp),Λ,(λt ht=>by cases ht),by rw[e4];exact hPL,MJ⟩,s78.trans s8b,fr,(ZZ.trans u7).seq UZ,K3,λp g hp hg hw hpg=>?_,Λ⟩
  subst hpg
  rw[e4]at hw
  refine hw (List.eq_nil_iff_forall_not_mem.mpr λz hz=>?_)
  have:=hW.sub _ z hz
  rw[show wl wy (bR ((p:Int),(p:Int),Β))=[] from UY p]at this
  cases this
 rintro σ H1 ⟨a,l,nu,la,tb,Cu,nums,S,rs,out,H0,hR,hE0,J9,hS0,K3,hpp,rfl⟩
 have Iu:=hR.I.T.IF
 obtain⟨IG,fst,HJ,EK,FK⟩:=hR.I.T.i
 refine⟨Ϧ _,λB0 hB0=>?_⟩
 have s0:=(DP.refl H1).new (o:=.π []) hB0
 have g0:(ο H1 B0 (.π [])) B0=Α (.π []):=ac
 show cY 10 (V.ref B0) _ (ο H1 B0 (.π [])) _
 generalize ο H1 B0 (.π [])=H2 at s0 g0⊢
 refine⟨(a.n:Int),Λ,Φ _,by omega,?_⟩
 rw[Υ]
 refine aV (n:=a.n) (λi σ H3=>∃(Vd:Option V)(bg:Ν)(IC:List V)(bs:List (Int×Int)),DP H1 H3/\H1 bg=Β/\H3 bg=Α (.π IC)/\Ei H3 IC bs/\tX a bs/\bs.length<=12* i/\σ=[Α (.ref U),Α (.int a.n),Α (.ref l),Α (.ref nu),Α (.ref la),Α (.ref tb),Α (.int out),Α (.ref a.tb),Α (.ref Cu),Α (.ref a.y),Α (.ref bg),Vd,Β,Β,Β])
  ⟨Β,B0,[],[],s0,hB0,g0,.nil,(λp hp=>by cases hp),Ϧ _,Λ⟩ ?_ ?_
 ·rintro i σ H3 hi ⟨Vd,bg,IC,bs,s3,nbg,gbg,SM,hpo,hbl,rfl⟩
  rw[Þ]
  have hbv:IC.length=bs.length:=Paired.length SM
  refine⟨(a.n:Int),Λ,Φ _,by omega,?_⟩
  rw[Υ]
  refine bQ a.n (by rw[Ω];omega) (λj acc G=>DP H3 G/\∃zs,Ei G acc zs/\tX a zs/\zs.length<=j) ⟨DP.refl _,[],.nil,(λp hp=>by cases hp),Ϧ _⟩ (λj acc G h=>by obtain⟨_,zs,hL,_,hl⟩:=h;rw[Paired.length hL];exact hl) (λj acc G hj h=>?_) (λacc G h=>?_)
  ·obtain⟨GQ,zs,hL,hz,Uz⟩:=h
   refine⟨hj,λv H4 y=>?_⟩
   obtain⟨rfl,rfl⟩:=y
   rw[Þ]
   have s14:=s3.trans GQ
   refine⟨a.tb,IG,fst,Λ,s14 _ _ HJ,FK,a.tb,a.n,a.wy,i,j,Β,Λ,W.EM _ _ _ _ _ hR.I.T.j (DP.Er s14),hi,hj,λD5 H5 s45 hD5 gD5=>⟨Ϧ _,λo7 NZ=>?_⟩⟩
   have Ve:=s45.new (o:=.π []) NZ
   have SH:(ο H5 o7 (.π [])) D5=Α (.π (nV (a.wy i j Β))):=by rw[ag (ah gD5 NZ)];exact gD5
   have g7:(ο H5 o7 (.π [])) o7=Α (.π (([]:List Int).map V.int)):=ac
   generalize ο H5 o7 (.π [])=H6 at Ve SH g7⊢
   refine⟨D5,o7,iz (a.wy i j Β),[],Λ,Λ,by rw[←ug];exact DT.of SH,DT.of g7,_,Λ,?_⟩
   by_cases hw:a.wy i j Β=[]
   ·rw[Ζ (show iz (a.wy i j Β)=[] by rw[hw];rfl)]
    exact aJ ⟨GQ.trans Ve,zs,Ei.same Ve hL,hz,ø ‹_›⟩
   rw[Η (show ¬iz (a.wy i j Β)=[] from λz=>hw (by unfold iz at z;exact ı.mp z))]
   refine aL ⟨by show 2<=ό;decide,λt ht=>?_⟩
   have s47:=Ve.new (o:=.tup [.int (i:Int),.int (j:Int)]) ht
   refine⟨GQ.trans s47,zs++[((i:Int),(j:Int))],Ei.snoc (p:=((i:Int),(j:Int))) ⟨t,Λ,ac⟩ (Ei.same s47 hL),λp hp=>?_,by rw[ϗ,Â];exact Ð ‹_›⟩
   rcases ϯ.mp hp with hp|hp
   ·exact hz p hp
   ·rw[ϙ.mp hp];exact⟨i,j,Λ,hi,hj,hpp i j hi hj hw,hw⟩
  ·obtain⟨GQ,zs,hL,hz,Uz⟩:=h
   refine⟨Ρ _,λo2 Fy=>?_⟩
   have u1:=GQ.new (o:=.π acc) Fy
   have g2:(ο G o2 (.π acc)) o2=Α (.π acc):=ac
   have FV:Ei (ο G o2 (.π acc)) acc zs:=Ei.same ((DP.refl G).new Fy) hL
   generalize ο G o2 (.π acc)=H5 at u1 g2 FV⊢
   have Ht:acc.length=zs.length:=Paired.length hL
   refine⟨bg,o2,_,_,Λ,Λ,u1 _ _ gbg,g2,by rw[Ω];omega,λCc hC=>?_⟩
   have u2:=u1.new (o:=.π (IC++acc)) hC
   refine⟨_,Cc,IC++acc,bs++zs,s3.trans u2,(s3.trans u1).free hC,ac,?_,λp hp=>?_,by rw[ϗ];omega,Λ⟩
   ·exact Paired.app (Ei.same ((DP.refl H5).new hC) FV) (Ei.same u2 SM)
   ·rcases ϯ.mp hp with hp|hp
    ·exact hpo p hp
    ·exact hz p hp
 rintro σ H3 ⟨Vd,bg,IC,bs,s3,nbg0,gbg,SM,hpo,hbl,rfl⟩
 have nbg:=xW hR.I.Y nbg0
 have LS:=hR.same W s3
 have hE3:=hE0.trans s3
 have hbv:IC.length=bs.length:=Paired.length SM
 refine⟨U,ns,5,Λ,hE3.seq hS0,λd5=>⟨_,_,Λ,Λ,(by show (0:Int)<4;decide),_,_,Λ,Λ,?_⟩⟩
 obtain⟨m,hm,hm4⟩:∃m:Nat,(1:Int)+d5% 4=(m:Int)/\m<=4:=⟨(1+d5% 4).toNat,by omega,by omega⟩
 refine⟨(m:Int),by rw[←hm],Φ _,by omega,?_⟩
 rw[Υ]
 refine aV (n:=m) (λi σ Hx=>∃(a12 a13 a14:Option V)(s:YS)(N:Nat->Nat->Nat),Rv K c LC (E9 P w LC) ys Hx a s N nums S rs/\DP H0 Hx/\Hx bg=Α (.π IC)/\Ei Hx IC bs/\s.DO.length<=i/\s.done.length<=i/\σ=[Α (.ref U),Α (.int a.n),Α (.ref l),Α (.ref nu),Α (.ref la),Α (.ref tb),Α (.int out),Α (.ref a.tb),Α (.ref Cu),Α (.ref a.y),Α (.ref bg),Vd,a12,a13,a14])
  ⟨Β,Β,Β,_,_,LS,hE3,gbg,SM,Ρ _,Ρ _,Λ⟩ ?_ ?_
 ·rintro i σ Hx hi ⟨a12,a13,a14,s,N,hRx,hEx,gbx,hLx,O9,hsd,rfl⟩
  rw[Þ]
  refine⟨Ϧ _,λo7 NZ=>?_⟩
  have s4:=(DP.refl Hx).new (o:=.π []) NZ
  have g7:(ο Hx o7 (.π [])) o7=Α (.π []):=ac
  generalize ο Hx o7 (.π [])=H4 at s4 g7⊢
  have Vf:=Ei.same s4 hLx
  have SN:=s4 _ _ gbx
  have Pk:=hRx.same W s4
  have hE4:=hEx.trans s4
  have hS4:=hE4.seq hS0
  refine neN (f:=tY) (l:=bs) (.π (DT.of SN) (ja Vf)) (.π (DT.of g7) .nil) (jn _) ⟨_,Λ,?_⟩
  cases Jg:bs.isEmpty with
  |true=>exact aJ ⟨_,_,_,s,N,Pk,hE4,SN,Vf,ø ‹_›,ø ‹_›,Λ⟩
  |false =>
  have IU:0<IC.length:=by
   rw[hbv]
   cases bs with
   |nil=>cases Jg
   |cons _ _=>exact ť _
  have np:(0:Int)<((IC.length:Nat):Int):=ó.mpr ‹_›
  refine aL ⟨U,ns,5,Λ,hS4,λd6=>⟨_,_,Λ,Λ,d6,20+i,Λ,by omega,λdd Np=>?_⟩⟩
  have z1:=Ď dd (show((IC.length:Nat):Int)≠0 by omega)
  have z2:=ě dd np
  obtain⟨k,hk,hkm⟩:∃k:Nat,dd% ((IC.length:Nat):Int)=(k:Int)/\k<IC.length:=⟨(dd% ((IC.length:Nat):Int)).toNat,by omega,by omega⟩
  have RV:=Μ hkm
  obtain⟨pr,hpr,pt,hpe,Iv⟩:=Paired.at Vf RV
  rw[hpe]at RV
  obtain⟨x,y,rfl,hxn,hyn,MK,hwy⟩:=hpo pr (Ϙ hpr)
  refine⟨bg,_,Λ,.inl (DT.of SN),_,_,Λ,Λ,np,bg,IC,(k:Int),.ref pt,Λ,congrArg V.int hk,DT.of SN,aq RV,pt,_,Λ,Ec.of Iv,Λ,_,_,Λ,_,_,Λ,Λ,?_⟩
  refine⟨a.y,a.dy,_,Λ,Pk.I.Y.ρ,Λ,U,ns,5,Λ,hS4,λd7=>⟨_,_,Λ,Λ,d7,30+i,Λ,by omega,λd8 h8=>⟨_,_,Λ,Λ,(by show (0:Int)<4;decide),_,_,Λ,Λ,?_⟩⟩⟩
  obtain⟨len,SO,IZ⟩:∃len:Int,1+d8% 4=len/\1<=len/\len<=4:=⟨_,Λ,by omega,by omega⟩
  dsimp only
  rw[SO]
  have gd:=uT (n:=a.n) (wy:=a.wy) (m:=s.DO.length) (u:=0) hxn hyn ⟨IZ.1,by omega⟩ (by decide +kernel) MK hwy (by omega)
  refine⟨a.y,a.dy,a.tb,a.ro,a.la,a.le,a.li,a.dn,a.lx,a.Ef,a.lt,a.n,a.DX,a.ps,a.wy,s,.int x,.int y,.int len,.int 0,Λ,Pk.I.Y,Pk.I.T,.int _,.int _,.int _,.int _,by omega,by omega,(λh=>by rw[gd]at h;cases h),(λh=>by rw[gd]at h;cases h),(λh=>by rw[gd]at h;cases h),(λh=>by rw[gd]at h;cases h),(λh=>by rw[gd]at h;cases h),λ_ H5 o5 OP=>?_⟩
  obtain⟨N',hR5⟩:=Pk.post W hxn hyn IZ hwy (by omega) o5 OP
  have o4:Ee a.four H4 H5:=o5.mono (in4 a)
  refine⟨_,_,_,_,N',hR5,p8 hE4 o4 J9,o4 _ _ nbg SN,(Ee.Er (λz hz=>Pk.I.Y.Ja z hz) o4).Jo Vf,?_,?_,Λ⟩
  ·show(s.DO++[_]).length<=_
   rw[ϗ,Â];exact Ð ‹_›
  ·show(s.done++[_]).length<=_
   rw[ϗ,Â];exact Ð ‹_›
 rintro σ Hx ⟨a12,a13,a14,s,N,hRx,hEx,gbx,hLx,O9,hsd,rfl⟩
 exact⟨a,s,N,nums,S,rs,ns,U,out,H0,Λ,hRx,hEx,J9,hS0,K3,q⟩
theorem len_of1{b:Type}{P:List b->Prop}(h:∀a,P [a]):∀us:List b,us.length=1->P us
 |[a],_=>h a
theorem len_of2{c:Type}{P:List c->Prop}(h:∀a b,P [a,b]):∀us:List c,us.length=2->P us
 |[a,b],_=>h a b
theorem len_of3{d:Type}{P:List d->Prop}(h:∀a b c,P [a,b,c]):∀us:List d,us.length=3->P us
 |[a,b,c],_=>h a b c
theorem len_of4{e:Type}{P:List e->Prop}(h:∀a b c d,P [a,b,c,d]):∀us:List e,us.length=4->P us
 |[a,b,c,d],_=>h a b c d
theorem len_of5{f:Type}{P:List f->Prop}(h:∀a b c d e,P [a,b,c,d,e]):∀us:List f,us.length=5->P us
 |[a,b,c,d,e],_=>h a b c d e
theorem len_of7{i:Type}{P:List i->Prop}(h:∀a b c d e f g,P [a,b,c,d,e,f,g]):∀us:List i,us.length=7->P us
 |[a,b,c,d,e,f,g],_=>h a b c d e f g
structure FT(K:ϧ)(mg:Str->Option Τ)(n:Str)(st:Ç)(ps:List Str)(f:Ν)(fd:Ý):Prop where
 F:En K n n st f fd
 m:mg n=Α (.ref f)
 k:Ϯ K (.ref f)=Δ
 b:Binds K fd ps []
structure FM(K:ϧ)(C:Ν)(n q:Str)(st:Ç)(ps:List Str)(f:Ν)(fd:Ý):Prop where
 F:En K n q st f fd
 m:cb K C n f
 b:Binds K fd ps []
section
variable {K:ϧ}{mg:Str->Option Τ}{C f:Ν}{n q:Str}{st:Ç}{ps:List Str}{h:Ü}{oc:Τ}{od an:Option Ν}{Hw:Array (Option Τ)}{kV doc pm cdv ct:Τ}
theorem mkT(X:K.In h)(G:h.Ns Ϥ mg)(b:∀(kV doc pm:Τ) (an:Option Ν) (cdv ct:Τ) (us:List Τ),us.length=ps.length->XN (v3 n n (cf st) (aK st) (am st) .none kV doc pm an cdv ct) ⟨us,[]⟩=pure (ps.zip us))
  (a:ł K Ϥ n=Α (Α (.ref f))) (l:K.lookup f=Α ⟨oc,od,.func (v3 n n (cf st) (aK st) (am st) .none kV doc pm an cdv ct),Hw⟩) (c:ri K cdv n=Δ) (k:Ϯ K (.ref f)=Δ):∃d,FT K mg n st ps f d:=
 ⟨_,j3 l c k,ş X G a,k,(j3 l c k).binds b⟩
theorem mkM(b:∀(kV doc pm:Τ) (an:Option Ν) (cdv ct:Τ) (us:List Τ),us.length=ps.length->XN (v3 n q (cf st) (aK st) (am st) .none kV doc pm an cdv ct) ⟨us,[]⟩=pure (ps.zip us))
  (a:Ë K (.ref C) n=Α (Α (.ref f))) (l:K.lookup f=Α ⟨oc,od,.func (v3 n q (cf st) (aK st) (am st) .none kV doc pm an cdv ct),Hw⟩) (c:ri K cdv q=Δ) (k:Ϯ K (.ref f)=Δ) (i:isFn K (.ref f)=Δ):∃d,FM K C n q st ps f d:=
 ⟨_,j3 l c k,⟨a,i,k⟩,(j3 l c k).binds b⟩
end
section
variable {l:PySem.W.OpenLaw}{w:Î}{K:ϧ}{h:Ü}{mg:Str->Option Τ}{fa cL cB cD cS cW cA cH cJ f1 f2 f3 f4 f5 f6 f7 f8 f9 f10 TN f12 f13 f14 f15 f16 f17 f18 f19 f20 f21 f22 f23 f24 f25 f26 f27 Vg f29 f30 f31 f32 f33 f34 f35 f36 f37 f38 f39 Vh f41 f42 f43 Pl f45 f46 f47 f48 f49 f50 f51 f52 f53 f54 f55 Om Oo f58 f59 f60 f61 f62 f63 f64 f65 f66 f67 f68 f69 f70 f71 f72 f73 f74 f75:Ν}{t1 t2 t3 t4 t5:Tok}
theorem all_mk(X:K.In h)(G:h.Ns Ϥ mg)(LK:mg "law"=Α (.ref fa))
  
   
  (gcL:ł K Ϥ "Land"=Α (Α (.ref cL)))
  (gcB:ł K Ϥ "Table"=Α (Α (.ref cB)))
  (gcD:ł K Ϥ "Told"=Α (Α (.ref cD)))
  (gcS:ł K Ϥ "Less"=Α (Α (.ref cS)))
  (gcW:ł K Ϥ "NoWay"=Α (Α (.ref cW)))
  (gcA:ł K Ϥ "Lane"=Α (Α (.ref cA)))
  (gcH:ł K Ϥ "Letter"=Α (Α (.ref cH)))
  (gcJ:ł K Ϥ "Yard"=Α (Α (.ref cJ)))
  (h1:∃d,FT K mg "has" zj ["some","number"] f1 d)
  (h2:∃d,FT K mg "members" wZ ["some"] f2 d)
  (h3:∃d,FT K mg "set_of" BX ["numbers"] f3 d)
  (h4:∃d,FT K mg "is_whole" iu ["value"] f4 d)
  (h5:∃d,FT K mg "is_within" jR ["value","least","most"] f5 d)
  (h6:∃d,FT K mg "is_one_of" BZ ["value","numbers"] f6 d)
  (h7:∃d,FT K mg "are_two_places" BU ["places","one","other"] f7 d)
  (h8:∃d,FT K mg "row_fits" pG ["land","row"] f8 d)
  (h9:∃d,FT K mg "onward" Uh ["table","lane","goal"] f9 d)
  (h10:∃d,FT K mg "starts" nY ["table"] f10 d)
  (h11:∃d,FT K mg "first_lanes" rL ["table","goal"] TN d)
  (h12:∃d,FT K mg "lanes_ahead" rQ ["table","goal"] f12 d)
  (h13:∃d,FT K mg "met" wY ["table"] f13 d)
  (h14:∃d,FT K mg "lanes_alive" fv ["table","out","goal"] f14 d)
  (h15:∃d,FT K mg "has_size" p9 ["land","numbers","sets"] f15 d)
  (h16:∃d,FT K mg "start_fault" BW ["table","sets"] f16 d)
  (h17:∃d,FT K mg "way_fault" wP ["numbers","sets","lane","goal","way"] f17 d)
  (h18:∃d,FT K mg "pair_fault" rC ["table","numbers","sets","lane","goal"] f18 d)
  (h19:∃d,FT K mg "lane_fault" rJ ["table","numbers","sets","lane"] f19 d)
  (h20:∃d,FT K mg "fault" rM ["table","paper"] f20 d)
  (h21:∃d,FT K mg "rooms_of" iw ["land","rooms"] f21 d)
  (h22:∃d,FT K mg "is_word" wN ["word"] f22 d)
  (h23:∃d,FT K mg "is_move" pD ["move"] f23 d)
  (h24:∃d,FT K mg "_law_cell_at" xj ["_law_script","_law_k"] f24 d)
  (h25:∃d,FT K mg "_law_mixed" Cb ["_law_cell","_law_k"] f25 d)
  (h26:∃d,FT K mg "_law_lanes" rH ["_law_places","_law_amount","_law_cell"] f26 d)
  (h27:∃d,FT K mg "_law_numbers" wX ["_law_amount","_law_cell"] f27 d)
  (a28:ł K Ϥ "_law_alive"=Α (Α (.ref Vg)))
  (l28:K.lookup Vg=Α ⟨oc28,od28,.func (v3 "_law_alive" "_law_alive" (cf fA) (aK fA) (am fA) .none kV28 dc28 pm28 an28 Oq ct28),sl28⟩)
  (c28:ri K Oq "_law_alive"=Δ)
  (k28:Ϯ K (.ref Vg)=Δ)
  (h29:∃d,FT K mg "_law_entry" kN ["_law_lanes_here","_law_numbers_here","_law_alive_here","_law_place","_law_goal","_law_came","_law_draw"] f29 d)
  (h30:∃d,FT K mg "_law_made" pC ["_law_places","_law_lanes_here","_law_numbers_here","_law_alive_here","_law_cell"] f30 d)
  (h31:∃d,FT K mg "_law_comes" rO ["_law_table","_law_goal","_law_place","_law_came","_law_out"] f31 d)
  (h32:∃d,FT K mg "_law_cut" Cj ["_law_table","_law_out"] f32 d)
  (h33:∃d,FT K mg "_law_refused" wR ["_law_yard","_law_start","_law_goal"] f33 d)
  (h34:∃d,FT K mg "_law_runs" kM ["_law_yard","_law_script","_law_out"] f34 d)
  (a35:ł K Ϥ "law"=Α (Α (.ref f35)))
  (l35:K.lookup f35=Α ⟨oc35,od35,.func (v3 "law" "law" (cf iy) (aK iy) (am iy) .none SU SV SW SQ Ot SX),sl35⟩)
  (c35:ri K Ot "law"=Δ)
  (k35:Ϯ K (.ref f35)=Δ)
  (h36:∃d,FM K cL "__init__" "Land.__init__" pF ["self","places","lanes"] f36 d)
  (h37:∃d,FM K cL "end_of" "Land.end_of" Ci ["self","lane"] f37 d)
  (h38:∃d,FM K cL "out_of" "Land.out_of" wV ["self","place"] f38 d)
  (h39:∃d,FM K cL "into" "Land.into" pE ["self","place"] f39 d)
  (h40:∃d,FM K cB "__init__" "Table.__init__" BV ["self","land"] Vh d)
  (h41:∃d,FM K cD "__init__" "Told.__init__" wQ ["self","land","rows"] f41 d)
  (h42:∃d,FM K cD "ways" "Told.ways" rB ["self","place","goal","came"] f42 d)
  (h43:∃d,FM K cS "__init__" "Less.__init__" m7 ["self","table","out"] f43 d)
  (h44:∃d,FM K cS "ways" "Less.ways" rG ["self","place","goal","came"] Pl d)
  (h45:∃d,FM K cS "cut_off" "Less.cut_off" oh ["self"] f45 d)
  (h46:∃d,FM K cW "__init__" "NoWay.__init__" Ui ["self","start","goal"] f46 d)
  (h47:∃d,FM K cA "__init__" "Lane.__init__" Ce ["self","room"] f47 d)
  (h48:∃d,FM K cA "open_to" "Lane.open_to" wW ["self","letter","count"] f48 d)
  (h49:∃d,FM K cA "put" "Lane.put" BY ["self","letter","count","last"] f49 d)
  (h50:∃d,FM K cA "front" "Lane.front" rK ["self"] f50 d)
  (h51:∃d,FM K cA "pull" "Lane.pull" wS ["self"] f51 d)
  (h52:∃d,FM K cA "bring" "Lane.bring" rP ["self"] f52 d)
  (h53:∃d,FM K cA "twin" "Lane.twin" Cd ["self"] f53 d)
  (h54:∃d,FM K cH "__init__" "Letter.__init__" xh ["self","start","goal","length","word"] f54 d)
  (h55:∃d,FM K cH "twin" "Letter.twin" xf ["self"] f55 d)
  (a56:Ë K (.ref cJ) "__init__"=Α (Α (.ref Om)))
  (l56:K.lookup Om=Α ⟨oc56,od56,.func (v3 "__init__" "Yard.__init__" (cf jo) (aK jo) (am jo) (.ref Ti) SY Ta Tc SR Ou Td),sl56⟩)
  (d56:K.lookup Ti=Α ⟨tO56,tD56,.seq #[Ú] tN56,tS56⟩)
  (c56:ri K Ou "Yard.__init__"=Δ)
  (k56:Ϯ K (.ref Om)=Δ)
  (i56:isFn K (.ref Om)=Δ)
  (a57:Ë K (.ref cJ) "post"=Α (Α (.ref Oo)))
  (l57:K.lookup Oo=Α ⟨oc57,od57,.func (v3 "post" "Yard.post" (cf im) (aK im) (am im) (.ref Tj) Te Tf Tg SS Ov Th),sl57⟩)
  (d57:K.lookup Tj=Α ⟨tO57,tD57,.seq #[Ĝ 0 tk57] tN57,tS57⟩)
  (c57:ri K Ov "Yard.post"=Δ)
  (k57:Ϯ K (.ref Oo)=Δ)
  (i57:isFn K (.ref Oo)=Δ)
  (h58:∃d,FM K cJ "moves" "Yard.moves" rE ["self"] f58 d)
  (h59:∃d,FM K cJ "moves_in" "Yard.moves_in" pB ["self","number"] f59 d)
  (h60:∃d,FM K cJ "moves_on" "Yard.moves_on" pA ["self","lane"] f60 d)
  (h61:∃d,FM K cJ "moves_lie" "Yard.moves_lie" rD ["self","lane"] f61 d)
  (h62:∃d,FM K cJ "moves_back" "Yard.moves_back" og ["self","lane"] f62 d)
  (h63:∃d,FM K cJ "wanted" "Yard.wanted" iP ["self","lane"] f63 d)
  (h64:∃d,FM K cJ "moves_like" "Yard.moves_like" xb ["self","move"] f64 d)
  (h65:∃d,FM K cJ "do" "Yard.do" WQ ["self","move"] f65 d)
  (h66:∃d,FM K cJ "go_in" "Yard.go_in" xi ["self","number","lane"] f66 d)
  (h67:∃d,FM K cJ "enter" "Yard.enter" rN ["self","piece","lane"] f67 d)
  (h68:∃d,FM K cJ "lay" "Yard.lay" Cf ["self","piece","place"] f68 d)
  (h69:∃d,FM K cJ "own_lane" "Yard.own_lane" wU ["self","lane"] f69 d)
  (h70:∃d,FM K cJ "own_letter" "Yard.own_letter" wT ["self","number"] f70 d)
  (h71:∃d,FM K cJ "ended" "Yard.ended" i3 ["self"] f71 d)
  (h72:∃d,FM K cJ "letter_told" "Yard.letter_told" xg ["self","number"] f72 d)
  (h73:∃d,FM K cJ "way_told" "Yard.way_told" wO ["self","number"] f73 d)
  (h74:∃d,FM K cJ "lying" "Yard.lying" rF ["self","place"] f74 d)
  (h75:∃d,FM K cJ "posted" "Yard.posted" nZ ["self"] f75 d)
  (mp:ł K Ϥ "MOST_PLACES"=Α (Α (.int 12 t1)))
  (ml:ł K Ϥ "MOST_LANES"=Α (Α (.int 40 t2)))
  (mr:ł K Ϥ "MOST_ROOM"=Α (Α (.int 60 t3)))
  (mh:ł K Ϥ "MOST_LENGTH"=Α (Α (.int 60 t4)))
  (mk:ł K Ϥ "MOST_LETTERS"=Α (Α (.int 60 t5)))
  (p1cL:Œ K cL Ţ=Δ)
  (p2cL:ī K cL=Δ)
  (p3cL:ř K cL=Δ)
  (p4cL:Ë K (.ref cL) "__setattr__"=Α (Α (.builtin "object.__setattr__")))
  (p5cL:kb K cL=Δ)
  (p6cL:Ϯ K (.ref cL)=Δ)
  (y:Ë K (.ref cL) "places"=Α Β)
  (I:Ë K (.ref cL) "lanes"=Α Β)
  (p1cB:Œ K cB Ţ=Δ)
  (p2cB:ī K cB=Δ)
  (p3cB:ř K cB=Δ)
  (p4cB:Ë K (.ref cB) "__setattr__"=Α (Α (.builtin "object.__setattr__")))
  (p5cB:kb K cB=Δ)
  (p6cB:Ϯ K (.ref cB)=Δ)
  (U:Ë K (.ref cB) "land"=Α Β)
  (p1cD:Œ K cD Ţ=Δ)
  (p2cD:ī K cD=Δ)
  (p3cD:ř K cD=Δ)
  (p4cD:Ë K (.ref cD) "__setattr__"=Α (Α (.builtin "object.__setattr__")))
  (p5cD:kb K cD=Δ)
  (p6cD:Ϯ K (.ref cD)=Δ)
  (f:Ë K (.ref cD) "land"=Α Β)
  (p:Ë K (.ref cD) "entries"=Α Β)
  (p1cS:Œ K cS Ţ=Δ)
  (p2cS:ī K cS=Δ)
  (p3cS:ř K cS=Δ)
  (p4cS:Ë K (.ref cS) "__setattr__"=Α (Α (.builtin "object.__setattr__")))
  (p5cS:kb K cS=Δ)
  (p6cS:Ϯ K (.ref cS)=Δ)
  (g:Ë K (.ref cS) "land"=Α Β)
  (q:Ë K (.ref cS) "entries"=Α Β)
  (ncScut:Ë K (.ref cS) "cut"=Α Β)
  (p1cA:Œ K cA Ţ=Δ)
  (p2cA:ī K cA=Δ)
  (p3cA:ř K cA=Δ)
  (p4cA:Ë K (.ref cA) "__setattr__"=Α (Α (.builtin "object.__setattr__")))
  (p5cA:kb K cA=Δ)
  (p6cA:Ϯ K (.ref cA)=Δ)
  (z:Ë K (.ref cA) "rights"=Α Β)
  (j:Ë K (.ref cA) "returning"=Α Β)
  (A:Ë K (.ref cA) "holder"=Α Β)
  (C:Ë K (.ref cA) "pieces"=Α Β)
  (p1cH:Œ K cH Ţ=Δ)
  (p2cH:ī K cH=Δ)
  (p3cH:ř K cH=Δ)
  (p4cH:Ë K (.ref cH) "__setattr__"=Α (Α (.builtin "object.__setattr__")))
  (p5cH:kb K cH=Δ)
  (p6cH:Ϯ K (.ref cH)=Δ)
  (J:Ë K (.ref cH) "start"=Α Β)
  (ncHgoal:Ë K (.ref cH) "goal"=Α Β)
  (D:Ë K (.ref cH) "length"=Α Β)
  (ncHword:Ë K (.ref cH) "word"=Α Β)
  (ncHgone:Ë K (.ref cH) "gone"=Α Β)
  (ncHway:Ë K (.ref cH) "way"=Α Β)
  (p1cJ:Œ K cJ Ţ=Δ)
  (p2cJ:ī K cJ=Δ)
  (p3cJ:ř K cJ=Δ)
  (p4cJ:Ë K (.ref cJ) "__setattr__"=Α (Α (.builtin "object.__setattr__")))
  (p5cJ:kb K cJ=Δ)
  (p6cJ:Ϯ K (.ref cJ)=Δ)
  (N:Ë K (.ref cJ) "table"=Α Β)
  (Q:Ë K (.ref cJ) "rooms"=Α Β)
  (R:Ë K (.ref cJ) "lanes"=Α Β)
  (r:Ë K (.ref cJ) "letters"=Α Β)
  (ncJlies:Ë K (.ref cJ) "lies"=Α Β)
  (ncJdone:Ë K (.ref cJ) "done"=Α Β)
  (x1cW:j5 K cW (Α (.ref f46))=Δ)
  (x2cW:Ϯ K (.ref cW)=Δ)
  (x3cW:sK K cW=Δ)
  (x4cW:ī K cW=Δ)
  (x5cW:Ë K (.ref cW) "__setattr__"=Α (Α (.builtin "object.__setattr__")))
  (x6cW:Ë K (.ref cW) "__getattribute__"=Α (Α (.builtin "BaseException.__getattribute__")))
  (x7cW:Ë K (.ref cW) "__getattr__"=Α Β)
  (S:Ë K (.ref cW) "start"=Α Β)
  (ncWgoal:Ë K (.ref cW) "goal"=Α Β)
  (w1cB:PySem.W.readsIn K cB (.type "type")=Δ)
  (w2cB:PySem.W.findCls K (.ref cB) (.type "type") "__init__"=Α (.val (.ref Vh)))
  (w3cB:PySem.W.specialIn K (.ref cB) "__getattribute__"=Α (Α (.builtin "type.__getattribute__")))
  (eW:PySem.W.exmOne K (.ref cW) (.ref cW)=Α Δ)
  (kk1:Į K (.type "int") (.type "int")=Α Δ)
  (kk2:Į K (.type "int") (.type "bool")=Α Ε)
  (kk3:Į K (.type "bool") (.type "int")=Α Δ)
  (kk4:Į K (.type "bool") (.type "bool")=Α Δ)
  (kk5:Į K (.type "NoneType") (.type "int")=Α Ε)
  (kk6:Į K (.type "str") (.type "str")=Α Δ)
  (kk7:Į K (.type "int") (.type "str")=Α Ε)
  (kk8:Į K (.type "tuple") (.type "tuple")=Α Δ)
  (kk9:Į K (.type "list") (.type "list")=Α Δ)
  (z0:ł K Ϥ "isinstance"=Α Β)
  (z1:ł K Ϥ "int"=Α Β)
  (z2:ł K Ϥ "bool"=Α Β)
  (z3:ł K Ϥ "len"=Α Β)
  (z4:ł K Ϥ "enumerate"=Α Β)
  (z5:ł K Ϥ "tuple"=Α Β)
  (z6:ł K Ϥ "range"=Α Β)
  (z7:ł K Ϥ "list"=Α Β)
  (z8:ł K Ϥ "all"=Α Β)
  (z9:ł K Ϥ "sum"=Α Β)
  (z10:ł K Ϥ "abs"=Α Β)
  (z11:ł K Ϥ "str"=Α Β)
  (z12:ł K Ϥ "max"=Α Β)
  (z13:ł K Ϥ "sorted"=Α Β)
  (hc0:Oq=ϭ cc)
  (lc0:K.lookup cc=Α ⟨oTb,dTb,.fields vTb,sTb⟩)
  (hv0:vTb[11]?=Α (ϭ Tb))
  :∃(fd:Ý)(c Tb:Ν),PySem.W.tabIn K "_law_alive"=Α (c,Tb)/\(∀(s:Ψ)(v:Τ),Nd s fd ⟨[v],[]⟩ [("_law_script",v)])/\∀μ:Ü,K.In μ->μ.Ns Ϥ mg->KC mg μ c Tb->DQ l.prog w K mg μ aF 16 fa fd ["_law_script"] (tE K Tb):=by
 have e:=LK.symm.trans (ş X G a35)
 cases e
 have T:eD mg:=⟨ý X G z0,ý X G z1,ý X G z2,ý X G z3,ý X G z4,ý X G z5,ý X G z6,ý X G z7,ý X G z8,ý X G z9,ý X G z10,ý X G z11,ý X G z12,ý X G z13⟩
 obtain⟨d1,H1⟩:=h1
 obtain⟨d2,H2⟩:=h2
 obtain⟨d3,H3⟩:=h3
 obtain⟨d4,t⟩:=h4
 obtain⟨d5,i⟩:=h5
 obtain⟨d6,H6⟩:=h6
 obtain⟨d7,H7⟩:=h7
 obtain⟨d8,H8⟩:=h8
 obtain⟨d9,E⟩:=h9
 obtain⟨d10,J7⟩:=h10
 obtain⟨d11,Vi⟩:=h11
 obtain⟨d12,Vj⟩:=h12
 obtain⟨d13,Vk⟩:=h13
 obtain⟨d14,Vl⟩:=h14
 obtain⟨d15,Vm⟩:=h15
 obtain⟨d16,Vn⟩:=h16
 obtain⟨d17,Vo⟩:=h17
 obtain⟨d18,Vp⟩:=h18
 obtain⟨d19,Vq⟩:=h19
 obtain⟨d20,Vr⟩:=h20
 obtain⟨d21,Vs⟩:=h21
 obtain⟨d22,Ow⟩:=h22
 obtain⟨d23,Vt⟩:=h23
 obtain⟨d24,Ox⟩:=h24
 obtain⟨d25,u⟩:=h25
 obtain⟨d26,Vu⟩:=h26
 obtain⟨d27,Vv⟩:=h27
 obtain⟨d29,Vw⟩:=h29
 obtain⟨d30,Vx⟩:=h30
 obtain⟨d31,Oy⟩:=h31
 obtain⟨d32,Vy⟩:=h32
 obtain⟨d33,Vz⟩:=h33
 obtain⟨d34,V0⟩:=h34
 obtain⟨d36,V1⟩:=h36
 obtain⟨d37,H37⟩:=h37
 obtain⟨d38,H38⟩:=h38
 obtain⟨d39,V2⟩:=h39
 obtain⟨d40,H40⟩:=h40
 obtain⟨d41,V3⟩:=h41
 obtain⟨d42,H42⟩:=h42
 obtain⟨d43,V4⟩:=h43
 obtain⟨d44,Tn⟩:=h44
 obtain⟨d45,H45⟩:=h45
 obtain⟨d46,H46⟩:=h46
 obtain⟨d47,Tp⟩:=h47
 obtain⟨d48,Oz⟩:=h48
 obtain⟨d49,H49⟩:=h49
 obtain⟨d50,O0⟩:=h50
 obtain⟨d51,H51⟩:=h51
 obtain⟨d52,H52⟩:=h52
 obtain⟨d53,H53⟩:=h53
 obtain⟨d54,Tq⟩:=h54
 obtain⟨d55,H55⟩:=h55
 obtain⟨d58,H58⟩:=h58
 obtain⟨d59,H59⟩:=h59
 obtain⟨d60,H60⟩:=h60
 obtain⟨d61,H61⟩:=h61
 obtain⟨d62,H62⟩:=h62
 obtain⟨d63,H63⟩:=h63
 obtain⟨d64,H64⟩:=h64
 obtain⟨d65,H65⟩:=h65
 obtain⟨d66,H66⟩:=h66
 obtain⟨d67,Tr⟩:=h67
 obtain⟨d68,H68⟩:=h68
 obtain⟨d69,H69⟩:=h69
 obtain⟨d70,H70⟩:=h70
 obtain⟨d71,H71⟩:=h71
 obtain⟨d72,H72⟩:=h72
 obtain⟨d73,H73⟩:=h73
 obtain⟨d74,H74⟩:=h74
 obtain⟨d75,H75⟩:=h75
 have F28:=j3 (st:=fA) l28 c28 k28
 have F35:=j3 (st:=iy) l35 c35 k35
 have F56:HI K "__init__" "Yard.__init__" jo Om _:=⟨⟨_,_,_,_,_,_,_,_,_,_,Λ,l56,c56⟩,k56⟩
 have F57:HI K "post" "Yard.post" im Oo _:=⟨⟨_,_,_,_,_,_,_,_,_,_,Λ,l57,c57⟩,k57⟩
 have L:kC K ⟨cL⟩:=⟨⟨p1cL,p2cL,p3cL,p4cL⟩,y,I⟩
 have Z:yP K:=⟨kk1,kk2,kk3,kk4,kk5⟩
 have ZS:RB K:=⟨kk6,kk7,kk8⟩
 have B:Uj K mg ⟨cB,cD⟩ Vh _:=⟨⟨p1cB,p2cB,p3cB,p4cB⟩,U,⟨p1cD,p2cD,p3cD,p4cD⟩,f,p,(ş X G gcB),⟨w1cB,w2cB,w3cB,H40.m.kp⟩,H40.b⟩
 have M:DJ K ⟨cL⟩ f38 f39 _ _:=⟨H38.m,V2.m,H38.b,V2.b⟩
 have ME:qT K ⟨cL⟩ f37 _:=⟨H37.m,H37.b⟩
 have Y:∀a:List Ν,jA K ⟨cJ,cA,cH,a⟩:=λ_=>⟨⟨p1cJ,p2cJ,p3cJ,p4cJ⟩,N,Q,R,r,ncJlies,ncJdone,⟨p1cH,p2cH,p3cH,p4cH⟩,J,ncHgoal,D,ncHword,ncHgone,ncHway,⟨⟨p1cA,p2cA,p3cA,p4cA⟩,z,j,A,C⟩⟩
 have ZH:=sO (kV:=SY) (doc:=Ta) (pm:=Tc) (cdv:=Ou) (ct:=Td) (an:=SR) d56 Λ
 have bp1:=qG (kV:=Te) (doc:=Tf) (pm:=Tg) (cdv:=Ov) (ct:=Th) (an:=SS) d57 Λ
 have Mi:Mk K cL f36:=⟨p5cL,V1.m.at_,V1.m.fn,p6cL⟩
 have Mt:Mk K cD f41:=⟨p5cD,V3.m.at_,V3.m.fn,p6cD⟩
 have Mz:Mk K cS f43:=⟨p5cS,V4.m.at_,V4.m.fn,p6cS⟩
 have My:Mk K cJ Om:=⟨p5cJ,a56,i56,p6cJ⟩
 have Ma:Mk K cA f47:=⟨p5cA,Tp.m.at_,Tp.m.fn,p6cA⟩
 have Mh:Mk K cH f54:=⟨p5cH,Tq.m.at_,Tq.m.fn,p6cH⟩
 refine⟨v3 "law" "law" (cf iy) (aK iy) (am iy) .none SU SV SW SQ Ot SX,_,_,B4 a28 l28 hc0 lc0 hv0,λs v =>.of_eq Λ,λμ _ _ NS=>?_⟩
 have hcc:=hc0
 have Gm:DQ l.prog w K mg μ aF 2 f2 _ _ _:=CD H2.F T H1.m H1.F H1.b
 have W1:uI K cD f42 _ (eE l.prog w ⟨cB,cD⟩):=⟨B.cd,H42.m,H42.b,λH x wy DS=>by obtain⟨dx,de,lv,kvs,h1,_⟩:=DS;exact⟨_,_,h1,Λ⟩,λH H' x wy ⟨dx,de,lv,kvs,h1,h2,h3⟩ s=>⟨dx,de,lv,kvs,s _ _ h1,h2.same s,h3⟩⟩
 have Tt:DQ l.prog w K mg μ aF 3 f42 _ _ _:=uM (xA (ts:=⟨cB,cD⟩) H42.F B H2.m H2.k H2.b Gm)
 have Lc:Of K cS Pl _:=⟨⟨p1cS,p2cS,p3cS,p4cS⟩,g,q,ncScut,Tn.m,Tn.b⟩
 have W2:uI K cS Pl _ (dL l.prog w cS):=Lc.ω
 have Tu:DQ l.prog w K mg μ aF 3 Pl _ _ _:=xH Tn.F Lc H2.m H2.k H2.b Gm
 have o:Wy K cS Pl _ (E9 l.prog w cS):=⟨⟨p1cS,p2cS,p3cS,p4cS⟩,g,Tn.m,Tn.b,λH H' x n wy h k=>E9.keep (n:=n) (wyf:=wy) h k⟩
 have Gb:DQ l.prog w K mg μ aF 3 Pl _ _ _:=vh Tu
 have Gw:DQ l.prog w K mg μ aF 2 f5 _ _ _:=uX i.F T t.m t.F t.b
 have V5:DQ l.prog w K mg μ aF 2 f5 _ _ _:=rY i.F T Z t.m t.F t.b
 have GW:DQ l.prog w K mg μ aF 1 f4 _ _ _:=mE t.F T Z
 have G2:DQ l.prog w K mg μ aF 3 f7 _ _ _:=C3 H7.F i.m i.k i.b Gw
 have Gi:DQ l.prog w K mg μ aF 4 f36 _ _ _:=Ac V1.F T L i.m i.k i.b Gw H7.m H7.k H7.b G2 (ş X G mp) (ş X G ml)
 have Go:DQ l.prog w K mg μ aF 2 f6 _ _ _:=C9 H6.F T t.m t.F t.b
 have Gf:DQ l.prog w K mg μ aF 4 f8 _ _ _:=Ae H8.F T L M H7.m H7.k H7.b G2 H6.m H6.k H6.b Go (C8 H38.F T L) (uc V2.F T L)
 have G1:DQ l.prog w K mg μ aF 1 Vh _ _ _:=C4 H40.F
 have Gse:DQ l.prog w K mg μ aF 1 f3 _ _ _:=C6 H3.F
 have Gt:DQ l.prog w K mg μ aF 5 f41 _ _ _:=zL V3.F T B G1 H8.m H8.k H8.b Gf H3.m H3.k H3.b Gse
 have Ge:DQ l.prog w K mg μ aF 1 f37 _ _ _:=CM H37.F L
 have Gro:DQ l.prog w K mg μ aF 3 f21 _ _ _:=xB Vs.F T L i.m i.k i.b V5 (ş X G mr)
 have OM:DQ l.prog w K mg μ aF 2 f22 _ _ _:=zI Ow.F T t.m t.k t.b GW
 have Gla:DQ l.prog w K mg μ aF 1 f47 _ _ _:=CI Tp.F (Y []).L
 have Gop:DQ l.prog w K mg μ aF 1 f48 _ _ _:=zT Oz.F (Y []).L
 have Gfr:DQ l.prog w K mg μ aF 1 f50 _ _ _:=xL O0.F (Y []).L
 have Gpu:DQ l.prog w K mg μ aF 2 f49 _ _ _:=C7 H49.F (Y []).L Oz.m Oz.b Gop
 have Gpl:DQ l.prog w K mg μ aF 1 f51 _ _ _:=zP H51.F (Y []).L
 have Gbr:DQ l.prog w K mg μ aF 1 f52 _ _ _:=xS H52.F (Y []).L
 have Gtw:DQ l.prog w K mg μ aF 3 f53 _ _ _:=CH H53.F T (Y []).L (ş X G gcA) Ma Tp.b Gla
 have Gle:DQ l.prog w K mg μ aF 1 f54 _ _ _:=CG Tq.F (Y [])
 have Gtx:DQ l.prog w K mg μ aF 3 f55 _ _ _:=CF H55.F T (Y []) (ş X G gcH) Mh Tq.b Gle
 have Gy:DQ l.prog w K mg μ aF 4 Om _ _ _:=C2 F56 T L (Y []) o Vs.m Vs.k Vs.b Gro (ş X G gcA) Ma Tp.b Gla
 have Gp:∀a:List Ν,DQ l.prog w K mg μ aF 4 Oo _ _ (rp K ⟨cL⟩ cS (E9 l.prog w cS) ⟨cJ,cA,cH,a⟩):=λa=>zQ F57 T L (Y a) o Gb i.m i.k i.b V5 Ow.m Ow.k Ow.b OM (ş X G gcH) Mh Tq.b Gle (ş X G mh) (ş X G mk)
 have Gol:∀a:List Ν,DQ l.prog w K mg μ aF 4 f69 _ _ _:=λa=>zS H69.F (Y a) H53.m H53.b Gtw
 have Got:∀a:List Ν,DQ l.prog w K mg μ aF 4 f70 _ _ _:=λa=>zR H70.F (Y a) H55.m H55.b Gtx
 have O:∀a:List Ν,Own l.prog w K mg μ ⟨cJ,cA,cH,a⟩ f69 f70 f49 _ _ _:=λa=>⟨H69.m,H69.b,Gol a,H70.m,H70.b,Got a,H49.m,H49.b,Gpu⟩
 have Gly:∀a:List Ν,DQ l.prog w K mg μ aF 1 f68 _ _ _:=λa=>CJ H68.F (Y a)
 have Glg:DQ l.prog w K mg μ aF 1 f74 _ _ _:=xG H74.F T (Y [])
 have Gen:∀a:List Ν,DQ l.prog w K mg μ aF 5 f67 _ _ _:=λa=>xP Tr.F (Y a) (O a)
 have Ggi:∀a:List Ν,DQ l.prog w K mg μ aF 6 f66 _ _ _:=λa=>Ad H66.F (Y a) (O a) Tr.m Tr.b (Gen a)
 have Gon:DQ l.prog w K mg μ aF 4 f9 _ _ (tu ⟨cL⟩ cS (E9 l.prog w cS)):=CA E.F L o Gb ME Ge
 have Gmi:∀a:List Ν,DQ l.prog w K mg μ aF 4 f59 _ _ (r6 K ⟨cL⟩ cS (E9 l.prog w cS) ⟨cJ,cA,cH,a⟩):=λa=>zW H59.F (Y a) o Gb Oz.m Oz.b Gop
 have Gwa:∀a:List Ν,DQ l.prog w K mg μ aF 5 f63 _ _ (kH K ⟨cL⟩ cS (E9 l.prog w cS) ⟨cJ,cA,cH,a⟩):=λa=>uY H63.F (Y a) o O0.m O0.b Gfr E.m E.k E.b Gon
 have Gmo:∀a:List Ν,DQ l.prog w K mg μ aF 6 f60 _ _ (rq K ⟨cL⟩ cS (E9 l.prog w cS) ⟨cJ,cA,cH,a⟩):=λa=>zV H60.F (Y a) o O0.m O0.b Gfr H63.m H63.b (Gwa a) Oz.m Oz.b Gop
 have Gml:∀a:List Ν,DQ l.prog w K mg μ aF 2 f61 _ _ _:=λa=>xE H61.F (Y a) L o O0.m O0.b Gfr ME Ge
 have Gmb:∀a:List Ν,DQ l.prog w K mg μ aF 1 f62 _ _ (kI K ⟨cL⟩ cS (E9 l.prog w cS) ⟨cJ,cA,cH,a⟩):=λa=>va H62.F (Y a)
 have MM:∀a:List Ν,X3 l.prog w K mg μ ⟨cL⟩ cS (E9 l.prog w cS) ⟨cJ,cA,cH,a⟩ f59 f60 f61 f62 _ _ _ _:=λa=>⟨H59.m,H59.b,Gmi a,H60.m,H60.b,Gmo a,H61.m,H61.b,Gml a,H62.m,H62.b,Gmb a⟩
 have Gms:∀a:List Ν,DQ l.prog w K mg μ aF 7 f58 _ _ (nO K ⟨cL⟩ cS (E9 l.prog w cS) ⟨cJ,cA,cH,a⟩):=λa=>xF H58.F T (Y a) o (MM a)
 have Gim:DQ l.prog w K mg μ aF 2 f23 _ _ _:=Ab Vt.F T ZS t.m t.k t.b GW
 have Glk:∀a:List Ν,DQ l.prog w K mg μ aF 7 f64 _ _ _:=λa=>zY H64.F T (Y a) o (MM a) Vt.m Vt.k Vt.b Gim i.m i.k i.b V5
 have DM:∀a:List Ν,DoM l.prog w K mg μ ⟨cL⟩ cS (E9 l.prog w cS) ⟨cJ,cA,cH,a⟩ f64 f66 f67 f51 f52 f68 _ _ _ _ _ _:=λa=>⟨H64.m,H64.b,Glk a,H66.m,H66.b,Ggi a,Tr.m,Tr.b,Gen a,H51.m,H51.b,Gpl,H52.m,H52.b,Gbr,H68.m,H68.b,Gly a⟩
 have Gdo:∀a:List Ν,DQ l.prog w K mg μ aF 8 f65 _ _ (BM K ⟨cL⟩ cS (E9 l.prog w cS) ⟨cJ,cA,cH,a⟩):=λa=>RC H65.F (Y a) L o (O a) (DM a) ME Ge
 have Ged:∀a:List Ν,DQ l.prog w K mg μ aF 1 f71 _ _ (nR K ⟨cJ,cA,cH,a⟩):=λa=>xQ H71.F T (Y a)
 have Glet:∀a:List Ν,DQ l.prog w K mg μ aF 1 f72 _ _ _:=λa=>zZ H72.F (Y a)
 have Gpd:∀a:List Ν,DQ l.prog w K mg μ aF 1 f75 _ _ _:=λa=>uZ H75.F T (Y a)
 have Gwt:∀a:List Ν,DQ l.prog w K mg μ aF 1 f73 _ _ _:=λa=>zJ H73.F T (Y a)
 have Gc:DQ l.prog w K mg μ aF 1 f24 _ _ _:=Ag Ox.F T
 have Tv:DQ l.prog w K mg μ aF 1 f25 _ _ _:=CB u.F
 have Gln:DQ l.prog w K mg μ aF 2 f26 _ _ _:=xI Vu.F T u.m u.k u.b Tv
 have Gnu:DQ l.prog w K mg μ aF 2 f27 _ _ _:=zU Vv.F T u.m u.k u.b Tv
 have Gal:DQ l.prog w K mg μ aF 4 Vg _ _ _:=xT F28 hcc NS T
 have Gey:DQ l.prog w K mg μ aF 1 f29 _ _ _:=xO Vw.F T
 have Gmd:DQ l.prog w K mg μ aF 2 f30 _ _ _:=zX Vx.F T u.m u.k u.b Tv Vw.m Vw.k Vw.b Gey
 have Gha:DQ l.prog w K mg μ aF 1 f1 _ _ _:=xK H1.F
 have HM:AU l.prog w K mg μ f1 _:=⟨H1.m,H1.k,H1.b,Gha⟩
 have Gs1:DQ l.prog w K mg μ aF 4 f10 _ _ (iO ⟨cL⟩ cD (eE l.prog w ⟨cB,cD⟩)):=mF J7.F T L W1 f Tt
 have Gss:DQ l.prog w K mg μ aF 4 f10 _ _ (wk ⟨cL⟩ cS (E9 l.prog w cS)):=sw (mF J7.F T L W2 g Tu)
 have Go1:DQ l.prog w K mg μ aF 4 f9 _ _ (ww ⟨cL⟩ cD (eE l.prog w ⟨cB,cD⟩)):=Bm E.F L W1 f Tt ME Ge
 have Go2:DQ l.prog w K mg μ aF 4 f9 _ _ (ww ⟨cL⟩ cS (dL l.prog w cS)):=Bm E.F L W2 g Tu ME Ge
 have Gfl:DQ l.prog w K mg μ aF 4 TN _ _ _:=xM Vi.F T L W2 g Tu
 have Gah:DQ l.prog w K mg μ aF 5 f12 _ _ _:=xU Vj.F T W2 Vi.m Vi.k Vi.b Gfl E.m E.k E.b Go2
 have Gme:DQ l.prog w K mg μ aF 6 f13 _ _ _:=CC Vk.F T L W2 g Vj.m Vj.k Vj.b Gah
 have Gav:DQ l.prog w K mg μ aF 5 f14 _ _ _:=vb Vl.F T L W1 f ME Ge HM E.m E.k E.b Go1
 have Gzz:DQ l.prog w K mg μ aF 6 f43 _ _ (r8 l.prog w ⟨cL⟩ cD cS (eE l.prog w ⟨cB,cD⟩)):=Aa V4.F T L B G1 W1 re f Tt M (uc V2.F T L) Lc Tu Vl.m Vl.k Vl.b Gav H3.m H3.k H3.b Gse J7.m J7.k J7.b Gs1
 have Gco:DQ l.prog w K mg μ aF 14 f31 _ _ _:=xR Oy.F L W1 f Tt ME Ge Oy.m Oy.k Oy.b 10
 have Gcu:DQ l.prog w K mg μ aF 15 f32 _ _ _:=CN Vy.F T L W1 f Tt Oy.m Oy.k Oy.b Gco
 have XW:Z8 K mg cW f46 _:=⟨(ş X G gcW),x1cW,x2cW,⟨x3cW,x4cW,x5cW,x6cW,x7cW⟩,S,ncWgoal,H46.m.fn,H46.F,H46.b,eW⟩
 have Gpw:DQ l.prog w K mg μ (AV l.prog w) 4 Oo _ _ _:=xC F57 L (Y []) o Gb i.m i.k i.b V5 Ow.m Ow.k Ow.b OM (ş X G mh) XW
 have Grf:DQ l.prog w K mg μ aF 5 f33 _ _ _:=zO Vz.F (Y []) o XW ⟨a57,i57,k57⟩ bp1 Gpw
 have Gsz:DQ l.prog w K mg μ aF 3 f15 _ _ _:=zM Vm.F T L i.m i.k i.b Gw
 have Gsf:DQ l.prog w K mg μ aF 5 f16 _ _ _:=C5 Vn.F o Gb HM J7.m J7.k J7.b Gss
 have Gwf:DQ l.prog w K mg μ aF 2 f17 _ _ _:=zK Vo.F HM
 have Gpf:DQ l.prog w K mg μ aF 5 f18 _ _ _:=xD Vp.F o E.m E.k E.b Gon Vo.m Vo.k Vo.b Gwf
 have Glf:DQ l.prog w K mg μ aF 6 f19 _ _ _:=xJ Vq.F L o ME Ge H2.m H2.k H2.b Gm Vp.m Vp.k Vp.b Gpf
 have Gfa:DQ l.prog w K mg μ aF 7 f20 _ _ _:=xN Vr.F T o Vm.m Vm.k Vm.b Gsz Vn.m Vn.k Vn.b Gsf Vq.m Vq.k Vq.b Glf
 have Grn:DQ l.prog w K mg μ aF 9 f34 _ _ (rm K ⟨cL⟩ cS (E9 l.prog w cS) ⟨cJ,cA,cH,[]⟩):=zN V0.F T (Y []) o ⟨H58.m,H58.b,Gms [],H65.m,H65.b,Gdo [],H71.m,H71.b,Ged [],H75.m,H75.b,Gpd [],H72.m,H72.b,Glet [],H74.m,H74.b,Glg,H73.m,H73.b,Gwt [],Ox.m,Ox.k,Ox.b,Gc,u.m,u.k,u.b,Tv⟩
 exact CK (c:=⟨cL⟩) (ts:=⟨cB,cD⟩) (ys:=⟨cJ,cA,cH,[]⟩) (Tb:=Tb) (LC:=cS) F35 T L (Y []) W1 Lc ⟨Ox.m,Ox.k,Ox.b,Gc,u.m,u.k,u.b,Tv,Vu.m,Vu.k,Vu.b,Gln,Vv.m,Vv.k,Vv.b,Gnu,ş X G a28,k28,(F28.binds λ_ _ _ _ _ _=>len_of2 λ_ _=>rfl),Gal,(ş X G gcL),Mi,V1.b,Gi,(ş X G gcD),Mt,V3.b,Gt,Vx.m,Vx.k,Vx.b,Gmd,(ş X G gcS),Mz,V4.b,Gzz,H45.m,H45.b,Af H45.F T Lc,Vy.m,Vy.k,Vy.b,Gcu,Vk.m,Vk.k,Vk.b,Gme,Vr.m,Vr.k,Vr.b,Gfa,(ş X G gcJ),My,ZH,Gy,Vz.m,Vz.k,Vz.b,Grf,⟨a57,i57,k57⟩,bp1,Gp [],V0.m,V0.k,V0.b,Grn,o,Gb⟩
end
theorem walk{l:PySem.W.OpenLaw}{XP:(Str->Option Τ)->Ü->Prop}{K:Params->ϧ}(j:l.most=Α 63)(m:d.params.defaults=[])
  (o:∀(w:Î)(h:Ü),YP w h->(K w.params).In h) (r:(IJ q).find? (λe=>e.name == ("_law_alive":Str))=Α dd) (t:∀p,PySem.W.noTabs (K p)=Δ)
  (F:∀(w:Î)(mg:Str->Option Τ)(g:Ν)(h:Ü),(K w.params).In h->h.Ns Ϥ mg->mg d.name=Α (.ref g)->
   ∃(i:Ý)(c b:Ν),PySem.W.tabIn (K w.params) "_law_alive"=Α (c,b)/\(∀(s:Ψ)(u:Τ),Nd s i ⟨[u],[]⟩ [("_law_script",u)])/\∀μ:Ü,(K w.params).In μ->μ.Ns Ϥ mg->KC mg μ c b->DQ l.prog w (K w.params) mg μ aF 16 g i ["_law_script"] (tE (K w.params) b)):
  PySem.W.WalkO q loose XP YP l.row.toRowW d [] (λf v=>PySem.call f v):=
 L2.Ki (n:=63) (k:=16) (x:="_law_script") (CX:=λ_=>aF) (sp:=λw b=>tE (K w.params) b) j (by decide) m ⟨Λ,by decide,by decide⟩ o r t F (λ_ _ a y b A B C=>⟨a,y,Λ,C,A,B,λ_=>rfl⟩) λ_ _ _ _ _ z=>z
end K93
structure PySem.W.Fast:Prop where
 (tw6281298175145570726 tw10365189004509593934 tw18436647117129783164 tw9149424464933907528 tw4129621428606811323 tw11673311726798617891 tw3080650715496056847 tw14047298213285603590 tw9502097757913712013 tw3921502536312408657 tw17383763695268622245 tw12285812880148722481 tw13729750623449462492 tw5156077334221869080 tw10637133034160700980 tw13446753054406292891 tw9702161594990542788 tw14872447116660104912 tw4584624282077490393 tw10292548353265876075 tw3896866475708568322 tw6112645820584893786 tw13707367368154175940 tw15880689962894190688 tw7092194170096989511 tw9960503080216692672 tw6576645080950163695 tw18299344293053100807 tw13736566336448994275 tw10161068135009373812 tw15862407718748209782 tw4384244771666364805 tw13442198020985112691 tw13756358946507188375 tw14110477234854686032 tw9118379718251483404 tw13419064491239311027 tw2589073200848214794 tw605002304308018742 tw8834151970510135402 tw5114998824122742948 tw13349753183045921847 tw4618577710591771323 tw16804840460896951289 tw14110794132465003657 tw9013649936706254275 tw7982153182657234185 tw17366316622579821232 tw9340360039885757441 tw4037792588186351465 tw17429601747010730904 tw14226414615820675184 tw2267207079692526061 tw13215497955357686792 tw4147875453724465303 tw18062981896186105370 tw4049744456219217218 tw10801285280455928263 tw1993221167359416871 tw16090355558115674539 tw11527569368900009259 tw2026615339247225345 tw12778615883545336786 tw15095710342550454050 tw12647793290582228018 tw295365042089418731 tw4186640104829846859 tw15350014818991260213 tw14643225145648496325 tw10957247853502352861 tw16844023438743888877 tw16144505634226951931 tw7408152310004158454 tw3727939042423615152 tw10335297857088403967 tw5281462400795476438 tw13464919350538409146 tw10669276105079569451 tw4706038891217241912 tw13945140738902395007 tw7583918305148756870 tw2075247694159250028 tw10043083479836965578 tw14171487884047989112 tw12489332586529621228 tw4211148187821387440 tw16560297182771955725 tw18440722689232056385 tw17837816590152797550 tw11849764238329635686 tw3457334950301405788 tw5455751310988118939 tw12990226194299182787 tw7019022913460241714 tw7964078817415099325 tw5020248498977446789 tw1402043839511408108 tw10543879638293853527 tw10127290247897315731 tw469342088012008815 tw11725065513039406007 tw14773277352100920965 tw14151258121234142001 tw4209888100454814556 tw823109792347207381 tw2596215196243534263 tw2294081548068855020 tw17921544756511128114 tw17980555688390458458 tw17548588316996706170 tw15507099363052488155 tw18343462388809047129 tw1380569585717093946 tw10404016853838896995 tw1810639350879322505 tw14832578270743671040 tw8796078226158206471 tw15950711121596832347 tw12965270567528823641 tw12880854149749062769 tw11062899650083889154 tw1148873326419329968 tw10808008359777724878 tw7923773496183505417 tw2241324770733925195 tw7007421029839446707 tw3233244374855513234 tw15452842804253929168 tw15678019994231510389 tw162146901020703983 tw10419254875241974993 tw10815722165423858338 tw15399289914142033041 tw9357146381495454031 tw18212956335779563994 tw11209410725035835482 tw13708923505350373155 tw14091065375117698091 tw18149868288346553922 tw3619798994608270787 tw261875258625955741 tw150994991596911566 tw13615620399175328141 tw10553224657974078120 tw6199277054330308362 tw1143814250668072793 tw894844483107581556 tw8337018077825681356 tw10874308012974046817 tw1362836903177549963 tw1511208113748745859 tw16821619430325778638 tw5492582857612929959 tw2872026744711030124 tw3297637726524570863 tw1189091643232213801 tw4707935709839490224 tw6097958883284635990 tw6770996575784595118 tw18408388027146404165 tw13566676096686693204 tw14122781694380153656 tw10349571895811077617 tw16031856614926798600 tw15280557576177527666 tw10939016515484663147 tw3059788666119841053 tw4330838667350110045 tw10417201326420521240 tw2753012299283321437 tw9807646165990188534 tw13565328040779242796 tw4668696456699368868 tw14610421062933555657 tw14020024162787583155 tw15819167708922744997 tw4152338371355533416 tw16865206093932534812 tw18370335738633610926 tw11846439906782451124 tw17674042928183860039 tw9126419591030580851 tw16500714363837998709 tw14142052949763857565 tw5750019235798153940 tw10383693507409505629 tw14783408438974909405 tw1633948081125259090 tw16606810296991857523 tw8261056570058982912 tw2949588182200731669 tw750696732709719080 tw13915660966365526972 tw12323941975886022669 tw8737581401161616060 tw5520650168921749741 tw11876113733233935468 tw10349027660689221587 tw18380052004013852369 tw7253470637523905095 tw582280204623638556 tw728961608449674312 tw18134786841126120309 tw7792709724723064332 tw3032743548333904519 tw10174409544857240890 tw14938609824643781849 tw18235064216167850205 tw7557701688376508801 tw14856888516893946166 tw570477614143367222 tw14016211107053977425 tw2439284918920904419 tw6993006031849866600 tw12702009547427714714 tw6901798027826142576 tw5072810954436055254 tw5450138766897608395 tw2721189475042598952 tw9450811228572495770 tw17316141099505783098 tw8528618243051785323 tw6286816961057666169 tw5827144661332721001 tw7582343489943839886 tw6782739914710847105 tw7078190802884637421 tw6202242812099915495 tw1158003736384684401 tw9407613051108556424 tw5519963832678686333 tw9238495599879954402 tw3952441997674672538 tw15442872712001997675 tw2309245259097406065 tw6146195508957809155 tw1434757540033256241 tw9281660993256492292 tw13581287903758462419 tw9244452619401570193 tw11978223088944097375 tw9820905534963244072 tw4475768198669543460 tw12836635279552839439 tw12664121274385431306 tw8333620594192121068 tw10795454698344672290 tw1509068776474212215 tw7698454884302294333 tw6994671342905994848 tw16272777954334440836 tw7084259243507749130 tw10676456972059543494 tw15913610991880217240 tw482152901708530267 tw14348083504922702485 tw10790376465941799300 tw16648232480109507174 tw16264823664016736503 tw6566213797127419941 tw401610176455633791 tw4483994000683527041 tw12571196897188188638 tw4771333845501841387 tw2819036037857707778 tw15876705182166737684 tw16525540882811056891 tw11737331232710149602 tw7823846181308127403 tw16961514855769354758 tw18346569945681935603 tw2345403883308538274 tw1656793228513132920 tw10434683151592884161 tw13019900356421659387 tw12016942502766168878 tw8010685241269991804 tw5274102646082154995 tw10576112855699496942 tw14966385102486181853 tw8362523906676828258 tw16690774160220173836 tw4896445550436077737 tw11460137973408409207 tw6476274710206747397 tw3971274252321197180 tw7132011259418881341 tw16385351539501655402 tw5845420453145999639 tw9496679656002818893 tw17566997901949952679 tw4329808938446555476 tw4048770228547536899 tw9599383578575386062 tw6067075133799874393 tw454397850704817943 tw17599761168661065562 tw17496335924409925232 tw15726465528786196574 tw13662571113123453954 tw18396015591790730315 tw4899441195216003469 tw1376888808428880210 tw6297073843323985286 tw5217330219171388884 tw15978110643508058815 tw7466047337512374564 tw5724603279469583318 tw17428822125112018137 tw1241306250625636355 tw18323102450065690005 tw10405383026748987366 tw11622066189053498245 tw1983428176461667159 tw3952997333329336545 tw9613081830695414255 tw4628241707298650484 tw13312871489445517404 tw780292881825003776 tw17758940399087723214 tw13710803958635690567 tw13421714753526597266 tw6512995571592939613 tw4409789543127687752 tw1490694311456626602 tw17928314216245354618 tw12970268472546462274 tw16650690981418755579 tw9162150161167555141 tw9575368112015554553 tw3315294961735103718 tw17198571650169487250 tw1274897003211916951 tw4423072580889759589 tw11782564492591289276 tw8276547170768328751 tw4585807089766161916 tw17209146174506214670 tw9890890325987555161 tw2122414658633143144 tw15416086539991065883 tw13381554062514715314 tw13226227767613552088 tw12545702374174913116 tw12120674398868056911 tw15851803866492417184 tw18315204732009452873 tw3378185795371215284 tw17956773648802919071 tw13239732758135384345 tw12190919558610556956 tw11826381559833453405 tw16724053049988201892 tw1626063667541946681 tw3049543116662349019 tw1743651760003223990 tw16597295010641887857 tw2182325381132716093 tw17710324816563656003 tw550727166731129565 tw5283332459899340428 tw10175298565220415305 tw3943128617824244970 tw1617903702225206610 tw14783963226101748761 tw479748485451801813 tw10302425933688367854 tw3918283212310343282 tw3051292773591272461 tw8919508381631794888 tw6891787859294611270 tw17331823120648899092 tw8523867551372178282 tw6105213765100028890 tw2417609688623645568 tw16717845946526751695 tw15676668592008208951 tw9604337460069439840 tw15882301478000649710 tw7565254800671718503 tw7560855296825508986 tw7249873694577684943 tw3491182033553626528 tw16420675851557382677 tw18001879395611715621 tw16772279935362845928 tw5778322452918345774 tw518561952964760447 tw14332020687895286447 tw5365465712639719431 tw3977884269744354825 tw1033910865071579855 tw13798588087487919237 tw1197842283823072409 tw11137123407614754936 tw2096034689210192844 tw2817628065030902001 tw9741458013413365496 tw4672087344347602777 tw9946411972759171852 tw932416159340939357 tw15178129614635739630 tw11528174574161854173 tw4848175806218383800 tw12019903760299841180 tw501084618151886205 tw1401987072864116149 tw14774829544301236970 tw6393091499200804854 tw12813500067803855788 tw10703803432512869661 tw4696478150976943686 tw9811696143318727915 tw815003674870300357 tw9276700219518085795 tw739318209992918663 tw3565202848098789206 tw13397534698660502702 tw11040744570215926251 tw1342296799864292838 tw13303591178603052450 tw4531160015809296044 tw17163395628388021031 tw1789074974172083284 tw8898956744434592736 tw11991633352564017493 tw14722429103911127786 tw886085824079363611 tw15047764397615660958 tw12872775157027099444 tw3617658399199098498 tw4113568030846570443 tw14631548079741030508 tw15939119732036539357 tw1197733441168319391 tw17354201007020166543 tw5525314460161093427 tw3925093611403490369 tw3964410736380336571 tw1675552524756253071 tw11898789350131113532 tw9527841449032768833 tw9426855125499892592 tw17778532816157211495 tw12346145849357662279 tw12227280672729928685 tw12825211731049054652 tw8380722337946832383 tw11197462907941511817 tw8413153868504737448 tw4028824805184655726 tw14059923581193007249 tw10327316210532316902 tw11303254147678175981 tw8287384424041827832 tw6510856307133442204 tw8482276485168420513 tw709800961402341893 tw17049322233540791716 tw10495974184128322048 tw3664008233274321800 tw7079521234352274357 tw772903052582976912 tw2183877461060393102 tw14100529929930847426 tw8837124944177307106 tw8460927921963369947 tw4958972780615282813 tw17646963010124625346 tw16794741176882015379 tw1210802596860237694 tw11268852215726594086 tw17308774710318207697 tw7779481505032925096 tw790636796124056704 tw17342885708017156227 tw16497955027753809515 tw12761199928859551165 tw14484733659153934304 tw6795401226314003844 tw16880983411548082496 tw10853792817193438916 tw11324184931379505023 tw6139100070484489264 tw12307281850252489183 tw3884619863384623479 tw2415345655755161411 tw14674328762974533251 tw6627050371475118058 tw11517140898383904423 tw3949371450984303311 tw7583187183003276205 tw5886839810949500860 tw4115475533128596954 tw194284974853612001 tw16761164765001212158 tw6162320902211196124 tw10367038982558980158 tw11425514036573281434 tw5299336250986339149 tw13657079369610357524 tw6066264216257305080 tw7921859237879811532 tw6834841337102318225 tw12914065923990184680 tw7997081832604467441 tw2820444656953709513 tw15817248185262482099 tw15223960190505079351 tw11303980560331032421 tw10457036322737090343 tw10941321844901608167 tw3903004782134017117 tw3407697070579748634 tw3049327030925144996 tw1919958590171356571 tw14210106574952032854 tw5239680052792409235 tw8355192259579642706 tw6753411905631145786 tw6715265772060091773 tw4046277689228072462 tw3835551892052548408 tw3440976164852973388 tw2588958355263573114 tw17109032961620051925 tw121972878149887287 tw10639638324611813437 tw18013702568669423927 tw16309091914214570624 tw14711619930091832010 tw10348370237763625187 tw4717607729199317302 tw122301694567947926 tw3899652176602995006 tw4218748869774245085 tw3950454389259846572 tw17601054680377378532 tw9075943224982754072 tw8333288373057103277 tw14890651481348442398 tw7305482887055894468 tw1987566544356841450 tw17991182897772011090 tw1504196848773550683 tw13710736681141705134 tw10489328636236544770 tw12846387965410258100 tw9387123980856964730 tw242723712187951646 tw16657957334781994346 tw15985703733005449887 tw14266257318063241670 tw13736818847919087131 tw11659843751247009272 tw1664742285670490696 tw9758841640650563730 tw8443911323755463813 tw13348897804809860427 tw9437666281904686757 tw5861057101534131152 tw4532039017008061007 tw3382743837185955629 tw3287534318280413545 tw3063531325554775143 tw194485991358304755 tw16371445245865177794 tw1338298127105378050 tw12019235613645846811 tw10485585591526780298 tw9616111113877410893 tw17279578005463658012 tw13555340787547380606 tw931309737746438639 tw8417348437862583295 tw6804065580188602726 tw614359500920199338 tw5642821484899002869 tw5609057768192449391 tw5318642514227270000 tw4915706879780090571 tw4731006630516419253 tw4300037776439904893 tw2831477389543215304 tw17366203050313259364 tw16931190771726548655 tw1664205551560021570 tw1483007359846544503 tw14349569340428443000 tw14239705675131484082 tw12858210439314346247 tw12804512295648358033 tw10534178826814834209 tw9142779200051197739 tw910202602700151406 tw8462248312781768153 tw6314469938798053480 tw5493394288564309882 tw4507918994425475470 tw4031675806508894287 tw3877914930598364536 tw2461056343020756907 tw1793600184239214244 tw15778944579763987610 tw15392603349878243962 tw1534859740174612630 tw15023155696904678641 tw14763808169513593156 tw14622468595204588442 tw14445920089904146923 tw13660126808051469393 tw11088543063595215925 tw14410053400401827382 tw3429266360500039166 tw2694921044384801650 tw8788851378302509883 tw5400098465387811248 tw4115679719336294333 tw1892439615210497755 tw16826670279987936296 tw15416341267512165471 tw14971150803176658110 tw1450028901273438012 tw14487005458386231037 tw13721196767718685643 tw11909621159468697879 tw11820117805621495514 tw11291319145607620803 tw9645225676567043631 tw8572827696490674938 tw8363698718586540895 tw7646338114861735625 tw7371783373515408855 tw7185396117415543134 tw6214378774146241316 tw5763401775951198385 tw5679095487986614163 tw5363774765204747779 tw4245950148783353851 tw3526944966557631512 tw3505406394335477789 tw2888034251736268511 tw2384579553393107160 tw16054420142506213013 tw14698591027120714560 tw12916414764620008144 tw10069213207025761232 tw2838089565779518406 tw10490024212412280074 tw9941602638770586869 tw9873160122240943747 tw9773266814551244009 tw9708346502716560610 tw9425892243549903182 tw9387032965866935459 tw936917076299861506 tw9254888078478505974 tw9193718405734366006 tw9101101633596688515 tw9049873642389060666 tw9032746393887754174 tw8985707105118114448 tw8917953200931937109 tw8809417249583538924 tw8799193507653581500 tw8673958103545712256 tw8673382490794493799 tw852507150735977274 tw8342651879045949989 tw8334785412566900424 tw8302371630802272825 tw8300365582133802230 tw8281689038215383993 tw8251912811253366538 tw8206588149103633281 tw8128287149337230415 tw8021066724719132072 tw8020577718083300953 tw7988422528145761962 tw7937574451257516251 tw7936680224849920467 tw7809433727830122335 tw759530432617864998 tw7592156333262824915 tw7580141226342667099 tw7454789369510773435 tw7287396150160640338 tw7160209583928988373 tw7152754951131524838 tw6889253970221511258 tw6789819254668561496 tw6780966003299010656 tw669472754057170221 tw6658785856154557656 tw659836516168031167 tw659424259858090676 tw6449247980947657297 tw6409515735131630048 tw6291058544279059717 tw6151726142537278655 tw614379385224134006 tw6143764553340860157 tw6136030189103022443 tw604616508212190120 tw6038221057937573112 tw5959894950432352422 tw5850174973109994335 tw5799229408573360213 tw5642355056425603638 tw5618797229286519345 tw5508373980626828358 tw5422675688502057862 tw5403166492085650873 tw5338780194203041367 tw5268848886406202889 tw5191393765755897617 tw5172633664033261036 tw5079839021662143021 tw4882497085795575215 tw4833257474780648601 tw4832922043652328875 tw478203557735553846 tw477945698541680239 tw4742222509340578392 tw4716685521866908958 tw4684717628209384200 tw4670486796521687752 tw4658799761502572454 tw4577164759382236781 tw4289771560751182218 tw4223385255863956271 tw4008130506262437349 tw3928678552010477500 tw367459485311848538 tw3621860519244744136 tw3574531833130189425 tw3488447501781611716 tw328158061693842063 tw3093619237945119096 tw3029979424528126098 tw2965079916224655140 tw2860606113353733804 tw2588732047202322634 tw2496432159183291277 tw2374214578551025174 tw2334126810921755111 tw2194161582919807297 tw2153028576633353446 tw2040320176804883321 tw1966074447921239139 tw189642167449104117 tw1847331184612699385 tw18339917179535712892 tw18311101674385367562 tw18278229940287934024 tw18210042936507054858 tw18179323367470484201 tw17827814181897650210 tw17720827514050822537 tw17654157098915912133 tw1759871019831673097 tw17511626772286154717 tw17483482392221576441 tw17386650784914930942 tw17237207748530039780 tw17099882199831545826 tw17054043835483900943 tw16959535709010560995 tw16917170672411509574 tw16838569359424175224 tw16830768230084903069 tw16806725745139052894 tw16768989218109188232 tw16628202750649959540 tw16614743310815741084 tw16592314200769274343 tw16503007052803508741 tw16420719046672369003 tw16339476121474071540 tw16332139031554331510 tw16289448282507013314 tw16214946871176433255 tw161249991891816866 tw15952059329138174683 tw15904661964685871396 tw15904306174532834693 tw15708683506231712169 tw15615691313762890620 tw15556744145760532386 tw15515301785422346792 tw15117095771964061420 tw14952961230014619416 tw14952820847300419448 tw14925253359873671175 tw14816933725102554332 tw14627887915306276561 tw14619457664808064106 tw14557777194007217537 tw14436942917222763668 tw14383284456922218858 tw14346102132936975357 tw14302928488743067067 tw14206910916111850440 tw14197433765435875899 tw14135716498364959919 tw14113781563225816980 tw14045955529356383428 tw14006430812334749416 tw13857248607239359006 tw13804176238069466331 tw13708568329585057882 tw13628667829645552723 tw13529603687151969030 tw13527439944824160181 tw13484441823396606038 tw13449078426234215549 tw13361446699894654111 tw13329336273252916426 tw13171199629506499768 tw1299834747662652356 tw12963431950561388432 tw12899752791121183293 tw1281524993866556879 tw12743262041170445989 tw12701498955488652203 tw12653358096427787943 tw12635793424975676406 tw12445229464455275672 tw12343872148981378160 tw12280327704712539758 tw12270773366298003206 tw12153059683410702268 tw12089748426100480699 tw11904826426652568263 tw11890587242966463072 tw11729389724186803790 tw11549840443406194892 tw1153737066187246486 tw11522486064720588707 tw11502620969243402229 tw11465370571743402578 tw11231041734109842097 tw11040662481307783706 tw11024309181372008046 tw10957203053823673739 tw10932515586578497258 tw10604151631202610853 tw10480539165377674952 tw10472253396830595921 tw10375909173147999345 tw10286847166649648896 tw10217279708046276219 tw10205635603311785558 tw10060126415606256330:True)
open PySem PySem.W PyProof.Rows
set_option maxRecDepth 100000 in
set_option maxHeartbeats 0 in
theorem PySem.Challenge.cw_wormyard_k93_whole_less_holds : PySem.Challenge.rw_wormyard_k93_whole_less.Holds := by
 w_on;o_law;k_head;(case hw=>w_witness2)
 k_fill
 refine K93.walk (l:=PySem.Challenge.rw_wormyard_k93_whole_less) rfl rfl (λw h Y=>PySem.W.km_in_of Y) rfl (λ_=>by kernel_rfl) ?F
 case F =>
  intro w mg fa h KX G hmg
  refine' K93.all_mk KX G hmg ?Aa ?Ab ?Ac ?Ad ?Ae ?Af ?Ag ?Ah ?Ai ?Aj ?Ak ?Al ?Am ?An ?Ao ?Ap ?Aq ?Ar ?As ?At ?Au ?Av ?Aw ?Ax ?Ay ?Az ?Ba ?Bb ?Bc ?Bd ?Be ?Bf ?Bg ?Bh ?Bi ?Bj ?Bk ?Bl ?Bm ?Bn ?Bo ?Bp ?Bq ?Br ?Bs ?Bt ?Bu ?Bv ?Bw ?Bx ?By ?Bz ?Ca ?Cb ?Cc ?Cd ?Ce ?Cf ?Cg ?Ch ?Ci ?Cj ?Ck ?Cl ?Cm ?Cn ?Co ?Cp ?Cq ?Cr ?Cs ?Ct ?Cu ?Cv ?Cw ?Cx ?Cy ?Cz ?Da ?Db ?Dc ?Dd ?De ?Df ?Dg ?Dh ?Di ?Dj ?Dk ?Dl ?Dm ?Dn ?Do ?Dp ?Dq ?Dr ?Ds ?Dt ?Du ?Dv ?Dw ?Dx ?Dy ?Dz ?Ea ?Eb ?Ec ?Ed ?Ee ?Ef ?Eg ?Eh ?Ei ?Ej ?Ek ?El ?Em ?En ?Eo ?Ep ?Eq ?Er ?Es ?Et ?Eu ?Ev ?Ew ?Ex ?Ey ?Ez ?Fa ?Fb ?Fc ?Fd ?Fe ?Ff ?Fg ?Fh ?Fi ?Fj ?Fk ?Fl ?Fm ?Fn ?Fo ?Fp ?Fq ?Fr ?Fs ?Ft ?Fu ?Fv ?Fw ?Fx ?Fy ?Fz ?Ga ?Gb ?Gc ?Gd ?Ge ?Gf ?Gg ?Gh ?Gi ?Gj ?Gk ?Gl ?Gm ?Gn ?Go ?Gp ?Gq ?Gr ?Gs ?Gt ?Gu ?Gv ?Gw ?Gx ?Gy ?Gz ?Ha ?Hb ?Hc ?Hd ?He ?Hf ?Hg ?Hh ?Hi ?Hj ?Hk ?Hl ?Hm ?Hn ?Ho ?Hp ?Hq ?Hr ?Hs ?Ht ?Hu ?Hv ?Hw ?Hx ?Hy ?Hz ?Ia
  case Aa|Ab|Ac|Ad|Ae|Af|Ag|Ah=>k_is
  case Ai|Aj|Ak|Al|Am|An|Ao|Ap|Aq|Ar|As|At|Au|Av|Aw|Ax|Ay|Az|Ba|Bb|Bc|Bd|Be|Bf|Bg|Bh|Bi|Bj|Bk|Bl|Bm|Bn|Bo|Bp|Bq|Br|Bs|Bt|Bu|Bv|Bw|Bx|By|Bz|Ca|Cb|Cc|Cd|Ce|Cf|Cg|Ch|Ci|Cj|Ck|Cl|Cm|Cn|Co|Cp|Cq|Cr|Cs|Ct|Cu|Cv|Cw|Cx|Cy|Cz|Da|Db|Dc|Dd|De|Df|Dg|Dh|Di|Dj|Dk|Dl|Dm|Dn|Do|Dp|Dq|Dr|Ds|Dt|Du=>first|(refine' K93.mkT (by assumption) (by assumption) ?b ?a ?l ?c ?k;(case b=>first|exact λ_ _ _ _ _ _=>K93.len_of1 (λ_=>rfl)|exact λ_ _ _ _ _ _=>K93.len_of2 (λ_ _=>rfl)|exact λ_ _ _ _ _ _=>K93.len_of3 (λ_ _ _=>rfl)|exact λ_ _ _ _ _ _=>K93.len_of4 (λ_ _ _ _=>rfl)|exact λ_ _ _ _ _ _=>K93.len_of5 (λ_ _ _ _ _=>rfl)|exact λ_ _ _ _ _ _=>K93.len_of7 (λ_ _ _ _ _ _ _=>rfl));(case a=>k_is);(case l=>k_is);(case c=>k_is);(case k=>k_is))|(refine' K93.mkM ?b ?a ?l ?c ?k ?i;(case b=>first|exact λ_ _ _ _ _ _=>K93.len_of1 (λ_=>rfl)|exact λ_ _ _ _ _ _=>K93.len_of2 (λ_ _=>rfl)|exact λ_ _ _ _ _ _=>K93.len_of3 (λ_ _ _=>rfl)|exact λ_ _ _ _ _ _=>K93.len_of4 (λ_ _ _ _=>rfl)|exact λ_ _ _ _ _ _=>K93.len_of5 (λ_ _ _ _ _=>rfl)|exact λ_ _ _ _ _ _=>K93.len_of7 (λ_ _ _ _ _ _ _=>rfl));(case a=>k_is);(case l=>k_is);(case c=>k_is);(case k=>k_is);(case i=>k_is))|k_is
  case Dv|Dw|Dx|Dy|Dz|Ea|Eb|Ec|Ed|Ee|Ef|Eg|Eh|Ei|Ej|Ek|El|Em|En|Eo|Ep|Eq|Er|Es|Et|Eu|Ev|Ew|Ex|Ey|Ez|Fa|Fb|Fc|Fd|Fe|Ff|Fg|Fh|Fi|Fj|Fk|Fl|Fm|Fn|Fo|Fp|Fq|Fr|Fs|Ft|Fu|Fv|Fw|Fx|Fy|Fz|Ga|Gb|Gc|Gd|Ge|Gf|Gg|Gh|Gi|Gj|Gk|Gl|Gm|Gn=>k_is
  case Go=>kernel_rfl
  case Gp=>k_is
  case Gq=>kernel_rfl
  case Gr|Gs|Gt|Gu|Gv|Gw=>k_is
  case Gx|Gy|Gz=>first|k_is|kernel_rfl
  case Ha=>kts_exm
  case Hb|Hc|Hd|He|Hf|Hg|Hh|Hi|Hj=>kit_is
  case Hk|Hl|Hm|Hn|Ho|Hp|Hq|Hr|Hs|Ht|Hu|Hv|Hw|Hx=>k_is
  case Hy=>exact rfl
  case Hz=>k_is
  case Ia=>exact rfl
