import PyProof.Rows.All
import Wide.All
import OpenK.AllK
import Wide.FinOn
import Lean
import PyProof.EqAt
import PyProof.EqKinds
import PyProof.TupleCall
import PyProof.ExcBaseAll.ValueError
import PyProof.Rows.SetFrom
import PyProof.Rows.SortShell
import PyProof.FactsAll.set_1
import PyProof.FactsAll.set_2
import PyProof.DictValues
import PyProof.CollectStr
import PyProof.Rows.SortWalk
import PySem.Builtin.Int.W1All
import PyProof.DictRoadsH
import PyProof.DictKinds
import PyProof.FactsAll.NoneType
import PyProof.EnumMake
import PyProof.Rows.EnumRows
import PyProof.TupleIter
import KE.KRevIter
import PyProof.FactsAll.list_3
import KE.KDictList
import PyProof.DictIter
import PyProof.DictWalks
import PyProof.ListRange
import PyProof.Rows.SumAny
import PyProof.Rows.SeqCalls
import PyProof.P3In
import PyProof.DictItems
import KE.KPairComp
import PyProof.FactsAll.dict_3
import PyProof.CollectIter
import PyProof.TupleOfGen
import PyProof.TupleOfSeq
import PyProof.ZipIter
import KE.KDictLaws
import KE.KNest
import KE.KLam
import KE.KSortKey
import PyProof.WalksMore
import PyProof.SetRoads
import PyProof.FactsAll.subtypes_4
import PySem.Challenge.RW_wormyard_k91_whole_look_and_run
set_option compiler.extract_closed false
set_option Elab.async false
set_option linter.all false
set_option maxRecDepth 100000
set_option maxHeartbeats 4000000
local macro_rules
|`(command|$d:declaration)=>if d.raw.getPos?.isNone then Lean.Macro.throwUnsupported else pure (d.raw.rewriteBottomUp (·.setInfo .none))
theorem η0(h:1=1:=by rfl):1=1:=h
def η:=η0._auto_1
theorem θ0(h:1=1:=by decide):1=1:=h
def θ:=θ0._auto_1
theorem ζ0(h:1=1:=by first|exact .inl rfl|exact .inr rfl|assumption):1=1:=h
def ζ:=ζ0._auto_1
theorem ξ0(h:1=1:=by decide +kernel):1=1:=h
def ξ:=ξ0._auto_1
theorem ψ0(h:1=1:=by intro _;rfl):1=1:=h
def ψ:=ψ0._auto_1
open Array renaming toArray_toList→ON
open Bool renaming false_ne_true→Ϟ,and_eq_true→Ù,true_and→Ý,not_eq_true'→Ľ,false_or→ŭ,false_eq_true→fc,eq_iff_iff→ri
open Classical renaming byContradiction→Þ
open False renaming elim→ð
open ForInStep renaming yield→Ŭ
open Int renaming toNat_natCast→Τ,zero_add→Õ,emod_lt_of_pos→Ĕ,natCast_nonneg→ĭ,emod_nonneg→Į,le_refl→ĺ,toNat→Ŏ,ofNat_lt→ų,ofNat→qp,natCast_pow→L3,eq_ofNat_of_zero_le→NN,natAbs_natCast→Tz,emod_eq_of_lt→Ul
open List renaming getElem?_eq_getElem→Λ,length_map→Ρ,range→Υ,mem_of_getElem?→Ψ,getD_eq_getElem?_getD→Ω,getElem?_map→ώ,replicate→Ϗ,mem_singleton→ϙ,getElem?_append_left→Ϛ,length_append→ϛ,getElem?_eq_some_iff→ϝ,map_append→Ϥ,mem_cons_self→Ϧ,mem_range→Ϩ,mem_filter→Ϫ,mem_cons_of_mem→Ϯ,mem_cons→À,mem_append→Á,mem_map→Â,length_singleton→Ã,take_length→Æ,map_cons→È,range_succ→É,getElem?_eq_none→Ë,take_succ→Ì,not_mem_nil→Ñ,length_reverse→Ò,mem_append_right→Ô,map_map→Ú,getElem?_set_ne→Û,nodup_nil→á,mem_flatMap→â,getElem_mem→ã,getElem?_append_right→ä,nodup_cons→è,length_replicate→é,getElem_of_mem→ì,mem_append_left→ï,findSome?_eq_none_iff→ò,size_toArray→ô,getElem?_reverse→õ,getElem?_concat_length→ö,length_drop→ø,all_eq_true→ù,length_take_le→ü,mem_of_mem_take→Ā,mem_of_head?→Ą,find?_cons→ć,getElem?_drop→č,find?_eq_none→Ď,map_congr_left→đ,length_pos_iff→Ē,length_filter_le→ē,length_range→ě,append_assoc→Ĝ,getElem?_of_mem→ģ,filter_append→Ĥ,take_of_length_le→Ħ,sum_cons→ĩ,map_eq_nil_iff→Ī,length_set→ī,flatMap_append→Ĭ,nodup_append→Ĵ,getElem?_replicate→ĸ,findIdx?_eq_some_iff_getElem→Ĺ,flatMap_eq_nil_iff→ł,length_take→ņ,findSome?_append→Ŋ,filter_eq_nil_iff→ō,getElem_inj→Ŝ,getLast?_eq_some_iff→ţ,getLast?_eq_getElem?→Ť,getElem?_zip_eq_some→ť,getElem?_eq_none_iff→Ŧ,getElem?_set→ũ,foldl_append→Ū,ext_getElem?→ū,append_nil→Ų,mem_of_mem_head?→Ž,idxOf_lt_length_of_mem→c0,pairwise_append→eu,mem_of_mem_drop→ew,pairwise_iff_getElem→hX,mem_take_iff_getElem→ic,getElem_map→ka,filter_eq_self→kb,any_cons→kl,eq_nil_iff_forall_not_mem→oa,sum_append→ph,length→p0,eq_nil_of_length_eq_zero→p4,pairwise_lt_range→A2,filter_congr→A4,append_eq_nil_iff→C1,take_append_drop→IT,mem_of_find?_eq_some→Jp,getLast?_eq_none_iff→Ju,drop_eq_getElem_cons→JO,length_erase_of_mem→K7,getElem?_take_of_lt→Lf,eq_of_mem_replicate→Ln,replicate_succ'→MQ,mem_of_getLast?→MT,getLast?_cons_cons→MW,map_nil→NA,head?_eq_getElem?→NB,getElem?_set_self→NM,forIn_cons→O7,foldl_cons→OK,all_cons→OL,range'→Pe,pairwise_cons→Q8,mem_map_of_mem→QI,getElem?_range→QK,filterMap_cons→QM,set_cons_succ→Rt,ne_nil_of_mem→Ru,mem_replicate→Rx,mem_filterMap→R1,getElem?_take→RG,find?→Se,countP_append→Si,take_sublist→Tq,find?_append→Tw,any_eq_false→Tx,nodup_range→Wb,of_mem_zip→XM,filter_map→XZ,all_map→Y2,forIn_nil→Y8
open List.Pairwise renaming filter→Č,nil→ŏ,map→E1
open List.cons renaming inj→ŝ
open Nat renaming le_refl→Ξ,lt_of_lt_of_le→Ϝ,zero_le→ϡ,ne_of_lt→ϳ,le_trans→Í,pow_le_pow_right→ç,lt_succ_self→ê,lt_of_le_of_lt→ë,add_le_add_left→ÿ,lt_or_ge→ă,lt_irrefl→ı,testBit_lt_two_pow→Ł,not_lt_zero→Ņ,lt_succ_of_lt→Ř,ne_of_gt→ű,zero_testBit→cy,le_of_lt→zz,min_eq_left→Kz,eq_of_testBit_eq→Q1,testBit_two_pow→Rr,min_eq_right→Tp,two_pow_pos→VR,add_zero→VY,succ_pos→Y9,mod_self→YD,lt_trans→YO,le_of_eq→YQ
open Ne renaming symm→ϗ
open Option renaming none_or→þ,isSome_map→ĕ,toList_some→ŗ,getD_none→mu,bind_some→m2,isSome_iff_exists→D3
open Option.some renaming inj→ϋ
open Or renaming inr→ń,inl→kS
open Prod renaming fst→Ä,snd→Î
open PyProof.Rows renaming callWith_type1→ϭ,boot_isinstance→ϯ,boot_all→ą,IntsAre→b6,AllBare→cb,envOfC→hW,boot_sum→ox,boot_set→oD,Call_→Ks,firstMet→Oz,subscriptTail_builtinR→SK,Subscript_→XJ
open PySem renaming wpAny_bind→Μ,Addr→Ο,Value→Φ,sizeLine→Χ,sizeLine_eq→ϊ,Shared→ύ,wpAny_pure→Ϙ,starEach→ϟ,mainGlobals→Ϡ,wpAny→Ϣ,model→ϣ,Stmt→ϩ,World→Å,Heap→Ó,wpAny_field→Ø,wpAny_truthy_bool→ß,wpAny_seqItems→à,tupleKind_room_in1→å,sysModules→æ,wpAny_callSpecial?_slot→í,backTo→î,Around→ó,wpAny_mono→ú,PyData→û,wpAny_newObj_type→ā,bootBuiltins→Ă,wpAny_call_entry→ď,FuncData→Đ,wpAny_setField_rec→Ė,wpAny_pyIter_tuple→ė,wpAny_specialOf→Ğ,wpAny_passesOwn→ğ,behindInMarks→Ġ,attributeBase→ġ,IsPair→ĥ,keywordEach→ħ,tupleKind→İ,cLine→ĵ,NameKind→Ļ,wpAny_holding→Ŕ,sliceBounds→ř,letOwnedTupleGo→ş,codeAny_mono→ŧ,codeAny→Ũ,wpAny_Call_Name_kw→Ů,backToKw→ů,wpAny_pyIter_enum→Ŵ,holding→ŵ,foldedSetIterable→Ŷ,wpAny_pyIter_zip→Ż,swapsWith→ż,assignEach→bh,wpAny_loadPart'→c3,wpAny_execs_nil→ec,codeAny_builtin→en,IsZip→et,wpAny_updateSeq_pair→fe,wpAny_setField→fx,rawInt→gg,firstArgMember→gn,standAt→kz,Keyword→k0,wpAny_onRaise→n7,plainId_quiet→nF,wpAny_rule→oe,wpAny_pyIter_list→rk,valueAt→rx,callerA→rz,call_meetsIn→r4,atKey→vr,ZipApart→v7,ItemsOf→xi,wpAny_isInstance→Ia,wpAny_eqBool_int→Iq,seqIndex?→IA,noFill_tuple_add→IK,wpAny_letGo→JR,subscripted→JS,intKind→Nj,BindsTo→N2,typeLookup→Oc,revObj→Oh,call_meets→Oj,wpAny_letOwnedTupleGo_zip→OT,wpAny_standAt→Ph,wpAny_comprehension_free→Pn,seq_tuple_add→PM,scanBound→QR,wpAny_typeOf→Sy,wpAny_pyNext_enum_endD→S1,wpAny_Call_method_late→S4,wpAny_Assign_Subscript→S5,concat_meets→S8,IsEnum→S9,wpAny_isTrue_Compare1→TF,builtinLookup_eq_fast→TR,wpAny_of_eq→U9,wpAny_loadName_local→UC,seqIndex_of→Vd,codeAny_extend_loopS→Ve,bindL→Vf,bindC→VC,bindArgs→VD,GenState→VG,wpAny_loadName_cell→Wd,wpAny_setItem_heap→W3,wpAny_call→W5,wpAny_Name→WX,call_reversed_list→X8,builtinsNs→X9,WalksS→XB,Code→XC,wpAny_assign_Name→Ya,wpAny_Call_method→Yh,storedH→Yo,slot_list_getitem→Yp
open PySem.Around renaming under_plainId→ź,under→Kp
open PySem.BindsTo renaming of_defaults→N1
open PySem.Builtin renaming bitAnd→Ě,bitNot→ķ,bitOr→š
open PySem.Builtin.Int renaming intBits→Ϭ
open PySem.Builtin.List renaming listExtendWith→Ć,listSameRef→ĝ,listTooLong→Ő,listLengthHint→e8
open PySem.Builtin.SmallTypes renaming nextOf→Ê,ownedTupleIsFree→Ţ
open PySem.Builtin.Tuple renaming tupleExact→gV
open PySem.Calls renaming spliced_cons→Ċ,callWith_builtin→ċ,spliced_nil→ļ,evalArgs_plain→Ō,Name_function_global→y2
open PySem.Code renaming isFrame→Nm
open PySem.F renaming slot_tuple_iterator_next→Ï,args_tuple_iterator_next_1→ę,entry_tuple_iterator_next→Ģ,called_set→Ĩ,slot_NoneType_hash→œ,slot_zip_next→ž,called_tuple→MA,args_object_init_2→SA,plain_extend_loop→Uc,plain_tuple_new→Wk,plain_list_iadd→Wo,args_zip_next_1→Wx
open PySem.Heap renaming get?_push_of_some→Ν,get?_push_size→ό,get?_update_self→ň,SameBut→Ŗ,get?_update_other→ŷ
open PySem.Heap.SameBut renaming update→ľ
open PySem.NameKind renaming free→ĉ,cell→q7
open PySem.Obj renaming data_mapFields→Š,mapSeq→Ÿ,isFreed_of_fields→OY,cls_mapFields→Ua
open PySem.PassesOwn renaming never→ñ
open PySem.PyData renaming eqv→į,int→ŕ,canLay0→Ź,depth→eH,canLayAll0→fb,depthAll→nI
open PySem.SeqAt renaming EqAt→Ü,shaped→Œ,eqv_refl→wh
open PySem.SeqAt.EqAt renaming str_int→JT,int_str→Kj
open PySem.Str renaming ofString→ś,empty→Ş
open PySem.Value renaming ref→Ç,none→ý,isInt→Ĉ,int→Ű,type→wd,bool→PR,isInt_shape→QU
open PySem.W renaming Frag→ϧ,findIn→Ð,mg_none_of→Ö,keepIn→Ę,kitOne→Ķ,hasDictIn→Ń,nsIn→Ň,plainGet→ŋ,plainOver→ő,mg_of→Ś,makesIn→b4,fnOf→oo,codeIn→ot,OpenLaw→Yw
open Sum renaming inl→ϫ,inr→NO
open Sum.inl renaming inj→LU
open True renaming intro→ϥ
open Option renaming some→Α,none→Β
open Bool renaming true→Γ,false→Δ
theorem Ε{p:Prop}[Decidable p](h:p):decide p=true:=decide_eq_true h
theorem Ζ{p:Prop}[Decidable p](h:¬p):decide p=false:=decide_eq_false h
theorem Η{c:Prop}{_:Decidable c}(h:¬c){α:Sort u}{t e:α}:ite c t e=e:=if_neg h
theorem Θ{c:Prop}{_:Decidable c}(h:c){α:Sort u}{t e:α}:ite c t e=t:=if_pos h
theorem Ι{a b:Prop}(h:a)(k:¬a):b:=absurd h k
theorem Κ{α:Sort u}{a:α}:a=a:=rfl
open PySem.W (isFn)
open Int (one_mul)
open PySem.F (args_tuple_add_2 entry_dict_get entry_tuple_add plainAttrs_dict plainAttrs_list slot_dict_get slot_list_extend slot_list_index slot_tuple_add type_list_extend)
open PySem.Heap (lt_size size_push)
noncomputable section
abbrev _L2.zQ0:PySem.Scope:={kind:=.function,names:=[],isGenerator:=Δ,isCoroutine:=Δ}
theorem _L2.gQ0{b:Type}{l:List b}{a:b}(h:l[i]?=Α a):i<l.length:=(ϝ.mp h).1
namespace _L2
theorem PN{b:Type}{l:List b}(h:l.length=n+1):∃a t,l=a:: t/\t.length=n:=by
 cases l with
 |nil=>cases h
 |cons a t=>exact⟨a,t,Κ,Nat.succ.inj h⟩
open PySem PySem.Spec PyProof.Rows
abbrev Key:=Sum Int Str
noncomputable def lV:Key->Φ->Bool
 |.inl k,v=>Ĉ k v
 |.inr x,v=>Φ.isStrOf x v
noncomputable def YM(w:Å):Key->Int
 |.inl k=>hashInt k
 |.inr x=>hashStr w x
theorem bD:∀{k:Key}{v:Φ},lV k v=Γ->(∃i t,k=ϫ i/\v=Ű i t)∨(∃x t,k=NO x/\v=Φ.str x t)
 | .inl i,v,h=>by
  obtain⟨t,e⟩:=QU (k:=i) (v:=v) h
  exact .inl ⟨i,t,Κ,e⟩
 | .inr x,v,h=>by
  obtain⟨t,e⟩:=Φ.isStrOf_shape (x:=x) (v:=v) h
  exact .inr ⟨x,t,Κ,e⟩
theorem xh(i:Int)(t:Tok):lV (.inl i) (.int i t)=Γ:=by simp[lV,Ĉ]
theorem xg(x:Str)(t:Tok):lV (.inr x) (.str x t)=Γ:=by simp[lV,Φ.isStrOf]
theorem GG(a b:Int):decide ((ϫ a:Key)=ϫ b)=(a == b):=by
 grind
theorem GC(a b:Str):decide ((NO a:Key)=NO b)=decide (a=b):=by
 grind
theorem GF(a:Int)(b:Str):decide ((ϫ a:Key)=NO b)=Δ:=Ζ (λq=>nomatch q)
theorem GD(a:Str)(b:Int):decide ((NO a:Key)=ϫ b)=Δ:=Ζ (λq=>nomatch q)
noncomputable def aN(prog:Program)(w:Å):PySem.KeyKind prog w Key where
 is:=lV
 hash:=YM w
 inj:=λv a b ha hb=>by
  rcases bD ha with ⟨i,t,rfl,rfl⟩|⟨x,t,rfl,rfl⟩
  ·rcases bD hb with ⟨j,u,rfl,e⟩|⟨y,u,rfl,e⟩
   ·grind
   grind
  ·rcases bD hb with ⟨j,u,rfl,e⟩|⟨y,u,rfl,e⟩
   ·grind
   grind
 byValue:=λk v h=>by
  rcases bD h with ⟨i,t,rfl,rfl⟩|⟨x,t,rfl,rfl⟩<;>rfl
 pyHash:=λhv h=>by
  rcases bD hv with ⟨i,t,rfl,rfl⟩|⟨x,t,rfl,rfl⟩
  ·exact wpAny_pyHash_int h
  ·exact wpAny_pyHash_str h
 eqBool:=λhu hv h=>by
  rcases bD hu with ⟨i,t,rfl,rfl⟩|⟨x,t,rfl,rfl⟩
  ·rcases bD hv with ⟨j,u,rfl,rfl⟩|⟨y,u,rfl,rfl⟩
   ·rw[GG]at h;exact Iq h
   ·rw[GF]at h;exact Kj i t y u _ _ _ _ h
  ·rcases bD hv with ⟨j,u,rfl,rfl⟩|⟨y,u,rfl,rfl⟩
   ·rw[GD]at h;exact JT x t j u _ _ _ _ h
   ·rw[GC]at h;exact wpAny_eqBool_str h
 «strs»:=λk x t v h=>by
  rcases bD h with ⟨i,u,rfl,e⟩|⟨y,u,rfl,e⟩
  ·grind
  ·injection e with e1 _
   subst e1
   cases v<;>rfl
theorem qZ(a:Program)(w:Å)(i:Int)(t:Tok):(aN a w).is (.inl i) (.int i t)=Γ:=xh i t
theorem qY(a:Program)(w:Å)(x:Str)(t:Tok):(aN a w).is (.inr x) (.str x t)=Γ:=xg x t
open PySem.Spec PyProof.Rows
inductive V where
 |HU|bl (b:Bool)|int (i:Int)|str (x:Str)|Mz (b:Array UInt8)|QC (b:UInt64)|ref (a:Ο)|ty (n:String)
 deriving DecidableEq
def RelV:V->Φ->Prop
 |.HU,u=>u=ý
 |.bl b,u=>u=PR b
 |.int i,u=>∃t,u=Ű i t
 |.str x,u=>∃t,u=Φ.str x t
 |.Mz b,u=>∃t,u=Φ.bytes b t
 |.QC b,u=>∃t,u=Φ.float b t
 |.ref a,u=>u=Ç a
 |.ty n,u=>u=wd n
abbrev τ:List V->List Φ->Prop:=Paired RelV
theorem τ.length(r:τ xs us):xs.length=us.length:=Paired.length r
theorem τ.get:∀{xs:List V}{us:List Φ}{i:Nat}{x:V},τ xs us->xs[i]?=Α x->∃u,us[i]?=Α u/\RelV x u
 |_,_,_,_,.nil,e=>by simp at e
 |_,_,0,_,.cons r _,e=>by simp at e;subst e;exact⟨_,Κ,r⟩
 | _,_,i+1,x,.cons _ t,e=>by
  obtain⟨u,a,b⟩:=τ.get (i:=i) (x:=x) t (by simpa using e)
  exact⟨u,by simpa using a,b⟩
theorem τ.set(r:RelV x u):∀{xs:List V}{us:List Φ}(i:Nat),τ xs us->τ (xs.set i x) (us.set i u)
 |_,_,_,.nil =>.nil
 |_,_,0,.cons _ t =>.cons r t
 |_,_,i+1,.cons q t =>.cons q (τ.set r i t)
theorem τ.append:∀{xs a:List V}{us b:List Φ},τ xs us->τ a b->τ (xs++a) (us++b)
 |_,_,_,_,.nil,s=>s
 |_,_,_,_,.cons r t,s =>.cons r (τ.append t s)
theorem τ.take:∀{xs:List V}{us:List Φ}(n:Nat),τ xs us->τ (xs.take n) (us.take n)
 |_,_,0,_ =>.nil
 |_,_,_+1,.nil =>.nil
 |_,_,n+1,.cons r t =>.cons r (τ.take n t)
theorem τ.drop:∀{xs:List V}{us:List Φ}(n:Nat),τ xs us->τ (xs.drop n) (us.drop n)
 |_,_,0,r=>r
 |_,_,_+1,.nil =>.nil
 |_,_,n+1,.cons _ t=>τ.drop n t
theorem τ.none_of:∀{xs:List V}{us:List Φ}{i:Nat},τ xs us->xs[i]?=Β->us[i]?=Β:=λ{xs us i} r e=>by
 have a:=r.length
 have b:=Ŧ.mp e
 exact Ŧ.mpr (by lia)
def IU:Option V->Option Φ->Prop
 |some v,Α u=>RelV v u
 |none,Β=>True
 |_,_=>False
def KV{κ:Type}:List (κ×V)->List (κ×Φ)->Prop:=Paired λ(p:κ×V)(q:κ×Φ)=>p.1=q.1/\RelV p.2 q.2
noncomputable def kV:Key->V
 |.inl i =>.int i
 |.inr x =>.str x
inductive HO where
  |π (xs:List V)
  |tup (xs:List V)
  |dK (kvs:List (Key×V))|dT (kvs:List (List Key×V))
  |set (S:Int->Bool) (n:Nat)
  |ρ (C dx:Ο) (fs:List (Str×V))
  |own (x:Ο)
  |xd (fs:List (Str×V))
  |met (f x:Ο)
  |YN (lo hi:Int)
  |Jm (o:Obj) (u:HO)
  |PQ (ps:Array Φ)
  |ext (φ:Ó->Prop)
abbrev Hp:=Ο->Option HO
noncomputable def ο(H:Hp)(a:Ο)(o:HO):Hp:=λb=>if b=a then Α o else H b
theorem ae:ο H a o a=Α o:=by unfold ο;grind
theorem aj(h:b≠a):ο H a o b=H b:=by unfold ο;rw[Η h]
theorem BA:ο (ο H a o) a u=ο H a u:=by
 funext b;unfold ο;split<;>rfl
theorem bc{H:Hp}(h:H a=Α o)(c:H b=Α u)(d:o≠u):a≠b:=by
 grind
theorem ai{H:Hp}(h:H a=Α o)(c:H b=Β):a≠b:=by
 grind
def Je(h:Ó)(a:Ο)(items:Array Φ):Prop:=∃o,h.get? a=Α o/\(o.cls=.type "tuple"/\∃n,o.data=.seq items n)/\o.dict=Β
theorem Je.isTup:Je h a items->IsTup h a items:=λb=>by obtain⟨o,e,c,_⟩:=b;exact⟨o,e,c⟩
theorem Je.new(h:Ó)(a:Array Φ):Je (h.push {cls:=.type "tuple",data:=.seq a}) h.objs.size a:=⟨_,ό _ Κ,⟨Κ,_,Κ⟩,Κ⟩
section
variable (P:Program)(w:Å)
def Ig(H:Hp)(h:Ó)(a:Ο):HO->Prop
 |.π xs=>xs.length<=Χ/\∃(HI:List Φ)(n:Nat),τ xs HI/\h.get? a=Α {cls:=.type "list",data:=.seq HI.toArray n}
 |.tup xs=>xs.length<=Χ/\∃HI:List Φ,τ xs HI/\Je h a HI.toArray
 |.dK kvs=>kvs.length<=Χ/\(a == æ)=Δ/\∃vs,KV kvs vs/\h.DictOf (aN P w) a vs
 | .dT kvs=>kvs.length<=Χ/\(a == æ)=Δ/\∃xs:List (List Key×Ο×Φ),
   Paired (λ(p:List Key×V)(q:List Key×Ο×Φ)=>p.1=q.1/\H q.2.1=Α (.tup (p.1.map kV))/\RelV p.2 q.2.2) kvs xs/\
   ∃o es ep,h.get? a=Α o/\o.ExactDict/\o.data=.dict es ep/\es.toList=xs.map (entryOfKey (İ (aN P w)))/\(xs.map (·.1)).Nodup
 |.set S n=>h.SetOf (Nj P w) a S n
 | .ρ C dx fs=>H dx=Α (.own a)/\fs.length<=1000/\dx≠a/\h.get? a=Α (PySem.W.instObj C dx)/\
   ∃mA,h.Ns1 dx mA/\(∀f,IU (fs.lookup f) (mA f))/\PySem.Within mA (fs.map (·.1))
 |.own _=>∃o,h.get? a=Α o
 |.xd fs=>∃mA,h.Ns1 a mA/\∀f,IU (fs.lookup f) (mA f)
 |.YN lo hi=>∃t u v,h.get? a=Α {cls:=.type "range",data:=.fields #[.int lo t,.int hi u,.int 1 v]}
 |.Jm o u=>h.get? a=Α o/\Ig H h a u
 |.PQ ps=>h.get? a=Α {cls:=.none,data:=.fields ps}
 |.met f x=>h.get? a=Α (PySem.W.methodObj (.ref f) (.ref x))
 |.ext φ=>φ h/\(∃o,h.get? a=Α o)/\∀h1 h2:Ó,φ h1->(∀o,h1.get? a=Α o->h2.get? a=Α o)->φ h2
def J0(H:Hp)(h:Ó):Prop:=∀a o,H a=Α o->Ig P w H h a o
end
section
variable {P:Program}{w:Å}{H H':Hp}{h h':Ó}{a:Ο}{o:HO}
theorem Ig.lt(x:Ig P w H h a o):a<h.objs.size:=by
 cases o with
 |π xs=>obtain⟨_,_,_,_,e⟩:=x;exact lt_size e
 |tup xs=>obtain⟨_,_,_,p⟩:=x;exact p.isTup.lt
 |dK b=>obtain⟨_,_,_,_,o,_,_,e,_⟩:=x;exact lt_size e
 |dT b=>obtain⟨_,_,_,_,o,_,_,e,_⟩:=x;exact lt_size e
 |set S n=>obtain⟨o,_,_,_,e,_⟩:=x;exact lt_size e
 |ρ C c fs=>obtain⟨_,_,_,e,_⟩:=x;exact lt_size e
 |own y=>obtain⟨_,e⟩:=x;exact lt_size e
 |xd fs=>obtain⟨_,⟨_,_,_,e,_⟩,_⟩:=x;exact lt_size e
 |YN d g=>obtain⟨_,_,_,e⟩:=x;exact lt_size e
 |Jm i u=>obtain⟨e,_⟩:=x;exact lt_size e
 |PQ j=>exact lt_size (x)
 |met f y=>exact lt_size (x)
 |ext l=>obtain⟨_,⟨_,e⟩,_⟩:=x;exact lt_size e
theorem Paired.QD:∀{c:List α}{d:List β},Paired F c d->(∀a b,F a b->G a b)->Paired G c d
 |_,_,.nil,_ =>.nil
 |_,_,.cons r t,f =>.cons (f _ _ r) (Paired.QD t f)
theorem Ig.IZ(x:Ig P w H h a o)(k:∀b u,(b=a∨H b=Α (.own a))->h.get? b=Α u->h'.get? b=Α u)
  (D:∀b,H b=Α (.own a)->H' b=Α (.own a)) (E:∀b xs,H b=Α (.tup xs)->H' b=Α (.tup xs)):Ig P w H' h' a o:=by
 induction o with
 |π xs=>obtain⟨z,l,n,r,e⟩:=x;exact⟨z,l,n,r,k _ _ (.inl Κ) e⟩
 |tup xs=>obtain⟨z,l,r,g,e,c⟩:=x;exact⟨z,l,r,g,k _ _ (.inl Κ) e,c⟩
 |dK m=>obtain⟨z,y,F,r,g,i,j,e,c⟩:=x;exact⟨z,y,F,r,g,i,j,k _ _ (.inl Κ) e,c⟩
 | dT m =>
  obtain⟨z,y,xs,r,g,i,j,e,c⟩:=x
  exact⟨z,y,_,Paired.QD r λp q z=>⟨z.1,E _ _ z.2.1,z.2.2⟩,g,i,j,k _ _ (.inl Κ) e,c⟩
 |set S n=>obtain⟨g,i,j,t,e,c⟩:=x;exact⟨g,i,j,t,k _ _ (.inl Κ) e,c⟩
 | ρ C J fs =>
  obtain⟨d,z,ne,e,s,⟨A,i,j,G,c⟩,r⟩:=x
  exact⟨D _ d,z,ne,k _ _ (.inl Κ) e,s,⟨A,i,j,k _ _ (.inr d) G,c⟩,r⟩
 |own y=>obtain⟨g,e⟩:=x;exact⟨g,k _ _ (.inl Κ) e⟩
 |xd fs=>obtain⟨s,⟨A,i,j,e,c⟩,r⟩:=x;exact⟨s,⟨A,i,j,k _ _ (.inl Κ) e,c⟩,r⟩
 |YN K L=>obtain⟨t,u,v,e⟩:=x;exact⟨t,u,v,k _ _ (.inl Κ) e⟩
 |Jm g u I=>obtain⟨e,q⟩:=x;exact⟨k _ _ (.inl Κ) e,I q⟩
 | PQ B =>
  have e:=x
  exact k a _ (.inl Κ) e
 | met f y =>
  have e:=x
  exact k a _ (.inl Κ) e
 |ext M=>obtain⟨p,⟨o,e⟩,st⟩:=x;exact⟨st _ _ p λo q=>k _ _ (.inl Κ) q,⟨o,k _ _ (.inl Κ) e⟩,st⟩
theorem J0.lt(x:J0 P w H h)(e:H a=Α o):a<h.objs.size:=(x a o e).lt
theorem J0.fresh(x:J0 P w H h)(e:h.objs.size<=a):H a=Β:=by
 cases q:H a with
 |none=>rfl
 |some u=>exact Ι (Ϝ (x.lt q) e) (ı _)
theorem J0.kept(x:J0 P w H h)(k:∀b u,h.get? b=Α u->h'.get? b=Α u):J0 P w H h':=λa o e =>
 (x a o e).IZ (λb u _ q=>k b u q) (λ_ q=>q) λ_ _ q=>q
theorem J0.laid(x:J0 P w H h)(k:∀b u,h.get? b=Α u->h'.get? b=Α u)(g:h.objs.size<=a)(new:Ig P w (ο H a o) h' a o):J0 P w (ο H a o) h':=λb u e=>by
 have d:=x.fresh g
 by_cases f:b=a
 ·subst f;rw[ae]at e;grind
 ·rw[aj f]at e
  exact(x b u e).IZ (λc v _ q=>k c v q) (λc q=>by rw[aj (ai q d)];exact q) λc xs q=>by rw[aj (ai q d)];exact q
end
def Rd(H:Hp)(a:Ο)(u:HO):Prop:=H a=Α u∨∃o,H a=Α (.Jm o u)
theorem Rd.ok(r:Rd H a u)(x:J0 P w H h):Ig P w H h a u:=by
 rcases r with r|⟨o,r⟩
 ·exact x a u r
 ·obtain⟨_,q⟩:=x a _ r
  exact q
def SJ:Option HO->Prop
 |some (.π _)=>True
 |some (.dK _)=>True
 |some (.dT _)=>True
 |some (.set _ _)=>True
 |some (.ρ _ _ _)=>True
 |some (.ext _)=>True
 |_=>False
section
theorem J0.write(ok:J0 P w H h)(a:SJ (H x))(m:e=x∨H e=Α (.own x))(k:∀b u,b≠e->h.get? b=Α u->h'.get? b=Α u)(g:∃u,h'.get? e=Α u)
  (new:Ig P w (ο H x o') h' x o'):J0 P w (ο H x o') h':=λb u q=>by
 have i:∀c y,H c=Α (.own y)->c≠x:=λc y r z=>by subst z;rw[r]at a;exact a
 have j:∀c xs,H c=Α (.tup xs)->c≠x:=λc xs r z=>by subst z;rw[r]at a;exact a
 by_cases d:b=x
 ·subst d;rw[ae]at q;grind
 ·rw[aj d]at q
  by_cases l:b=e
  ·have f:H b=Α (.own x):=by
    grind
   rw[q]at f;cases f
   obtain⟨v,n⟩:=g
   exact⟨v,by grind⟩
  ·refine(ok b u q).IZ (λc v o r=>k c v ?_ r) (λc r=>by rw[aj (i c b r)];exact r) λc xs r=>by rw[aj (j c xs r)];exact r
   grind
end
structure Un(fs ex:List Ο)(H H':Hp)(h h':Ó):Prop where
 keep:∀b o,h.get? b=Α o->H b=Β->b∉fs->b∉ex->h'.get? b=Α o
 slot:∀b o,h.get? b=Α o->H b=Β->b∈fs->b∉ex->∃sl,h'.get? b=Α {o with slots:=sl}
 free:∀b o,h.get? b=Α o->H b=Β->b∉ex->H' b=Β
 there:∀b o,h.get? b=Α o->b∉ex->∃o',h'.get? b=Α o'
 K4:∀b xs,H b=Α (.tup xs)->H' b=Α (.tup xs)
 Kk:∀b o u,H b=Α (.Jm o u)->H' b=Α (.Jm o u)
 KS:∀b ps,H b=Α (.PQ ps)->∃more,H' b=Α (.PQ (ps++more))
section
variable {fs Io ex Sa:List Ο}{H H1 H2:Hp}{h h1 h2 h':Ó}{a x e:Ο}{o:HO}
theorem Un.any(u:Un fs ex H H1 h h1)(q:h.get? b=Α ob)(n:H b=Β)(d:b∉ex):∃g,h1.get? b=Α {ob with slots:=g}:=by
 by_cases f:b∈fs
 ·exact u.slot b ob q n f d
 ·exact⟨_,u.keep b ob q n f d⟩
theorem Un.kept(k:∀b u,h.get? b=Α u->h'.get? b=Α u):Un fs ex H H h h':=
 ⟨λb c q _ _ _=>k b c q,λb c q _ _ _=>⟨c.slots,k b c q⟩,λ_ _ _ n _=>n,λb c q _=>⟨c,k b c q⟩,λ_ _ q=>q,λ_ _ _ q=>q,λ_ d q=>⟨#[],by rw[q];simp⟩⟩
theorem Un.refl:Un fs ex H H h h:=Un.kept λ_ _ q=>q
theorem Un.laid(k:∀b u,h.get? b=Α u->h'.get? b=Α u)(d:h.objs.size<=a)(c:H a=Β):Un fs ex H (ο H a o) h h' where
 keep:=λb u q _ _ _=>k b u q
 slot:=λb u q _ _ _=>⟨u.slots,k b u q⟩
 free:=λb u q n _=>by rw[aj (ϳ (Ϝ (lt_size q) d))];exact n
 there:=λb u q _=>⟨u,k b u q⟩
 K4:=λb xs q=>by rw[aj (ai q c)];exact q
 Kk:=λb u xs q=>by rw[aj (ai q c)];exact q
 KS:=λb f q=>⟨#[],by rw[aj (ai q c),q];simp⟩
theorem Un.write(d:SJ (H x))(i:e=x∨H e=Α (.own x))(k:∀b u,b≠e->h.get? b=Α u->h'.get? b=Α u)(j:∃u,h'.get? e=Α u):Un fs ex H (ο H x o) h h':=by
 have g:∀b,H b=Β->b≠x:=λb n z=>by subst z;rw[n]at d;exact d
 have f:∀b,H b=Β->b≠e:=λb n z=>by
  grind
 have c:∀b u,H b=Α u->¬SJ (Α u)->b≠x:=λb u q l z=>by grind
 refine⟨λb u q n _ _=>k b u (f b n) q,λb u q n _ _=>⟨u.slots,k b u (f b n) q⟩,λb u q n _=>by rw[aj (g b n)];exact n,λb u q _=>?_,
  λb xs q=>by rw[aj (c b _ q λz=>z)];exact q,λb u xs q=>by rw[aj (c b _ q λz=>z)];exact q,λb m q=>⟨#[],by rw[aj (c b _ q λz=>z),q];simp⟩⟩
 grind
end
noncomputable def X0(h:Ó)(H:Hp):List Ο:=(Υ h.objs.size).filter λa=>(H a).isSome
noncomputable def pO(h:Ó)(H:Hp):Ó:=PySem.W.hideAll h (X0 h H)
theorem xm(h:Ó)(H:Hp):(pO h H).objs.size=h.objs.size:=PySem.W.hideAll_size _ _
theorem AJ(e:h.get? b=Α o)(n:H b=Β):(pO h H).get? b=Α o:=
 PySem.W.hideAll_get _ e λa=>by
  have q:=(Ϫ.mp a).2
  grind
theorem Dg(e:(pO h H).get? b=Α o):h.get? b=Α o/\H b=Β:=by
 have a:=PySem.W.of_hideAll (X0 h H) e
 refine⟨a,?_⟩
 cases q:H b with
 |none=>rfl
 | some x =>
  have c:b∈X0 h H:=Ϫ.mpr ⟨Ϩ.mpr (lt_size a),by simp[q]⟩
  have z:(pO h H).get? b=Β:=PySem.W.hideAll_none (X0 h H) c
  grind
structure Mod(K:ϧ)(mg:Str->Option Φ)(μ:Ó):Prop where
 Ox:K.In μ
 glob:μ.Ns Ϡ mg
 blt:∃mb,μ.Ns X9 mb/\∀x:Str,x≠ "__name__"->mb x=Ă x
 nolimit:μ.NoLimit
structure Cx where
 prog:Program
 w:Å
 K:ϧ
 mg:Str->Option Φ
 μ:Ó
 A:ó
 N:List Str
 s₀:ύ
 H₀:Hp
 env:Env
 outer:List Env
 stack:List Env
 ex:List Ο
 fn:Str->Bool
 calm:Bool
 pn:List (Ο×Obj)
 xe:Φ->ύ->Prop
noncomputable def vW(l:List Env):List Ο:=l.filterMap (·.frame)
abbrev Cx.fs(X:Cx):List Ο:=vW X.outer
def X1(sc:Scope)(x:Str):Prop:=sc.names.lookup x=Α .local∨sc.names.lookup x=Α .cell∨sc.names.lookup x=Α .free
def Hr(sc:Scope)(x:Str):Prop:=sc.names.lookup x=Α .local∨sc.names.lookup x=Α .cell
def Look(env:Env)(h:Ó)(m:Str->Option Φ)(x:Str)(u:Φ):Prop:=
 (env.kindOf x=Α .local/\m x=Α u)∨((env.kindOf x=Α .cell∨env.kindOf x=Α .free)/\∃c,env.cells.lookup x=Α c/\h.IsCell c (Α u))
structure Cx.Ok(X:Cx):Prop where
 mod:Mod X.K X.mg X.μ
 kind:X.env.scope.kind=.function
 glob:X.env.globals=Ϡ
 blt:X.env.builtins=X9
 above:X.s₀.heap.objs.size<=X.env.locals
 inj:∀x y c,X.env.cells.lookup x=Α c->X.env.cells.lookup y=Α c->x=y
 has:∀x,(X.env.kindOf x=Α .cell∨X.env.kindOf x=Α .free)->∃c,X.env.cells.lookup x=Α c
 SM:∀x c,X.fn x=Γ->X.env.cells.lookup x=Α c->X.s₀.heap.objs.size<=c
 hd:X.calm=Γ->X.A.handled=Β
 frames:X.A.frames=Α X.stack
 X2:X.stack=X.outer∨(X.stack=X.env:: X.outer/\X.env.frame=Α X.env.locals)
 exf:∀b∈X.ex,b≠X.env.locals/\∀x c,X.env.cells.lookup x=Α c->c≠b
 bs:∀b o,X.μ.get? b=Α o->X.s₀.heap.get? b=Α o/\X.H₀ b=Β
 OH:X.μ.objs.size<=X.s₀.heap.objs.size
 N5:∀b o,X.μ.get? b=Α o->b∉X.ex
 OI:∀b∈X.ex,b∉X.fs
 JY:X.s₀.heap.FunFrames X.μ X.outer
 QE:∀b∈X.fs,X.H₀ b=Β
structure ς(X:Cx)(ν:List (Ο×Obj))(σ:List (Option V))(H:Hp)(s:ύ):Prop where
 ok:X.Ok
 os:s.os=X.s₀.os
 bare:cb s.gens
 μ:Un X.fs X.ex X.H₀ H X.s₀.heap s.heap
 loc:∃m,s.heap.Ns X.env.locals m/\∀(i:Nat)(x:Str)(v:V),X.N[i]?=Α x->σ[i]?=Α (Α v)->X1 X.env.scope x->∃u,RelV v u/\Look X.env s.heap m x u
 cell:∀x c,X.env.cells.lookup x=Α c->∃v,s.heap.IsCell c v
 free:H X.env.locals=Β
 IC:∀x c,X.env.cells.lookup x=Α c->H c=Β
 pin:∀p∈X.pn++ν,s.heap.get? p.1=Α p.2/\H p.1=Β/\p.1≠X.env.locals/\p.1∉X.fs/\∀v,p.2.data≠.cell v
 HK:J0 X.prog X.w H s.heap
 len:σ.length=X.N.length
section
variable {X:Cx}{ν:List (Ο×Obj)}{σ:List (Option V)}{H H':Hp}{s:ύ}{h':Ó}
theorem Cx.Ok.YR(ok:X.Ok)(e:X.μ.get? b=Α o):b∉X.fs:=λa=>by
 have:=(ok.JY.mem a).1
 grind
theorem ς.bs(I:ς X ν σ H s):∀b o,X.μ.get? b=Α o->s.heap.get? b=Α o/\H b=Β:=λb o e =>
 ⟨I.μ.keep b o (I.ok.bs b o e).1 (I.ok.bs b o e).2 (I.ok.YR e) (I.ok.N5 b o e),I.μ.free b o (I.ok.bs b o e).1 (I.ok.bs b o e).2 (I.ok.N5 b o e)⟩
theorem ς.bk(I:ς X ν σ H s):∀b o,X.μ.get? b=Α o->s.heap.get? b=Α o:=λb o e=>(I.bs b o e).1
theorem ς.mod(I:ς X ν σ H s):Mod X.K X.mg X.μ:=I.ok.mod
theorem ς.JI(I:ς X ν σ H s):X.K.In s.heap:=I.ok.mod.Ox.keeps I.bk
theorem ς.lt(I:ς X ν σ H s):X.env.locals<s.heap.objs.size:=let ⟨_,hn,_⟩:=I.loc;hn.lt
theorem ς.sz(I:ς X ν σ H s):X.s₀.heap.objs.size<=s.heap.objs.size:=Í I.ok.above (zz I.lt)
theorem ς.YT(I:ς X ν σ H s){a:Ο}(h:s.heap.objs.size<=a):a∉X.fs:=λb=>by
 obtain⟨_,o,c,_⟩:=I.ok.JY.mem b
 exact Ι (Ϝ (lt_size c) (Í I.sz h)) (ı _)
theorem ς.OJ(I:ς X ν σ H s):∀x c,X.env.cells.lookup x=Α c->c≠X.env.locals:=λx c e z=>by
 obtain⟨v,o,b,d⟩:=I.cell x c e
 obtain⟨m,⟨f,g,h,i,a,_⟩,_⟩:=I.loc
 grind
theorem ς.JY(I:ς X ν σ H s):s.heap.FunFrames X.μ X.outer:=by
 have all:∀(l:List Env),(∀b∈vW l,b∈X.fs)->X.s₀.heap.FunFrames X.μ l->s.heap.FunFrames X.μ l:=by
  intro l
  induction l with
  |nil=>intro _ _;trivial
  | cons g r h =>
   intro d i
   obtain⟨j,⟨L,o,f,m,n,p⟩,q⟩:=i
   have a:=d L (by unfold vW;grind)
   obtain⟨t,e⟩:=I.μ.slot L o n (I.ok.QE L a) a λz=>I.ok.OI L z a
   exact⟨j,⟨L,_,f,m,e,p⟩,h (λb c=>d b (by unfold vW;rw[QM,f];exact Ϯ _ c)) q⟩
 exact all X.outer (λ_ c=>c) I.ok.JY
theorem ς.stack(I:ς X ν σ H s):s.heap.FunFrames X.μ X.stack:=by
 rcases I.ok.X2 with e|⟨e,a⟩
 ·rw[e];exact I.JY
 ·rw[e]
  obtain⟨m,b,_⟩:=I.loc
  refine .cons (by rw[I.ok.kind];decide) a b ?_ I.JY
  exact Ó.get?_none_of_le (Í I.ok.OH I.ok.above)
theorem ς.KU(I:ς X ν σ H s):∀b∈vW X.stack,b∈X.env.locals:: X.fs:=λb a=>by
 rcases I.ok.X2 with e|⟨e,c⟩
 ·grind
 ·rw[e]at a
  unfold vW at a
  rw[QM,c]at a
  exact a
theorem ς.M0(I:ς X ν σ H s):∀b∈vW X.stack,H b=Β:=λb a=>by
 rcases À.mp (I.KU b a) with e|a
 ·rw[e];exact I.free
 ·obtain⟨_,o,c,_⟩:=I.ok.JY.mem a
  exact I.μ.free b o c (I.ok.QE b a) λz=>I.ok.OI b z a
theorem ς.step{ch:List Ο}(I:ς X ν σ H s)
  (B:∀b∈ch,(b∈X.ex∨X.s₀.heap.objs.size<=b)/\b≠X.env.locals/\(∀x c,X.env.cells.lookup x=Α c->c≠b)/\∀p∈X.pn++ν,p.1≠b)
  (keep:∀b o,b≠X.env.locals->b∉X.fs->b∉ch->s.heap.get? b=Α o->H b=Β->h'.get? b=Α o)
  (f:∀b o,b≠X.env.locals->b∈X.fs->b∉ch->s.heap.get? b=Α o->H b=Β->∃E,h'.get? b=Α {o with slots:=E}) (free:∀b o,b∉ch->s.heap.get? b=Α o->H b=Β->H' b=Β)
  (G:∀b o,b∉ch->s.heap.get? b=Α o->∃C,h'.get? b=Α C)
  (O:∀b xs,H b=Α (.tup xs)->H' b=Α (.tup xs)) (P:∀b o u,H b=Α (.Jm o u)->H' b=Α (.Jm o u)) (KS:∀b D,H b=Α (.PQ D)->∃more,H' b=Α (.PQ (D++more)))
  (Q:∀m,s.heap.Ns X.env.locals m->h'.Ns X.env.locals m) (R:J0 X.prog X.w H' h') (S:cb g'):
  ς X ν σ H' {s with heap:=h',gens:=g',drawn:=d',toks:=t'}:=by
 have y:∀b o,X.s₀.heap.get? b=Α o->b≠X.env.locals:=λb o e=>ϳ (Ϝ (lt_size e) I.ok.above)
 have J:∀b o,X.s₀.heap.get? b=Α o->b∉X.ex->b∉ch:=λb o e a g=>by
  rcases (B b g).1 with z|z
  ·exact a z
  ·exact Ι (Ϝ (lt_size e) z) (ı _)
 have h:∀x c,X.env.cells.lookup x=Α c->∀v,s.heap.IsCell c v->h'.IsCell c v:=λx c e v ⟨o,t,K⟩=>by
  have A:=λz=>(B c z).2.2.1 x c e Κ
  by_cases M:c∈X.fs
  ·obtain⟨E,q⟩:=f c o (I.OJ x c e) M A t (I.IC x c e)
   exact⟨_,q,K⟩
  ·exact⟨o,keep c o (I.OJ x c e) M A t (I.IC x c e),K⟩
 refine⟨I.ok,I.os,S,⟨λb o e n g a=>?_,λb o e n g a=>?_,λb o e n a=>?_,λb o e a=>?_,λb xs e=>O b xs (I.μ.K4 b xs e),λb o xs e=>P b o xs (I.μ.Kk b o xs e),λb D e=>?_⟩,?_,λx c e=>?_,?_,λx c e=>?_,λp T=>?_,R,I.len⟩
 ·exact keep b o (y b o e) g (J b o e a) (I.μ.keep b o e n g a) (I.μ.free b o e n a)
 ·obtain⟨E,j⟩:=I.μ.slot b o e n g a
  obtain⟨U,N⟩:=f b _ (y b o e) g (J b o e a) j (I.μ.free b o e n a)
  grind
 ·obtain⟨C,j⟩:=I.μ.there b o e a
  exact free b C (J b o e a) j (I.μ.free b o e n a)
 ·obtain⟨C,j⟩:=I.μ.there b o e a
  grind
 ·obtain⟨m1,j⟩:=I.μ.KS b D e
  grind
 ·obtain⟨m,Y,Z⟩:=I.loc
  refine⟨m,Q m Y,λi x v j N e3=>?_⟩
  obtain⟨u,r,l⟩:=Z i x v j N e3
  refine⟨u,r,?_⟩
  rcases l with l|⟨k,c,e,z⟩
  ·exact .inl l
  ·exact .inr ⟨k,c,e,h x c e _ z⟩
 ·obtain⟨v,z⟩:=I.cell x c e
  grind
 ·obtain⟨m,⟨o,_,_,t,_⟩,_⟩:=I.loc
  exact free _ o (λz=>(B _ z).2.1 Κ) t I.free
 ·obtain⟨v,o,t,K⟩:=I.cell x c e
  exact free c o (λz=>(B c z).2.2.1 x c e Κ) t (I.IC x c e)
 ·obtain⟨e,n,ne,nf,d⟩:=I.pin p T
  grind
theorem ς.un(I:ς X ν σ H s)(u:Un X.fs [] H H' s.heap h')(g:J0 X.prog X.w H' h'):ς X ν σ H' {s with heap:=h',toks:=t'}:=by
 obtain⟨m,⟨o,q,t,d,r⟩,_⟩:=id I.loc
 obtain⟨v,h⟩:=u.any d I.free (by simp)
 exact I.step (g':=s.gens) (d':=s.drawn) (ch:=[]) (λ_ z=>nomatch z) (λb o _ a _ e n=>u.keep b o e n a (by simp)) (λb o _ a _ e n=>u.slot b o e n a (by simp)) (λb o _ e n=>u.free b o e n (by simp)) (λb o _ e=>u.there b o e (by simp)) u.K4 u.Kk u.KS (λx i=>by
  obtain⟨y,j,l,f,p⟩:=i
  rw[d]at f;cases f
  exact⟨_,j,l,h,p⟩) g I.bare
theorem ς.call(I:ς X ν σ H s)(u:Un (vW X.stack) ch H H' s.heap h')(j:J0 X.prog X.w H' h')(l:cb g')
  (f:∀b∈ch,(b∈X.ex∨X.s₀.heap.objs.size<=b)/\b≠X.env.locals/\(∀x c,X.env.cells.lookup x=Α c->c≠b)/\∀p∈X.pn++ν,p.1≠b):
  ς X ν σ H' {s with heap:=h',gens:=g',drawn:=d',toks:=t'}:=by
 obtain⟨m,⟨o,B,C,h,r⟩,_⟩:=id I.loc
 obtain⟨D,d⟩:=u.any h I.free λz=>(f _ z).2.1 Κ
 exact I.step (ch:=ch) f (λb o d q a e n=>u.keep b o e n (λz=>(À.mp (I.KU b z)).elim d q) a) (λb o _ _ a e n=>u.any e n a) (λb o a e n=>u.free b o e n a) (λb o a e=>u.there b o e a) u.K4 u.Kk u.KS (λE t=>by
  obtain⟨F,v,y,i,A⟩:=t
  rw[h]at i;cases i
  exact⟨_,v,y,d,A⟩) j l
theorem ς.turned(I:ς X ν σ H s)(k:∀b o,b≠it->s.heap.get? b=Α o->h'.get? b=Α o)(t:H it=Β)(f:it≠X.env.locals)
  (w:it∈X.ex∨X.s₀.heap.objs.size<=it) (y:∀x c,X.env.cells.lookup x=Α c->c≠it) (A:∀p∈X.pn++ν,p.1≠it):ς X ν σ H {s with heap:=h',toks:=t'}:=by
 have g:∀b u,H b=Α u->b≠it:=λb u e z=>by grind
 refine I.step (g':=s.gens) (d':=s.drawn) (ch:=[it]) (λb B=>?_) (λb o _ _ a e _=>k b o (λz=>a (by simp[z])) e) (λb o _ _ a e _=>⟨o.slots,k b o (λz=>a (by simp[z])) e⟩) (λ_ _ _ _ n=>n)
  (λb o a e=>⟨o,k b o (λz=>a (by simp[z])) e⟩) (λ_ _ e=>e) (λ_ _ _ e=>e) (λb C e=>⟨#[],by rw[e];simp⟩) (λm h=>?_) (λb u e=>?_) I.bare
 ·grind
 ·obtain⟨o,i,j,l,r⟩:=h
  exact⟨o,i,j,k _ o (ϗ f) l,r⟩
 ·refine(I.HK b u e).IZ (λc v a q=>k c v ?_ q) (λ_ q=>q) λ_ _ q=>q
  grind
theorem ς.tok(I:ς X ν σ H s)(t:Nat):ς X ν σ H {s with toks:=t}:=I.un (h':=s.heap) (t':=t) Un.refl I.HK
theorem ς.kept(I:ς X ν σ H s)(k:∀b u,s.heap.get? b=Α u->h'.get? b=Α u):ς X ν σ H {s with heap:=h',toks:=t'}:=I.un (Un.kept k) (I.HK.kept k)
theorem ς.laid{a:Ο}(I:ς X ν σ H s)(k:∀b u,s.heap.get? b=Α u->h'.get? b=Α u)(c:s.heap.objs.size<=a)(new:Ig X.prog X.w (ο H a o) h' a o):
  ς X ν σ (ο H a o) {s with heap:=h',toks:=t'}:=I.un (Un.laid k c (I.HK.fresh c)) (I.HK.laid k c new)
theorem ς.write(I:ς X ν σ H s)(a:SJ (H x))(c:e=x∨H e=Α (.own x))(k:∀b u,b≠e->s.heap.get? b=Α u->h'.get? b=Α u)(d:∃u,h'.get? e=Α u)
  (new:Ig X.prog X.w (ο H x o) h' x o):ς X ν σ (ο H x o) {s with heap:=h',toks:=t'}:=I.un (Un.write a c k d) (I.HK.write a c k d new)
theorem ς.Jt(I:ς X ν σ H s)(h:∀p∈Ly,s.heap.get? p.1=Α p.2/\H p.1=Β/\p.1≠X.env.locals/\p.1∉X.fs/\∀v,p.2.data≠.cell v):ς X Ly σ H s:=
 ⟨I.ok,I.os,I.bare,I.μ,I.loc,I.cell,I.free,I.IC,λp a=>(Á.mp a).elim (λz=>I.pin p (ï _ z)) (h p),I.HK,I.len⟩
theorem fA{N:List Str}(c:N.Nodup){i j:Nat}(a:N[i]?=Α x)(b:N[j]?=Α x):i=j:=by
 obtain⟨f,d⟩:=ϝ.mp a
 obtain⟨g,e⟩:=ϝ.mp b
 exact(Ŝ c).mp (d.trans e.symm)
theorem nk(I:ς X ν σ H s)(hN:X.N.Nodup)(J:X.N[i]?=Α x)(t:Hr X.env.scope x)(r:RelV v u)
  (h:∀L,ς X ν (σ.set i (Α v)) H L->(∃a,Ŗ a s.heap L.heap/\(a=X.env.locals∨X.env.cells.lookup x=Α a))->Q () L) (hf:autoParam (X.fn x=Γ∨X.env.scope.names.lookup x=Α .local) ζ):Ϣ M A (storeName X.env x u) Q E s:=by
 obtain⟨m,O,hl⟩:=id I.loc
 have YX:(X.env.scope.kind == .class||(X.env.scope.kind == .module&& X.env.locals != X.env.globals))=Δ:=by rw[I.ok.kind];rfl
 have SN:i<σ.length:=by rw[I.len];grind
 have OJ:=I.OJ
 have g:∀{a:Ο}{h':Ó},(∃o,s.heap.get? a=Α o/\H a=Β)->Ŗ a s.heap h'->J0 X.prog X.w H h':=λ{a h'} ha f b ob e=>by
  obtain⟨_,_,P⟩:=ha
  refine(I.HK b ob e).IZ (λc R B q=>(f.2 c ?_).trans q) (λ_ q=>q) λ_ _ q=>q
  grind
 rcases t with G|G
 ·refine wpAny_storeName_local G O (λh' YY f=>?_) YX
  obtain⟨oL,_,_,S,_⟩:=id O
  refine h _ ⟨I.ok,I.os,I.bare,⟨λb o e n D t=>?_,λb o e n D t=>?_,I.μ.free,λb o e t=>?_,I.μ.K4,I.μ.Kk,I.μ.KS⟩,⟨_,YY,λj y T l C U=>?_⟩,λy c e=>?_,I.free,I.IC,λp Y=>?_,g ⟨oL,S,I.free⟩ f,by simpa using I.len⟩ ⟨_,f,.inl Κ⟩
  ·exact(f.2 b (ϳ (Ϝ (lt_size e) I.ok.above))).trans (I.μ.keep b o e n D t)
  ·obtain⟨Z,l⟩:=I.μ.slot b o e n D t
   exact⟨Z,(f.2 b (ϳ (Ϝ (lt_size e) I.ok.above))).trans l⟩
  ·obtain⟨o',l⟩:=I.μ.there b o e t
   exact⟨_,(f.2 b (ϳ (Ϝ (lt_size e) I.ok.above))).trans l⟩
  ·by_cases F:j=i
   ·subst F
    rw[J]at l;cases l
    rw[NM SN]at C
    cases C
    exact⟨u,r,.inl ⟨G,by simp⟩⟩
   ·rw[Û (ϗ F)]at C
    obtain⟨u',r',q⟩:=hl j y T l C U
    refine⟨_,r',?_⟩
    rcases q with ⟨k,e⟩|⟨k,c,e,z⟩
    ·refine .inl ⟨k,?_⟩
     have:y≠x:=λe=>F (fA hN l (e▸J))
     grind
    ·exact .inr ⟨k,c,e,z.sameBut f (OJ y c e)⟩
  ·obtain⟨R,z⟩:=I.cell y c e
   exact⟨R,z.sameBut f (OJ y c e)⟩
  ·obtain⟨e,n,ne,nf,d⟩:=I.pin p Y
   exact⟨(f.2 p.1 ne).trans e,n,ne,nf,d⟩
 ·have SO:X.fn x=Γ:=by
   grind
  obtain⟨c,B⟩:=I.ok.has x (.inl G)
  obtain⟨R,z⟩:=I.cell x c B
  refine wpAny_storeName_cell I.ok.kind G B z (λh' N6 f=>?_)
  obtain⟨oc,hoc,hocd⟩:=id z
  refine h {s with heap:=h'} ⟨I.ok,I.os,I.bare,⟨λb o e n D t=>?_,λb o e n D t=>?_,I.μ.free,λb o e t=>?_,I.μ.K4,I.μ.Kk,I.μ.KS⟩,⟨m,O.sameBut f (ϗ (OJ x c B)),λj y T l C U=>?_⟩,λy K e=>?_,I.free,I.IC,λp Y=>?_,g ⟨oc,hoc,I.IC x c B⟩ f,by simpa using I.len⟩ ⟨c,f,.inr B⟩
  ·exact(f.2 b (ϳ (Ϝ (lt_size e) (I.ok.SM x c SO B)))).trans (I.μ.keep b o e n D t)
  ·obtain⟨Z,l⟩:=I.μ.slot b o e n D t
   exact⟨Z,(f.2 b (ϳ (Ϝ (lt_size e) (I.ok.SM x c SO B)))).trans l⟩
  ·obtain⟨o',l⟩:=I.μ.there b o e t
   exact⟨_,(f.2 b (ϳ (Ϝ (lt_size e) (I.ok.SM x c SO B)))).trans l⟩
  ·by_cases F:j=i
   ·subst F
    rw[J]at l;cases l
    rw[NM SN]at C
    cases C
    exact⟨u,r,.inr ⟨.inl G,c,B,N6⟩⟩
   ·rw[Û (ϗ F)]at C
    obtain⟨u',r',q⟩:=hl j y T l C U
    refine⟨_,r',?_⟩
    rcases q with q|⟨k,K,e,z'⟩
    ·exact .inl q
    ·refine .inr ⟨k,K,e,z'.sameBut f ?_⟩
     rintro rfl
     exact F (fA hN l (I.ok.inj _ _ _ e B▸J))
  ·by_cases Oy:K=c
   ·grind
   ·obtain⟨w2,z2⟩:=I.cell y K e
    exact⟨_,z2.sameBut f Oy⟩
  ·obtain⟨e,n,ne,nf,d⟩:=I.pin p Y
   refine⟨(f.2 p.1 ?_).trans e,n,ne,nf,d⟩
   grind
theorem ld(I:ς X ν σ H s)(b:X.N.Nodup)(c:X.N[i]?=Α x)(d:Hr X.env.scope x)(r:RelV v u)
  (h:∀a,ς X ν (σ.set i (Α v)) H a->Q () a) (e:autoParam (X.fn x=Γ∨X.env.scope.names.lookup x=Α .local) ζ):Ϣ M A (storeName X.env x u) Q E s:=
 nk I b c d r (λa f _=>h a f) e
theorem ς.SQ(I:ς X ν σ H s)(g:s'.os=s.os)(u:Un (vW X.stack) ch H H' s.heap s'.heap)(h:J0 X.prog X.w H' s'.heap)(i:cb s'.gens)
  (j:∀b∈ch,(b∈X.ex∨X.s₀.heap.objs.size<=b)/\b≠X.env.locals/\(∀x c,X.env.cells.lookup x=Α c->c≠b)/\∀p∈X.pn++ν,p.1≠b):ς X ν σ H' s':=by
 obtain⟨h',g',d',t',l⟩:=s'
 have e:=g
 subst e
 exact I.call (g':=g') (t':=t') (d':=d') u h i j
end
abbrev XK:=Φ->Option Ο->Hp->Prop
abbrev St:=List (Option V)
abbrev VK:=V->Hp->Prop
abbrev TE:=St->Hp->VK->Prop
abbrev TT:=St->Hp->(Bool->Hp->Prop)->Prop
abbrev TA:=St->Hp->(List V->Hp->Prop)->Prop
structure mK where
 nx:St->Hp->Prop
 rt:VK
 bk:St->Hp->Prop:=λ_ _=>False
 ct:St->Hp->Prop:=λ_ _=>False
abbrev TS:=mK->St->Hp->Prop
def EP(X:Cx)(ν:List (Ο×Obj))(σ:St)(Q:VK)(u:Φ)(s':ύ):Prop:=∃v H',ς X ν σ H' s'/\RelV v u/\Q v H'
def TP(X:Cx)(ν:List (Ο×Obj))(σ:St)(Q:Bool->Hp->Prop)(b:Bool)(s':ύ):Prop:=∃H',ς X ν σ H' s'/\Q b H'
def AP(X:Cx)(ν:List (Ο×Obj))(σ:St)(Q:List V->Hp->Prop)(us:List Φ)(s':ύ):Prop:=∃vs H',ς X ν σ H' s'/\τ vs us/\Q vs H'
def SP(X:Cx)(ν:List (Ο×Obj))(D:mK)(f:Flow)(s':ύ):Prop:=
 match f with
 |.next=>∃σ' H',ς X ν σ' H' s'/\D.nx σ' H'
 |.brk=>∃σ' H',ς X ν σ' H' s'/\D.bk σ' H'
 |.cont=>∃σ' H',ς X ν σ' H' s'/\D.ct σ' H'
 |.ret u=>∃v σ' H',ς X ν σ' H' s'/\RelV v u/\D.rt v H'
def PE(X:Cx)(e:Expr)(t:TE):Prop:=
 ∀(ν:List (Ο×Obj))(s:ύ)(σ:St)(H:Hp)(Q:VK),ς X ν σ H s->t σ H Q->Ϣ (ϣ X.prog X.w) X.A (eval e X.env) (EP X ν σ Q) X.xe s
def PT(X:Cx)(e:Expr)(t:TT):Prop:=
 ∀(ν:List (Ο×Obj))(s:ύ)(σ:St)(H:Hp)(Q:Bool->Hp->Prop),ς X ν σ H s->t σ H Q->Ϣ (ϣ X.prog X.w) X.A (isTrue e X.env (eval e X.env)) (TP X ν σ Q) X.xe s
def PW(X:Cx)(e:Expr)(t:TT):Prop:=
 ∀(whole:Sem Φ)(ν:List (Ο×Obj))(s:ύ)(σ:St)(H:Hp)(Q:Bool->Hp->Prop),ς X ν σ H s->t σ H Q->Ϣ (ϣ X.prog X.w) X.A (isTrue e X.env whole) (TP X ν σ Q) X.xe s
theorem PW.pt(h:PW X e t):PT X e t:=h _
def PA(X:Cx)(es:List Expr)(t:TA):Prop:=
 ∀(pos:Pos)(ν:List (Ο×Obj))(s:ύ)(σ:St)(H:Hp)(Q:List V->Hp->Prop),ς X ν σ H s->t σ H Q->Ϣ (ϣ X.prog X.w) X.A (spliced (î pos (ϟ es X.env))) (AP X ν σ Q) X.xe s
def PS(X:Cx)(st:ϩ)(t:TS):Prop:=
 ∀(ν:List (Ο×Obj))(s:ύ)(σ:St)(H:Hp)(D:mK),ς X ν σ H s->t D σ H->Ϣ (ϣ X.prog X.w) X.A (exec st X.env) (SP X ν D) X.xe s
def LN(X:Cx)(st:List ϩ)(t:TS):Prop:=
 ∀(ν:List (Ο×Obj))(s:ύ)(σ:St)(H:Hp)(D:mK),ς X ν σ H s->t D σ H->Ϣ (ϣ X.prog X.w) X.A (execs st X.env) (SP X ν D) X.xe s
theorem aY{M:Model}{A:ó}{E:Φ->ύ->Prop}{s:ύ}(h:Ϣ M A t Q E s)(b:∀a s,Q a s->Q' a s):Ϣ M A t Q' E s:=ú h b λ_ _ x=>x
section
theorem tvE{o:Option (Option V)}{F:V->Prop}(h:(o.getD Β).elim False F):∃v,o=Α (Α v)/\F v:=by
 cases o with
 |none=>exact h.elim
 |some o=>
  cases o with
  |none=>exact h.elim
  |some v=>exact⟨v,Κ,h⟩
def oJ(i:Nat):TE:=λσ H Q=>((σ[i]?).getD Β).elim False λv=>Q v H
def tC(v:V):TE:=λ_ H Q=>Q v H
theorem FA(j:X.N[i]?=Α x)(n:X1 X.env.scope x)(d:autoParam ((x == ("__debug__":Str))=Δ) θ)(o:autoParam ((x == ("__classdict__":Str))=Δ) θ):PE X (.Name x pos) (oJ i):=by
 intro b s p H Q I h
 obtain⟨v,e,h⟩:=tvE h
 obtain⟨m,q,t⟩:=I.loc
 obtain⟨u,r,l⟩:=t i x v j e n
 have fin:EP X b p Q u s:=⟨v,H,I,r,h⟩
 rcases l with ⟨a,w⟩|⟨a,c,f,g⟩
 ·exact WX (UC I.ok.kind a q w fin) d
 ·rcases a with a|a
  ·exact WX (Wd I.ok.kind a f g fin) d
  ·exact WX (wpAny_loadName_free I.ok.kind a f g fin o) d
theorem ah:PE X (.Constant (.int i) j pos) (tC (.int i)):=λ_ _ _ H _ I h=>wpAny_Constant_int ⟨.int i,H,I.tok _,⟨_,Κ⟩,h⟩
theorem bY:PE X (.Constant (.bool b) j pos) (tC (.bl b)):=λ_ _ _ H _ I h=>Constant_bool ⟨.bl b,H,I,Κ,h⟩
theorem aT:PE X (.Constant .none j pos) (tC .HU):=λ_ _ _ H _ I h=>Constant_none ⟨.HU,H,I,Κ,h⟩
theorem bA:PE X (.Constant (.str x) j pos) (tC (.str x)):=λ_ _ _ H _ I h=>Calls.Constant_str ⟨.str x,H,I.tok _,⟨_,Κ⟩,h⟩
def Gl(X:Cx)(x:Str):Prop:=X.env.kindOf x=Α .globalImplicit
theorem pD{a:St}(I:ς X ν a H s)(b:Gl X x)(c:X.mg x=Α u)(h:Q u s)
  (d:autoParam ((x == ("__debug__":Str))=Δ) θ):Ϣ (ϣ X.prog X.w) X.A (eval (.Name x pos) X.env) Q E s:=
 y2 I.ok.kind b (Calls.loadGlobal_global (by rw[I.ok.glob];exact I.mod.glob.keeps I.bk) c h) d
theorem dj{a:St}(I:ς X ν a H s)(b:Gl X x)(c:X.mg x=Β)(d:Ă x=Α u)(h:Q u s)
  (e:autoParam (x≠ "__name__") θ) (f:autoParam ((x == ("__debug__":Str))=Δ) θ):Ϣ (ϣ X.prog X.w) X.A (eval (.Name x pos) X.env) Q E s:=by
 obtain⟨j,g,i⟩:=I.mod.blt
 exact y2 I.ok.kind b (Calls.loadGlobal_builtin (by rw[I.ok.glob];exact I.mod.glob.keeps I.bk) c (by rw[I.ok.blt];exact g.keeps I.bk) ((i x e).trans d) h) f
theorem fT(a:Gl X x)(b:X.mg x=Α u)(r:RelV v u)(c:autoParam ((x == ("__debug__":Str))=Δ) θ):PE X (.Name x pos) (tC v):=
 λ_ _ _ H _ I h=>pD I a b ⟨v,H,I,r,h⟩ c
theorem du(a:Gl X x)(b:X.mg x=Β)(c:Ă x=Α u)(r:RelV v u)(d:autoParam (x≠ "__name__") θ)(e:autoParam ((x == ("__debug__":Str))=Δ) θ):PE X (.Name x pos) (tC v):=
 λ_ _ _ H _ I h=>dj I a b c ⟨v,H,I,r,h⟩ d e
def PC(X:Cx)(op:CmpOp)(a b:Expr)(t:TE):Prop:=
 ∀(ν:List (Ο×Obj))(s:ύ)(σ:St)(H:Hp)(Q:VK),ς X ν σ H s->t σ H Q->
  Ϣ (ϣ X.prog X.w) X.A (eval a X.env) (λv s₁=>Ϣ (ϣ X.prog X.w) X.A (eval b X.env) (λu s₂=>Ϣ (ϣ X.prog X.w) X.A (compareOp op v u) (EP X ν σ Q) X.xe s₂) X.xe s₁) X.xe s
inductive Uaa(Q:Bool->Hp->Prop)(x:V)(H1:Hp):Prop
 |mk (c)(_:x=.bl c)(_:Q c H1)
def tB(t:TE):TT:=λσ H Q=>t σ H λx H1=>Uaa Q x H1
theorem zx(h:PC X op a b t)(d:Ġ op b=Δ:=by first|exact N7 _ (by decide) (by decide)|rfl):PE X (.Compare a [op] [b] pos) t:=λc s e H Q I f=>wpAny_Compare1 (h c s e H Q I f) d
theorem jE(h:PC X op a b t)(f:Ġ op b=Δ:=by first|exact N7 _ (by decide) (by decide)|rfl):PT X (.Compare a [op] [b] pos) (tB t):=by
 intro e s g H Q I i
 refine TF (aY (h e s g H _ I i) λv r f=>aY f λu w j=>aY j λc y l=>?_) f
 obtain⟨x,m,n,o,p⟩:=l
 obtain⟨d,rfl,q⟩:=p
 cases o
 exact ß ⟨m,n,q⟩
theorem aQ(h:PE X e t)(g:autoParam (∀c,isTrue e X.env c=(do let v ← c;kz e.pos;ŵ [v] (truthy v))) ψ):PT X e (tB t):=by
 intro f s i H Q I j
 refine isTrue_plain (aY (h f s i H _ I j) λv r l=>?_) (g _)
 obtain⟨x,m,n,o,p⟩:=l
 obtain⟨d,rfl,q⟩:=p
 cases o
 exact ß ⟨m,n,q⟩
def YZ(t u:TT):TT:=λσ H Q=>t σ H λc H1=>if c=Γ then u σ H1 Q else Q Δ H1
def tOr(t u:TT):TT:=λσ H Q=>t σ H λc H1=>if c=Γ then Q Γ H1 else u σ H1 Q
def Za(t:TT):TT:=λσ H Q=>t σ H λc H1=>Q (!c) H1
theorem jh(f:PT X a tA):PW X (.BoolOp .And [a] pos) tA:=by
 intro i d s g H Q I h
 refine isTrue_and (aY (f d s g H Q I h) λc j e=>?_)
 cases c with
 |true=>exact isTrue_and_nil e
 |false=>exact e
theorem bT(f:PT X a tA):PW X (.BoolOp .Or [a] pos) tA:=by
 intro i d s g H Q I h
 refine isTrue_or (aY (f d s g H Q I h) λc j e=>?_)
 cases c with
 |false=>exact isTrue_or_nil e
 |true=>exact e
theorem lA(j:PT X a tA)(l:PW X (.BoolOp .And (b:: rest) pos) X3):PW X (.BoolOp .And (a:: b:: rest) pos) (YZ tA X3):=by
 intro m d s e H Q I h
 refine isTrue_and (aY (j d s e H _ I h) λc n o=>?_)
 obtain⟨f,g,i⟩:=o
 cases c with
 |true=>exact l m d n e f Q g i
 |false=>exact⟨f,g,i⟩
theorem c9(j:PT X a tA)(l:PW X (.BoolOp .Or (b:: rest) pos) X3):PW X (.BoolOp .Or (a:: b:: rest) pos) (tOr tA X3):=by
 intro m d s e H Q I h
 refine isTrue_or (aY (j d s e H _ I h) λc n o=>?_)
 obtain⟨f,g,i⟩:=o
 cases c with
 |true=>exact⟨f,g,i⟩
 |false=>exact l m d n e f Q g i
theorem ba(e:PT X a tA):PT X (.UnaryOp .Not a pos) (Za tA):=by
 intro d s f H Q I h
 exact isTrue_not (e d s f H (λc g=>Q (!c) g) I h)
inductive Uab(tb:TE)(σ:St)(Q:VK)(x:V)(H1:Hp):Prop
 |mk (c)(_:x=.bl c)(_:if c=Γ then tb σ H1 Q else Q (.bl Δ) H1)
def SR(ta tb:TE):TE:=λσ H Q=>ta σ H λx H1=>Uab tb σ Q x H1
inductive Uac(tb:TE)(σ:St)(Q:VK)(x:V)(H1:Hp):Prop
 |mk (c)(_:x=.bl c)(_:if c=Γ then Q (.bl Γ) H1 else tb σ H1 Q)
def Zb(ta tb:TE):TE:=λσ H Q=>ta σ H λx H1=>Uac tb σ Q x H1
inductive Uad(Q:VK)(x:V)(H1:Hp):Prop
 |mk (c)(_:x=.bl c)(_:Q (.bl (!c)) H1)
def SS(ta:TE):TE:=λσ H Q=>ta σ H λx H1=>Uad Q x H1
theorem cP(h:PE X a t):PE X (.BoolOp op [a] pos) t:=λc s d H Q I e=>BoolOp_one (h c s d H Q I e)
theorem cv(j:PE X a ta)(l:PE X (.BoolOp .And (b:: rest) pos) tb):PE X (.BoolOp .And (a:: b:: rest) pos) (SR ta tb):=by
 intro d s f H Q I h
 refine BoolOp_and (aY (j d s f H _ I h) λv m n=>?_)
 obtain⟨x,g,i,o,e⟩:=n
 obtain⟨c,rfl,e⟩:=e
 cases o
 refine ß ?_
 cases c with
 |true=>exact l d m f g Q i e
 |false=>exact⟨.bl Δ,g,i,Κ,e⟩
theorem SU(j:PE X a ta)(l:PE X (.BoolOp .Or (b:: rest) pos) tb):PE X (.BoolOp .Or (a:: b:: rest) pos) (Zb ta tb):=by
 intro d s f H Q I h
 refine BoolOp_or (aY (j d s f H _ I h) λv m n=>?_)
 obtain⟨x,g,i,o,e⟩:=n
 obtain⟨c,rfl,e⟩:=e
 cases o
 refine ß ?_
 cases c with
 |false=>exact l d m f g Q i e
 |true=>exact⟨.bl Γ,g,i,Κ,e⟩
theorem tD(f:PE X a ta):PE X (.UnaryOp .Not a pos) (SS ta):=by
 intro d s g H Q I h
 refine UnaryOp_ (aY (f d s g H _ I h) λv n i=>?_)
 obtain⟨x,j,l,m,e⟩:=i
 obtain⟨c,rfl,e⟩:=e
 cases m
 exact not_of (ß ⟨.bl (!c),j,l,Κ,e⟩)
def tIf(t:TT)(ta tb:TE):TE:=λσ H Q=>t σ H λc H1=>if c=Γ then ta σ H1 Q else tb σ H1 Q
theorem dC(m:PT X c tA)(n:PE X a ta)(o:PE X b tb):PE X (.IfExp c a b pos) (tIf tA ta tb):=by
 intro e s f H Q I h
 refine wpAny_IfExp (aY (m e s f H _ I h) λd g p=>?_)
 obtain⟨i,j,l⟩:=p
 cases d with
 |true=>exact n e g f i Q j l
 |false=>exact o e g f i Q j l
end
def HC(K:ϧ)(H:Hp)(a:Ο)(xs:List V):Prop:=
 Rd H a (.π xs)∨
  ∃(o:Obj)(HI:Array Φ)(n:Nat),K.lookup a=Α o/\o.cls=.type "list"/\o.dict=Β/\o.data=.seq HI n/\HI.size<=Χ/\τ xs HI.toList
def HF(K:ϧ)(H:Hp)(a:Ο)(xs:List V):Prop:=
 Rd H a (.tup xs)∨
  ∃(o:Obj)(HI:Array Φ)(n:Nat),K.lookup a=Α o/\o.cls=.type "tuple"/\o.data=.seq HI n/\HI.size<=Χ/\τ xs HI.toList
noncomputable def Zc:Φ->Option V
 |.none=>Α .HU
 |.bool b=>Α (.bl b)
 |.int i _=>Α (.int i)
 |.str x _=>Α (.str x)
 |.bytes b _=>Α (.Mz b)
 |.float b _=>Α (.QC b)
 |.ref a=>Α (.ref a)
 |.type n=>Α (.ty n)
 |_=>Β
theorem RelV.abs(r:RelV x u):Zc u=Α x:=by
 cases x with
 |HU=>cases r;rfl
 |bl _=>cases r;rfl
 |int _=>obtain⟨t,rfl⟩:=r;rfl
 |str _=>obtain⟨t,rfl⟩:=r;rfl
 |Mz _=>obtain⟨t,rfl⟩:=r;rfl
 |QC _=>obtain⟨t,rfl⟩:=r;rfl
 |ref _=>cases r;rfl
 |ty _=>cases r;rfl
theorem RelV.inj(r:RelV x u)(q:RelV y u):x=y:=ϋ (r.abs.symm.trans q.abs)
theorem τ.inj:∀{xs a:List V}{us:List Φ},τ xs us->τ a us->xs=a
 |_,_,_,.nil,.nil=>rfl
 |_,_,_,.cons r t,.cons r' t'=>by rw[r.inj r',τ.inj t t']
section
variable {X:Cx}{ν:List (Ο×Obj)}{σ:St}{H:Hp}{s:ύ}{a:Ο}{xs ys:List V}
theorem HC.of{K:ϧ}(h:H a=Α (.π xs)):HC K H a xs:=.inl (.inl h)
theorem HF.of{K:ϧ}(h:H a=Α (.tup xs)):HF K H a xs:=.inl (.inl h)
theorem ς.list(I:ς X ν σ H s)(h:HC X.K H a xs):∃b:List Φ,τ xs b/\PlainL s.heap a b.toArray/\xs.length<=Χ:=by
 rcases h with h|⟨o,b,n,c,d,f,g,i,r⟩
 ·obtain⟨z,b,n,r,e⟩:=h.ok I.HK
  exact⟨b,r,⟨_,n,e,Κ,Κ,Κ⟩,z⟩
 ·refine⟨_,r,⟨o,n,I.JI a o c,d,f,by simpa using g⟩,?_⟩
  have e:=r.length
  grind
theorem ς.tuple(I:ς X ν σ H s)(h:HF X.K H a xs):∃b:List Φ,τ xs b/\IsTup s.heap a b.toArray/\xs.length<=Χ:=by
 rcases h with h|⟨o,b,n,c,d,f,g,r⟩
 ·obtain⟨z,b,r,p⟩:=h.ok I.HK
  exact⟨b,r,p.isTup,z⟩
 ·refine⟨_,r,⟨o,I.JI a o c,d,n,by simpa using f⟩,?_⟩
  have e:=r.length
  grind
theorem ς.Jn(I:ς X ν σ H s)(h:HC X.K H a xs)(g:HC X.K H a ys):xs=ys:=by
 obtain⟨i,r,⟨o,n,e,_,_,d⟩,_⟩:=I.list h
 obtain⟨b,j,⟨l,m,c,_,_,f⟩,_⟩:=I.list g
 rw[e]at c;cases c
 rw[d]at f
 injection f with p _
 have:i=b:=by grind
 subst this
 exact r.inj j
theorem ς.KH(I:ς X ν σ H s)(h:HF X.K H a xs)(g:HF X.K H a ys):xs=ys:=by
 obtain⟨i,r,⟨o,e,_,n,d⟩,_⟩:=I.tuple h
 obtain⟨b,j,⟨l,c,_,m,f⟩,_⟩:=I.tuple g
 rw[e]at c;cases c
 rw[d]at f
 injection f with p _
 have:i=b:=by grind
 subst this
 exact r.inj j
end
abbrev Cx.K5(X:Cx)(E:Φ->ύ->Prop):Cx:={X with xe:=E}
abbrev Cx.Sb(X:Cx):Cx:=X.K5 λ_ _=>False
theorem Cx.Ok.K5{X:Cx}(ok:X.Ok)(E:Φ->ύ->Prop):(X.K5 E).Ok:=
 ⟨ok.mod,ok.kind,ok.glob,ok.blt,ok.above,ok.inj,ok.has,ok.SM,ok.hd,ok.frames,ok.X2,ok.exf,ok.bs,ok.OH,ok.N5,ok.OI,ok.JY,ok.QE⟩
theorem Cx.Ok.Jo{X:Cx}(ok:(X.K5 E).Ok):X.Ok:=
 ⟨ok.mod,ok.kind,ok.glob,ok.blt,ok.above,ok.inj,ok.has,ok.SM,ok.hd,ok.frames,ok.X2,ok.exf,ok.bs,ok.OH,ok.N5,ok.OI,ok.JY,ok.QE⟩
section
variable {X:Cx}{ν:List (Ο×Obj)}{σ:St}{H:Hp}{s:ύ}{E:Φ->ύ->Prop}
theorem ς.K5(I:ς X ν σ H s)(E:Φ->ύ->Prop):ς (X.K5 E) ν σ H s:=⟨I.ok.K5 E,I.os,I.bare,I.μ,I.loc,I.cell,I.free,I.IC,I.pin,I.HK,I.len⟩
theorem ς.Jo(I:ς (X.K5 E) ν σ H s):ς X ν σ H s:=⟨I.ok.Jo,I.os,I.bare,I.μ,I.loc,I.cell,I.free,I.IC,I.pin,I.HK,I.len⟩
theorem SP.Jo(h:SP (X.K5 E) ν D f s'):SP X ν D f s':=by
 cases f with
 |next=>obtain⟨a,b,I,q⟩:=h;exact⟨a,b,I.Jo,q⟩
 |brk=>obtain⟨a,b,I,q⟩:=h;exact⟨a,b,I.Jo,q⟩
 |cont=>obtain⟨a,b,I,q⟩:=h;exact⟨a,b,I.Jo,q⟩
 |ret u=>obtain⟨v,a,b,I,r,q⟩:=h;exact⟨v,a,b,I.Jo,r,q⟩
theorem LN.Sb{st:List ϩ}(h:LN X.Sb st t):LN X st t:=λν s σ H D I a =>
 ú (h ν s σ H D (I.K5 _) a) (λ_ _ q=>q.Jo) λ_ _ z=>ð z
end
section
variable {X:Cx}{st:ϩ}{rest:List ϩ}{t u:TS}{e:Expr}{te:TE}{pos:Pos}
def SV:TS:=λD σ H=>D.nx σ H
def Zd(t u:TS):TS:=λD σ H=>t {D with nx:=u D} σ H
theorem ar:LN X [] SV:=λ_ _ a H _ I h=>ec ⟨a,H,I,h⟩
theorem ac(c:PS X st t)(d:LN X rest u):LN X (st:: rest) (Zd t u):=by
 intro a s g H D I h
 refine wpAny_execs_cons (aY (c a s g H {D with nx:=u D} I h) λf i q=>?_)
 cases f with
 | next =>
  obtain⟨b,j,l,q⟩:=q
  exact d a i b j D l q
 |ret v=>exact q
 |brk=>exact q
 |cont=>exact q
theorem af(b:PS X st t):LN X [st] t:=by
 intro a s c H D I h
 refine wpAny_execs_cons (aY (b a s c H D I h) λf d q=>?_)
 cases f with
 |next=>exact ec q
 |ret v=>exact q
 |brk=>exact q
 |cont=>exact q
theorem ς.quiet{a:St}(I:ς X ν a H s):interactive X.env=Δ:=by simp[interactive,I.ok.kind]
def SW(te:TE):TS:=λD σ H=>te σ H λ_ H1=>D.nx σ H1
theorem aF(c:PE X e te)(d:autoParam (ż e Β pos.line X.env=pure Δ) η):PS X (.Expr e pos) (SW te):=by
 intro a s b H D I h
 exact wpAny_Expr_any (aY (c a s b H _ I h) λv l f=>by obtain⟨x,g,i,m,j⟩:=f;exact⟨b,g,i,j⟩) I.quiet d
def Ze(te:TE):TS:=λD σ H=>te σ H D.rt
theorem ao(c:PE X e te):PS X (.Return (Α e) pos) (Ze te):=by
 intro a s b H D I h
 exact wpAny_Return_some (aY (c a s b H _ I h) λv l d=>by obtain⟨x,f,g,i,j⟩:=d;exact⟨x,b,f,g,i,j⟩)
def Zf(c:TT)(t u:TS):TS:=λD σ H=>c σ H λb H1=>if b=Γ then t D σ H1 else u D σ H1
theorem aC(n:PT X c tc)(o:LN X a t)(p:LN X b u):PS X (.If c a b pos) (Zf tc t u):=by
 intro f s g H D I h
 refine wpAny_If (aY (n f s g H _ I h) λd i q=>?_)
 obtain⟨j,l,m⟩:=q
 cases d with
 |true=>exact o f i g j D l m
 |false=>exact p f i g j D l m
def ET:TS:=λ_ _ _=>False
theorem b7:PS X st ET:=λ_ _ _ _ _ _ h=>h.elim
end
abbrev TG:=V->St->Hp->(St->Hp->Prop)->Prop
abbrev Hn:=List V->St->Hp->(St->Hp->Prop)->Prop
def PG(X:Cx)(target:Expr)(t:TG):Prop:=
 ∀(ν:List (Ο×Obj))(s:ύ)(σ:St)(H:Hp)(v:V)(u:Φ)(Q:St->Hp->Prop),ς X ν σ H s->RelV v u->t v σ H Q->
  Ϣ (ϣ X.prog X.w) X.A (assign target X.env u) (λ_ s'=>∃σ' H',ς X ν σ' H' s'/\Q σ' H') X.xe s
def X4(X:Cx)(ts:List Expr)(t:Hn):Prop:=
 ∀(ν:List (Ο×Obj))(s:ύ)(σ:St)(H:Hp)(vs:List V)(us:List Φ)(Q:St->Hp->Prop),ς X ν σ H s->τ vs us->t vs σ H Q->
  Ϣ (ϣ X.prog X.w) X.A (assignInOrder ((bh ts X.env).map (·.2)) us) (λ_ s'=>∃σ' H',ς X ν σ' H' s'/\Q σ' H') X.xe s
abbrev Hm:=V->V->V->Hp->(Hp->Prop)->Prop
def SX(X:Cx)(t:Hm):Prop:=
 ∀(ν:List (Ο×Obj))(s:ύ)(σ:St)(H:Hp)(o i v:V)(ov iv u:Φ)(Q:Hp->Prop),ς X ν σ H s->RelV o ov->RelV i iv->RelV v u->t o i v H Q->
  Ϣ (ϣ X.prog X.w) X.A (setItem ov iv u) (λ_ s'=>∃H',ς X ν σ H' s'/\Q H') X.xe s
abbrev X5:=V->V->Hp->VK->Prop
def PIp(X:Cx)(op:Operator)(t:X5):Prop:=
 ∀(ν:List (Ο×Obj))(s:ύ)(σ:St)(H:Hp)(x y:V)(v u:Φ)(Q:VK),ς X ν σ H s->RelV x v->RelV y u->t x y H Q->
  Ϣ (ϣ X.prog X.w) X.A (inplaceOp op v u) (EP X ν σ Q) X.xe s
section
def cr(i:Nat):TG:=λv σ H Q=>Q (σ.set i (Α v)) H
theorem jj(b:X.N.Nodup)(c:X.N[i]?=Α x)(d:Hr X.env.scope x)(e:autoParam (X.fn x=Γ∨X.env.scope.names.lookup x=Α .local) ζ):PG X (.Name x pos) (cr i):=by
 intro a s g H v u Q I r h
 exact Ya (ld I b c d r (λj f=>⟨_,H,f,h⟩) e)
noncomputable def Zg:Hn:=λvs σ H Q=>vs=[]/\Q σ H
noncomputable def SY(t:TG)(u:Hn):Hn:=λvs σ H Q=>∃v r,vs=v:: r/\t v σ H λσ' H'=>u r σ' H' Q
theorem bz:X4 X [] Zg:=by
 intro a s b H c us Q I r h
 obtain⟨e,h⟩:=h
 subst e
 cases r
 exact assignInOrder_nil ⟨b,H,I,h⟩
theorem av(c:PG X e t)(d:X4 X es u)
  (f:autoParam ((bh (e:: es) X.env).map (·.2)=assign e X.env:: (bh es X.env).map (·.2)) η):X4 X (e:: es) (SY t u):=by
 intro a s g H q us Q I r h
 obtain⟨v,w,i,h⟩:=h
 subst i
 cases r with
 | cons r j =>
  rw[f]
  refine assignInOrder_cons (aY (c a s g H _ _ _ I r h) λ_ l m=>?_)
  obtain⟨b,n,o,p⟩:=m
  exact d a l b n _ _ Q o j p
inductive tW(K:ϧ)(n:Nat)(t:Hn)(v:V)(σ:St)(H:Hp)(Q:St->Hp->Prop):Prop
 |mk (a xs)(_:v=.ref a)(_:HF K H a xs)(_:xs.length=n)(_:t xs σ H Q)
theorem bO(i:X.calm=Γ)(h:X4 X es t)
  (j:autoParam ((bh es X.env).length=n) η) (l:autoParam ((bh es X.env).findIdx? (·.1)=Β) η):PG X (.Tuple es k pos) (tW X.K n t):=by
 intro c s f H v u Q I r d
 obtain⟨a,xs,m,p,q,d⟩:=d
 subst m
 cases r
 obtain⟨B,w,x,C⟩:=I.tuple p
 refine assign_Tuple_tuple (I.ok.hd i) x (by simp[j,←q,w.length]) l λy z=>?_
 have A:=I.kept (t':=s.toks) λb o e=>z b o (ϳ (lt_size e)) e
 exact h c _ f H xs _ Q A (by grind) d
def Zh(to ti:TE)(t:Hm):TG:=λv σ H Q=>to σ H λo H1=>ti σ H1 λi H2=>t o i v H2 λH3=>Q σ H3
theorem pw(f:PE X o to)(g:PE X i ti)(j:SX X t)
  (l:∀v,assign (.Subscript o i pos) X.env v=(do
   let b ← ŵ [v] (eval o X.env)
   let c ← ŵ [v,b] (eval i X.env)
   kz pos
   ŵ [v,b,c] (setItem b c v)
   release [v,b,c] []):=by intro _;rfl):PG X (.Subscript o i pos) (Zh to ti t):=by
 intro a s e H v u Q I r h
 rw[l]
 refine Μ (Ŕ (aY (f a s e H _ I h) λb m d=>?_))
 obtain⟨x,n,p,q,w⟩:=d
 refine Μ (Ŕ (aY (g a m e n _ p w) λc z d=>?_))
 obtain⟨y,A,B,C,D⟩:=d
 refine Μ (Ph (Μ (Ŕ (aY (j a z e A x y v b c u _ B q C r D) λ_ J d=>?_))))
 obtain⟨E,F,G⟩:=d
 exact wpAny_release ⟨e,E,F,G⟩
def BG(te:TE)(g:TG):TS:=λD σ H=>te σ H λx H1=>g x σ H1 D.nx
theorem gN(c:PE X e te)(d:PG X tg g)(f:autoParam (swapsWithSole [tg] e pos.line X.env=pure Δ) η)(i:autoParam (swappedStores [tg] e X.env=pure Β) η)
  (j:autoParam ((bh [tg] X.env).map (·.2)=[assign tg X.env]) η):PS X (.Assign [tg] e pos) (BG te g):=by
 intro a s b H D I h
 refine wpAny_Assign_stores (aY (c a s b H _ I h) λv l m=>?_) f i
 obtain⟨x,n,o,p,r⟩:=m
 rw[j]
 exact aY (d a l b n x v _ o p r) λ_ t q=>q
theorem fR(b:X.N.Nodup)(c:X.N[i]?=Α x)(d:Hr X.env.scope x)(f:PE X e te)(g:autoParam (ż e (Α (.Name x pos')) pos.line X.env=pure Δ) η)(j:autoParam (X.fn x=Γ∨X.env.scope.names.lookup x=Α .local) ζ):
  PS X (.Assign [.Name x pos'] e pos) (BG te (cr i)):=by
 intro a s l H D I h
 refine wpAny_Assign_Name (aY (f a s l H _ I h) λv t m=>?_) g
 obtain⟨y,n,o,p,q⟩:=m
 exact ld o b c d p (λu r=>⟨_,n,r,q⟩) j
def Zi(i:Nat)(te:TE)(ti:X5):TS:=λD σ H=>((σ[i]?).getD Β).elim False λx=>te σ H λy H1=>ti x y H1 λz H2=>D.nx (σ.set i (Α z)) H2
theorem pi(t:X.N.Nodup)(o:X.N[i]?=Α x)(g:Hr X.env.scope x)(B:PE X e te)(C:PIp X op ti)(E:autoParam (X.fn x=Γ∨X.env.scope.names.lookup x=Α .local) ζ):
  PS X (.AugAssign (.Name x pos') op e pos) (Zi i te ti):=by
 intro a s p H D I h
 obtain⟨v,F,h⟩:=tvE h
 obtain⟨m,G,J⟩:=I.loc
 have j:X1 X.env.scope x:=by rcases g with k|k;exact .inl k;exact .inr (.inl k)
 obtain⟨u,r,l⟩:=J i x v o F j
 refine wpAny_AugAssign_Name ?_
 have q:Ϣ (ϣ X.prog X.w) X.A (eval e X.env) (λw d=>Ϣ (ϣ X.prog X.w) X.A (inplaceOp op u w) (λr f=>Ϣ (ϣ X.prog X.w) X.A (storeName X.env x r) (λ_=>SP X a D .next) X.xe f) X.xe d) X.xe s:=by
  refine aY (B a s p H _ I h) λw K n=>?_
  obtain⟨y,L,M,O,P⟩:=n
  refine aY (C a K p L v y u w _ M r O P) λz s2 n=>?_
  obtain⟨zv,Q,R,S,T⟩:=n
  exact ld R t o g S (λs3 U=>⟨_,Q,U,T⟩) E
 rcases l with ⟨b,Y⟩|⟨b,c,Z,M3⟩
 ·exact UC I.ok.kind b G Y q
 ·rcases b with b|b
  ·exact Wd I.ok.kind b Z M3 q
  ·rcases g with k|k
   ·have:X.env.scope.names.lookup x=Α .free:=b
    grind
   ·have:X.env.scope.names.lookup x=Α .free:=b
    grind
noncomputable def ipI(f:Int->Int->Int):X5:=λx y H Q=>∃i j,x=.int i/\y=.int j/\Q (.int (f i j)) H
theorem pJ:PIp X .Add (ipI λi j=>i+j):=by
 intro a s f H x y v u Q I b c h
 obtain⟨i,j,d,e,q⟩:=h
 subst d;subst e
 obtain⟨t,rfl⟩:=b
 obtain⟨g,rfl⟩:=c
 exact iadd_int ⟨.int _,H,I.tok _,⟨_,Κ⟩,q⟩
end
section
def EN(c:TT)(tb:TS):TS:=λD σ H=>∃W:Nat->St->Hp->Prop,(∃m,W m σ H)/\∀m σ H,W m σ H->
 c σ H λb H1=>if b=Γ then ∃N:St->Hp->Prop,(∀σ' H',N σ' H'->∃m',m'< m/\W m' σ' H')/\tb {D with nx:=N,ct:=N,bk:=D.nx} σ H1 else D.nx σ H1
theorem dS(u:PassesOwn (ϣ X.prog X.w) X.A X.env X.xe)(E:PT X c tc)(F:LN X body tb):PS X (.While c body [] pos) (EN tc tb):=by
 intro a s G H D I h
 obtain⟨W,⟨J,K⟩,g⟩:=h
 refine wpAny_While (codeAny_whileLoop (λn L=>∃i x,ς X a i x L/\W n i x) ?_ J ⟨G,H,I,K⟩)
 rintro n M ⟨e,y,O,P⟩
 refine ğ u (aY (E a M e y _ O (g n e y P)) λb Q R=>?_)
 obtain⟨z,B,l⟩:=R
 cases b with
 | true =>
  obtain⟨N,C,l⟩:=l
  rw[Θ Κ]
  refine ğ u (aY (F a Q e z _ B l) λf S m=>?_)
  cases f with
  | next =>
   obtain⟨d,j,o,p⟩:=m
   obtain⟨q,r,t⟩:=C d j p
   exact⟨q,r,d,j,o,t⟩
  | cont =>
   obtain⟨d,j,o,p⟩:=m
   obtain⟨q,r,t⟩:=C d j p
   exact⟨q,r,d,j,o,t⟩
  |brk=>exact m
  |ret v=>exact m
 | false =>
  rw[Η Ϟ]
  exact ec ⟨e,z,B,l⟩
end
structure It where
 go:Nat->Hp->Prop
 Ni:Nat->Hp->V->Hp->Prop
 stop:Nat->Hp->Prop
def gw(X:Cx)(ν:List (Ο×Obj))(H:Hp)(b:Ο):Prop:=
 H b=Β/\b≠X.env.locals/\b∉X.fs/\(b∈X.ex∨X.s₀.heap.objs.size<=b)/\(∀x c,X.env.cells.lookup x=Α c->c≠b)/\∀p∈X.pn++ν,p.1≠b
theorem ς.Lz{d:St}{b:Ο}(I:ς X ν d H s)(a:s.heap.objs.size<=b)(f:H' b=Β):gw X ν H' b:=by
 refine⟨f,ű (Ϝ I.lt a),I.YT a,.inr (Í I.sz a),λx c e z=>?_,λp g z=>?_⟩
 ·obtain⟨v,q⟩:=I.cell x c e
  exact Ι (Ϝ q.lt (by rw[z];exact a)) (ı _)
 ·exact Ι (Ϝ (lt_size (I.pin p g).1) (by rw[z];exact a)) (ı _)
structure mY(P:Program)(w:Å)(K:ϧ)(tg:Expr)(J:It)(fp:List Ο)(it:Ο)(tn:Nat->Ó->Prop):Prop where
 mem:it∈fp
 obj:∀i h,tn i h->∀b∈fp,∃o,h.get? b=Α o/\∀v,o.data≠.cell v
 keep:∀i h h',tn i h->(∀b∈fp,∀o,h.get? b=Α o->h'.get? b=Α o)->tn i h'
 item:∀(X:Cx),X.prog=P->X.w=w->X.K=K->X.calm=Γ->∀(i:Nat)(ν:List (Ο×Obj))(s:ύ)(σ:St)(H:Hp)(E:Φ->ύ->Prop),ς X ν σ H s->(∀b∈fp,gw X ν H b)->tn i s.heap->J.go i H->
  Ϣ (ϣ P w) X.A (pyNext (.ref it)) (λr s1=>∃u,r=Α u/\
   Ϣ (ϣ P w) X.A (ş tg (.ref it) u) (λ_ s2=>∃x H',ς X ν σ H' s2/\RelV x u/\J.Ni i H x H'/\tn (i+1) s2.heap/\∀b∈fp,H' b=Β) E s1) E s
 done:∀(X:Cx),X.prog=P->X.w=w->X.K=K->X.calm=Γ->∀(i:Nat)(ν:List (Ο×Obj))(s:ύ)(σ:St)(H:Hp)(E:Φ->ύ->Prop),ς X ν σ H s->(∀b∈fp,gw X ν H b)->tn i s.heap->J.stop i H->
  Ϣ (ϣ P w) X.A (pyNext (.ref it)) (λr s1=>r=Β/\ς X ν σ H s1) E s
 self:∀(A:ó)(i:Nat)(s:ύ)(Q:Φ->ύ->Prop)(E:Φ->ύ->Prop),tn i s.heap->Q (.ref it) s->Ϣ (ϣ P w) A (pyIter (.ref it)) Q E s
abbrev TI:=St->Hp->(It->Hp->Prop)->Prop
def PIE(X:Cx)(ν:List (Ο×Obj))(σ:St)(tg:Expr)(R:It->Hp->Prop)(X6:Φ)(s2:ύ):Prop:=
 ∃(it:Ο)(fp:List Ο)(tn:Nat->Ó->Prop)(J:It)(H':Hp),X6=.ref it/\ς X ν σ H' s2/\mY X.prog X.w X.K tg J fp it tn/\tn 0 s2.heap/\(∀b∈fp,gw X ν H' b)/\R J H'
def PI(X:Cx)(tg iter:Expr)(wi:TI):Prop:=
 ∀(ν:List (Ο×Obj))(s:ύ)(σ:St)(H:Hp)(R:It->Hp->Prop),ς X ν σ H s->wi σ H R->
  Ϣ (ϣ X.prog X.w) X.A (eval iter X.env) (λv s1=>Ϣ (ϣ X.prog X.w) X.A (pyIter v) (PIE X ν σ tg R) X.xe s1) X.xe s
theorem vU(b:s.heap.get? it=Α o)(c:o.cls=.type n)(d:o.data=.fields vs)
  (e:["enumerate","zip","dict_itemiterator","dict_reverseitemiterator","odict_iterator","itertools.zip_longest","itertools.pairwise"].contains n=Δ) (a:Q () s):Ϣ M A (ş tg (.ref it) u) Q E s:=by
 unfold ş
 cases tg<;>first
  |exact Ϙ a
  | (cases u<;>first
    |exact Ϙ a
    | (refine Μ (wpAny_load b ?_)
       rw[c,d]
       show Ϣ M A (if (["enumerate","zip","dict_itemiterator","dict_reverseitemiterator","odict_iterator","itertools.zip_longest","itertools.pairwise"].contains n&& vs[0]? == Α (gg _))=Γ then _ else _) Q E s
       rw[Η (by grind)]
       exact Ϙ a))
noncomputable def B7(K:ϧ)(a:Ο):It:=
 ⟨λi H=>∃xs x,HC K H a xs/\xs[i]?=Α x,λi H x H'=>H'=H/\∀xs,HC K H a xs->xs[i]?=Α x,λi H=>∃xs,HC K H a xs/\xs.length<=i⟩
noncomputable def EJ(K:ϧ)(a:Ο):It:=
 ⟨λi H=>∃xs x,HF K H a xs/\xs[i]?=Α x,λi H x H'=>H'=H/\∀xs,HF K H a xs->xs[i]?=Α x,λi H=>∃xs,HF K H a xs/\xs.length<=i⟩
noncomputable def B4(lo:Int)(n:Nat):It:=⟨λi _=>i<n,λi H x H'=>H'=H/\x=.int (lo+i),λi _=>n<=i⟩
theorem w8{K:ϧ}(a it:Ο):mY P w K tg (B7 K a) [it] it (λi h=>h.IsListIter it a i) where
 mem:=by simp
 obj:=λi h st b g=>by
  have e:b=it:=by simpa using g
  subst e
  obtain⟨o,e,c,d⟩:=st
  exact⟨o,e,λv z=>by rw[d]at z;cases z⟩
 keep:=λi h l st k=>st.at λo e=>k it (by simp) o e
 item:=by
  intro X q r t L i f s M H E I m st y
  subst q r t
  obtain⟨xs,x,n,A⟩:=y
  obtain⟨O,B,p,Q⟩:=I.list n
  obtain⟨u,R,S⟩:=B.get A
  obtain⟨C,D,T,F,G,J⟩:=m it (by simp)
  refine wpAny_pyNext_list_item st p.isList (x:=u) (by simpa using R) λl N U=>?_
  have Y:=I.turned (t':=s.toks) (λb o g e=>(U.2 b g).trans e) C D F G J
  obtain⟨o,e,c,d⟩:=id N
  exact⟨u,Κ,vU (s:={s with heap:=l}) e c d (by decide) ⟨x,H,Y,S,⟨Κ,λys Z=>by rw[I.Jn Z n];exact A⟩,N,λb g=>(m b g).1⟩⟩
 done:=by
  intro X q r t L i f s M H E I m st y
  subst q r t
  obtain⟨xs,n,A⟩:=y
  obtain⟨O,B,p,Q⟩:=I.list n
  obtain⟨C,D,T,F,G,J⟩:=m it (by simp)
  have hl:=B.length
  exact wpAny_pyNext_list_end (I.ok.hd L) st p.isList (by simp;lia) λl eb=>⟨Κ,I.turned (t':=s.toks) (λb o g e=>eb b o g e) C D F G J⟩
 self:=λ_ _ _ _ _ st h=>wpAny_pyIter_listiter st h
theorem sD{K:ϧ}(a it:Ο):mY P w K tg (EJ K a) [it] it (λi h=>h.IsTupleIter it a i) where
 mem:=by simp
 obj:=λi h st b g=>by
  have e:b=it:=by grind
  subst e
  obtain⟨o,e,c,d⟩:=st
  grind
 keep:=λi h l st k=>st.at λo e=>k it (by simp) o e
 item:=by
  intro X q r t J i f s L H E I m st v
  subst q r t
  obtain⟨xs,x,n,y⟩:=v
  obtain⟨z,A,p,N⟩:=I.tuple n
  obtain⟨u,Y,O⟩:=A.get y
  obtain⟨B,C,Q,D,F,G⟩:=m it (by simp)
  refine wpAny_pyNext_tuple_item st (p) (x:=u) (by grind) λl M R=>?_
  have S:=I.turned (t':=s.toks) (λb o g e=>(R.2 b g).trans e) B C D F G
  obtain⟨o,e,c,d⟩:=id M
  exact⟨u,Κ,vU (s:={s with heap:=l}) e c d (by decide) ⟨x,H,S,O,⟨Κ,λZ T=>by rw[I.KH T n];exact y⟩,M,λb g=>(m b g).1⟩⟩
 done:=by
  intro X q r t J i f s L H E I m st v
  subst q r t
  obtain⟨xs,n,y⟩:=v
  obtain⟨z,A,p,N⟩:=I.tuple n
  obtain⟨B,C,Q,D,F,G⟩:=m it (by simp)
  have hl:=A.length
  exact wpAny_pyNext_tuple_end (I.ok.hd J) st (p) (by simp;lia) λl U=>⟨Κ,I.turned (t':=s.toks) (λb o g e=>U b o g e) B C D F G⟩
 self:=λ_ _ _ _ _ st h=>wpAny_pyIter_tupleiter st h
theorem sE{K:ϧ}(it:Ο)(f:Int)(n:Nat):mY P w K tg (B4 f n) [it] it (λi h=>IsRangeIter h it (f+(i:Nat)* 1) ((n:Int) - (i:Nat)) 1) where
 mem:=by simp
 obj:=λi h st b c=>by
  grind
 keep:=λi h g st k=>k it (by simp) _ st
 item:=by
  intro X l m p q i a s B H E I j st r
  subst l m p
  obtain⟨u,x,F,y,z,A⟩:=j it (by simp)
  have W:=Walks.range (prog:=X.prog) (w:=X.w) (I.ok.hd q) it f 1 n
  refine W.item i s _ _ r st λv g C G D kk=>?_
  obtain⟨t,rfl⟩:=G
  have J:ς X a B H {s with heap:=g,toks:=C}:=I.turned (λb o c e=>kk b o (by grind) e) u x y z A
  refine⟨_,Κ,vU (s:={s with heap:=g,toks:=C}) (n:="range_iterator") D Κ Κ (by decide) ⟨.int (f+i),H,J,⟨t,?_⟩,⟨Κ,Κ⟩,D,λb c=>(j b c).1⟩⟩
  grind
 done:=by
  intro X l m p q i a s B H E I j st r
  subst l m p
  obtain⟨u,x,F,y,z,A⟩:=j it (by simp)
  exact wpAny_pyNext_range_end (I.ok.hd q) st (by have:n<=i:=r;lia) λg L=>⟨Κ,I.turned (t':=s.toks) (λb o c e=>L b o c e) u x y z A⟩
 self:=λ_ _ _ _ _ st h=>wpAny_pyIter_rangeiter st h
section
inductive Uae(K:ϧ)(R:It->Hp->Prop)(x:V)(H1:Hp):Prop
 |mk (a)(_:x=.ref a)(_:(∃xs,HC K H1 a xs))(_:R (B7 K a) H1)
def Ta(K:ϧ)(tl:TE):TI:=λσ H R=>tl σ H λx H1=>Uae K R x H1
inductive Uaf(K:ϧ)(R:It->Hp->Prop)(x:V)(H1:Hp):Prop
 |mk (a)(_:x=.ref a)(_:(∃xs,HF K H1 a xs))(_:R (EJ K a) H1)
def Zj(K:ϧ)(tl:TE):TI:=λσ H R=>tl σ H λx H1=>Uaf K R x H1
theorem aL(g:PE X l tl):PI X tg l (Ta X.K tl):=by
 intro c s i H R I h
 refine aY (g c s i H _ I h) λv d j=>?_
 obtain⟨x,m,f,n,r⟩:=j
 obtain⟨a,e,⟨xs,t⟩,q⟩:=r
 subst e
 cases n
 obtain⟨w,y,p,z⟩:=f.list t
 refine rk p.isList ?_
 refine⟨_,_,_,_,m,Κ,f.kept (t':=d.toks) λb o e=>Ν _ e,w8 a _,⟨_,ό _ Κ,Κ,Κ⟩,λb u=>?_,q⟩
 have e:b=d.heap.objs.size:=by simpa using u
 subst e
 exact f.Lz (Ξ _) (f.HK.fresh (Ξ _))
theorem dU(g:PE X l tl):PI X tg l (Zj X.K tl):=by
 intro c s i H R I h
 refine aY (g c s i H _ I h) λv d j=>?_
 obtain⟨x,m,f,n,r⟩:=j
 obtain⟨a,e,⟨xs,t⟩,q⟩:=r
 subst e
 cases n
 obtain⟨u,w,p,y⟩:=f.tuple t
 refine ė (p) ?_
 refine⟨_,_,_,_,m,Κ,f.kept (t':=d.toks) λb o e=>Ν _ e,sD a _,⟨_,ό _ Κ,Κ,Κ⟩,λb z=>?_,q⟩
 have e:b=d.heap.objs.size:=by grind
 subst e
 exact f.Lz (Ξ _) (f.HK.fresh (Ξ _))
theorem qN{f:St}{a c:Int}(I:ς X ν f H s)(h:-(2^62)<=a)(i:a<2^62)(j:-(2^62)<=c)(l:c<2^62)
  (q:R (B4 a (c - a).toNat) H):Ϣ (ϣ X.prog X.w) X.A (pyIter (.ref s.heap.objs.size)) (PIE X ν f tg R) E {s with heap:=s.heap.push {cls:=.type "range",data:=.fields #[.int a t,.int c u,.int 1 v]},toks:=tk}:=by
 refine wpAny_pyIter_range (IsRange.new ..) (small_one h i j l) ?_
 have g:ς X ν f H {s with heap:=s.heap.push {cls:=.type "range",data:=.fields #[.int a t,.int c u,.int 1 v]},toks:=tk}:=I.kept λb o e=>Ν _ e
 refine⟨_,_,_,_,H,Κ,
  g.kept (t':=tk) λb o e=>Ν _ e,sE _ a (c - a).toNat,?_,λb p=>?_,q⟩
 ·have m:a+((0:Nat):Int)* 1=a:=by simp
  have n:(((c - a).toNat:Nat):Int) - ((0:Nat):Int)=Builtin.Range.rangeSize a c 1:=by rw[rangeSize_one];grind
  rw[m,n]
  exact ό _ Κ
 ·have e:b=(s.heap.push {cls:=.type "range",data:=.fields #[.int a t,.int c u,.int 1 v]}).objs.size:=by grind
  subst e
  exact g.Lz (Ξ _) (g.HK.fresh (Ξ _))
inductive Uag(R:It->Hp->Prop)(vs:List V)(H1:Hp):Prop
 |mk (j:Int)(_:vs=[.int j])(_:-(2^62)<=j)(_:j<2^62)(_:R (B4 0 j.toNat) H1)
def Tb(ta:TA):TI:=λσ H R=>ta σ H λvs H1=>Uag R vs H1
inductive Uah(R:It->Hp->Prop)(vs:List V)(H1:Hp):Prop
 |mk (i j:Int)(_:vs=[.int i,.int j])(_:(-(2^62)<=i/\i<2^62/\-(2^62)<=j/\j<2^62))(_:R (B4 i (j - i).toNat) H1)
def Tc(ta:TA):TI:=λσ H R=>ta σ H λvs H1=>Uah R vs H1
theorem aE(d:Gl X "range")(f:X.mg "range"=Β)(g:PA X [a] ta)(i:autoParam (ϟ [a] X.env=[(Δ,eval a X.env)]) η):PI X tg (.Call (.Name "range" p) [a] [] pos) (Tb ta):=by
 intro b s l H R I h
 refine Ks (dj I d f boot_range (ϭ (aY (g pos b s l H _ I h) λus w m=>?_) i Κ))
 obtain⟨x,y,n,o,c⟩:=m
 obtain⟨j,e,c,u,q⟩:=c
 subst e
 cases o with
 | cons r v =>
  cases v
  obtain⟨t,rfl⟩:=r
  exact call_range_1 (qN n (by lia) (by lia) c u (by simpa using q))
theorem wK(l:Gl X "range")(m:X.mg "range"=Β)(n:PA X [a,b] ta)(o:autoParam (ϟ [a,b] X.env=[(Δ,eval a X.env),(Δ,eval b X.env)]) η)(g:autoParam (ϟ [b] X.env=[(Δ,eval b X.env)]) η):
  PI X tg (.Call (.Name "range" p) [a,b] [] pos) (Tc ta):=by
 intro c s u H R I h
 refine Ks (dj I l m boot_range (ϭ (aY (n pos c s u H _ I h) λus C v=>?_) (by rw[o,g]) (by rw[g];rfl)))
 obtain⟨D,E,w,x,d⟩:=v
 obtain⟨i,j,e,⟨d,y,z,A⟩,q⟩:=d
 subst e
 cases x with
 | cons r f =>
  cases f with
  | cons B f =>
   cases f
   obtain⟨t,rfl⟩:=r
   obtain⟨F,rfl⟩:=B
   exact call_range_2 (qN w d y z A q)
def Td(wi:TI)(g:TG)(tb:TS):TS:=λD σ H=>wi σ H λJ H1=>∃W:Nat->Nat->St->Hp->Prop,(∃m,W 0 m σ H1)/\∀i m σ H,W i m σ H->
 (J.stop i H/\D.nx σ H)∨(J.go i H/\∃N:St->Hp->Prop,(∀σ' H',N σ' H'->∃m',m'< m/\W (i+1) m' σ' H')/\∀x H',J.Ni i H x H'->g x σ H' λσ2 H2=>tb {D with nx:=N,ct:=N,bk:=D.nx} σ2 H2)
noncomputable def fS(fp:List Ο)(h:Ó):List (Ο×Obj):=fp.filterMap λb=>(h.get? b).map λo=>(b,o)
theorem fX(a:b∈fp)(e:h.get? b=Α o):(b,o)∈fS fp h:=R1.mpr ⟨b,a,by rw[e];rfl⟩
theorem nG(a:p∈fS fp h):p.1∈fp/\h.get? p.1=Α p.2:=by
 obtain⟨b,c,e⟩:=R1.mp a
 cases q:h.get? b with
 |none=>grind
 | some o =>
  grind
theorem ς.pinned{a:St}(I:ς X ν a H s)(c:∀b∈fp,gw X ν H b)(g:∀b∈fp,∃o,s.heap.get? b=Α o/\∀v,o.data≠.cell v):ς X (ν++fS fp s.heap) a H s:=
 I.Jt λp d=>(Á.mp d).elim (λz=>I.pin p (Ô _ z)) λz=>by
  obtain⟨f,e⟩:=nG z
  obtain⟨h,i,j,_⟩:=c p.1 f
  grind
theorem ς.JD{a:St}(I:ς X (ν++pl) a H s):ς X ν a H s:=I.Jt λp b=>I.pin p (Ô _ (ï _ b))
theorem F7(F:PassesOwn (ϣ X.prog X.w) X.A X.env X.xe)(Z:X.calm=Γ)(hi:PI X tg iter wi)(hg:PG X tg g)(j:LN X body tb)
  (hs:autoParam (∀x,Ŷ iter X.env x=pure x) ψ):PS X (.For tg iter body [] pos) (Td wi g tb):=by
 intro a s σ H D I h
 refine wpAny_For (aY (hi a s σ H _ I h) λv s1 h1=>aY h1 λX6 s2 h2=>?_) hs
 obtain⟨it,G,tn,J,H2,e,I2,T,Te,f2,W,⟨m0,w0⟩,K⟩:=h2
 subst e
 have l:∀{B:Hp},(∀b∈G,B b=Β)->∀b∈G,gw X a B b:=λhn b j=>⟨hn b j,(f2 b j).2⟩
 refine codeAny_forLoop_any (λn s'=>∃i p B,ς X a p B s'/\tn i s'.heap/\(∀b∈G,B b=Β)/\W i n p B) ?_ m0 ⟨0,σ,H2,I2,Te,λb j=>(f2 b j).1,w0⟩
 rintro n s3 ⟨i,q,P,I3,L,M,w3⟩
 rcases K i n q P w3 with ⟨stop,qn⟩|⟨go,N,hN,step⟩
 ·refine ğ F (aY (T.done X Κ Κ Κ Z i a s3 q P X.xe I3 (l M) L stop) λr s4 E=>?_)
  obtain⟨Q,I4⟩:=E
  subst Q
  exact ec ⟨q,P,I4,qn⟩
 ·refine ğ F (aY (T.item X Κ Κ Κ Z i a s3 q P X.xe I3 (l M) L go) λr s4 E=>?_)
  obtain⟨u,Q,h4⟩:=E
  subst Q
  refine ğ F (aY h4 λ_ s5 E=>?_)
  obtain⟨x,H5,I5,r5,y5,R,X7⟩:=E
  have S:=I5.pinned (l X7) (T.obj _ _ R)
  refine ğ F (aY (hg _ s5 q H5 x u _ S r5 (step x H5 y5)) λ_ s6 E=>?_)
  obtain⟨U,H6,I6,q6⟩:=E
  refine ğ F (aY (j _ s6 U H6 _ I6 q6) λf Y C=>?_)
  have t:∀{c:St}{y:Hp},ς X (a++fS G s5.heap) c y Y->N c y->∃m,m<n/\∃i p B,ς X a p B Y/\tn i Y.heap/\(∀b∈G,B b=Β)/\W i m p B:=λ{c y} z O=>by
   obtain⟨m',hm,w7⟩:=hN c y O
   refine⟨_,hm,_,c,y,z.JD,T.keep _ _ _ R λb j o e=>(z.pin (b,o) (Ô _ (Ô _ (fX j e)))).1,λb j=>?_,w7⟩
   obtain⟨o,e,d⟩:=T.obj _ _ R b j
   exact(z.pin (b,o) (Ô _ (Ô _ (fX j e)))).2.1
  cases f with
  |next=>obtain⟨c,y,z,O⟩:=C;exact t z O
  |cont=>obtain⟨c,y,z,O⟩:=C;exact t z O
  |brk=>obtain⟨c,y,z,C⟩:=C;exact⟨c,y,z.JD,C⟩
  |ret v=>obtain⟨x7,c,y,z,r7,C⟩:=C;exact⟨_,c,y,z.JD,r7,C⟩
end
theorem b8{K:ϧ}{g:TG}{l:TS}{D:mK}(c:Nat->St->Hp->Prop)(r:c 0 b H)(s:∀i b H,i<=xs.length->c i b H->HC K H a xs)
  (t:∀i x b H,xs[i]?=Α x->c i b H->g x b H λd j=>l {D with nx:=c (i+1),ct:=c (i+1),bk:=D.nx} d j) (v:∀b H,c xs.length b H->D.nx b H):
  ∃W:Nat->Nat->St->Hp->Prop,(∃m,W 0 m b H)/\∀i m b H,W i m b H->
   ((B7 K a).stop i H/\D.nx b H)∨((B7 K a).go i H/\∃N:St->Hp->Prop,(∀f h,N f h->∃n,n<m/\W (i+1) n f h)/\∀x h,(B7 K a).Ni i H x h->g x b h λd j=>l {D with nx:=N,ct:=N,bk:=D.nx} d j):=by
 refine⟨λi m b H=>m=xs.length - i/\i<=xs.length/\c i b H,⟨xs.length,by simp,ϡ _,r⟩,?_⟩
 rintro i m b H ⟨rfl,w,p⟩
 have q:=s i b H w p
 by_cases o:i<xs.length
 ·refine .inr ⟨⟨xs,xs[i],q,by simp[o]⟩,c (i+1),λf h z=>⟨xs.length - (i+1),by lia,Κ,o,z⟩,λx h y=>?_⟩
  obtain⟨e,y⟩:=y
  subst e
  exact t i x b _ (y xs q) p
 ·have e:i=xs.length:=by lia
  subst e
  exact .inl ⟨⟨xs,q,Ξ _⟩,v b H p⟩
theorem D6{K:ϧ}{g:TG}{l:TS}{D:mK}(c:Nat->St->Hp->Prop)(r:c 0 b H)(s:∀i b H,i<=xs.length->c i b H->HF K H a xs)
  (t:∀i x b H,xs[i]?=Α x->c i b H->g x b H λd j=>l {D with nx:=c (i+1),ct:=c (i+1),bk:=D.nx} d j) (v:∀b H,c xs.length b H->D.nx b H):
  ∃W:Nat->Nat->St->Hp->Prop,(∃m,W 0 m b H)/\∀i m b H,W i m b H->
   ((EJ K a).stop i H/\D.nx b H)∨((EJ K a).go i H/\∃N:St->Hp->Prop,(∀f h,N f h->∃n,n<m/\W (i+1) n f h)/\∀x h,(EJ K a).Ni i H x h->g x b h λd j=>l {D with nx:=N,ct:=N,bk:=D.nx} d j):=by
 refine⟨λi m b H=>m=xs.length - i/\i<=xs.length/\c i b H,⟨xs.length,by simp,ϡ _,r⟩,?_⟩
 rintro i m b H ⟨rfl,w,p⟩
 have q:=s i b H w p
 by_cases o:i<xs.length
 ·refine .inr ⟨⟨xs,xs[i],q,by simp[o]⟩,c (i+1),λf h z=>⟨xs.length - (i+1),by lia,Κ,o,z⟩,λx h y=>?_⟩
  obtain⟨e,y⟩:=y
  subst e
  exact t i x b _ (y xs q) p
 ·have e:i=xs.length:=by lia
  subst e
  exact .inl ⟨⟨xs,q,Ξ _⟩,v b H p⟩
theorem aS{h:Int}{g:TG}{o:TS}{D:mK}(b:Nat->St->Hp->Prop)(r:b 0 a H)
  (s:∀i a H,i<n->b i a H->g (.int (h+i)) a H λc j=>o {D with nx:=b (i+1),ct:=b (i+1),bk:=D.nx} c j) (u:∀a H,b n a H->D.nx a H):
  ∃W:Nat->Nat->St->Hp->Prop,(∃m,W 0 m a H)/\∀i m a H,W i m a H->
   ((B4 h n).stop i H/\D.nx a H)∨((B4 h n).go i H/\∃N:St->Hp->Prop,(∀d f,N d f->∃q,q<m/\W (i+1) q d f)/\∀x f,(B4 h n).Ni i H x f->g x a f λc j=>o {D with nx:=N,ct:=N,bk:=D.nx} c j):=by
 refine⟨λi m a H=>m=n - i/\i<=n/\b i a H,⟨n,by simp,ϡ _,r⟩,?_⟩
 rintro i m a H ⟨rfl,w,p⟩
 by_cases l:i<n
 ·refine .inr ⟨l,b (i+1),λd f v=>⟨n - (i+1),by lia,Κ,l,v⟩,λx f y=>?_⟩
  obtain⟨e,y⟩:=y
  subst e y
  exact s i a _ l p
 ·have e:i=n:=by lia
  subst e
  exact .inl ⟨Ξ _,u a H p⟩
abbrev R2:=V->V->Hp->VK->Prop
def eB(X:Cx)(f:Φ->Φ->Sem Φ)(r:R2):Prop:=
 ∀(ν:List (Ο×Obj))(s:ύ)(σ:St)(H:Hp)(x y:V)(v u:Φ)(Q:VK),ς X ν σ H s->RelV x v->RelV y u->r x y H Q->
  Ϣ (ϣ X.prog X.w) X.A (f v u) (EP X ν σ Q) X.xe s
def Zk(X:Cx)(f:Φ->Sem Φ)(r:V->Hp->VK->Prop):Prop:=
 ∀(ν:List (Ο×Obj))(s:ύ)(σ:St)(H:Hp)(x:V)(v:Φ)(Q:VK),ς X ν σ H s->RelV x v->r x H Q->
  Ϣ (ϣ X.prog X.w) X.A (f v) (EP X ν σ Q) X.xe s
def c5(X:Cx)(f:Φ)(r:List V->Hp->VK->Prop):Prop:=
 ∀(ν:List (Ο×Obj))(s:ύ)(σ:St)(H:Hp)(xs:List V)(us:List Φ)(Q:VK),ς X ν σ H s->τ xs us->r xs H Q->
  Ϣ (ϣ X.prog X.w) X.A (call f us) (EP X ν σ Q) X.xe s
def Zl(X:Cx)(r:V->Hp->(Bool->Hp->Prop)->Prop):Prop:=
 ∀(ν:List (Ο×Obj))(s:ύ)(σ:St)(H:Hp)(x:V)(v:Φ)(Q:Bool->Hp->Prop),ς X ν σ H s->RelV x v->r x H Q->
  Ϣ (ϣ X.prog X.w) X.A (truthy v) (TP X ν σ Q) X.xe s
def ER(r:R2)(ta tb:TE):TE:=λσ H Q=>ta σ H λx H1=>tb σ H1 λy H2=>r x y H2 Q
def tUn(r:V->Hp->VK->Prop)(ta:TE):TE:=λσ H Q=>ta σ H λx H1=>r x H1 Q
inductive rI(C:Int->Int->Prop)(g:Int->Int->V)(x:V)(y:V)(H:Hp)(Q:VK):Prop
 |mk (i j)(_:x=.int i)(_:y=.int j)(_:C i j)(_:Q (g i j) H)
inductive xH(g:Int->Int->V)(x:V)(y:V)(H:Hp)(Q:VK):Prop
 |mk (i j)(_:x=.int i)(_:y=.int j)(_:Q (g i j) H)
inductive rU(g:Int->V)(x:V)(H:Hp)(Q:VK):Prop
 |mk (i)(_:x=.int i)(_:Q (g i) H)
section
theorem Hd(n:PE X a ta)(o:PE X b tb){d:St}{R:V->V->Hp->Prop}(I:ς X ν d H s)
  (h:ta d H λx l=>tb d l λy e=>R x y e) {f:Φ->Φ->Sem Φ}
  (p:∀v u j x y e,ς X ν d e j->RelV x v->RelV y u->R x y e->Ϣ (ϣ X.prog X.w) X.A (f v u) Q X.xe j):
  Ϣ (ϣ X.prog X.w) X.A (eval a X.env) (λv g=>Ϣ (ϣ X.prog X.w) X.A (eval b X.env) (λu i=>Ϣ (ϣ X.prog X.w) X.A (f v u) Q X.xe i) X.xe g) X.xe s:=by
 refine aY (n ν s d H _ I h) λv q m=>?_
 obtain⟨x,l,r,t,z⟩:=m
 refine aY (o ν q d l _ r z) λu j m=>?_
 obtain⟨y,e,B,C,D⟩:=m
 exact p v u j x y e B t C D
theorem aA(e:eB X (binaryOp op) r)(f:PE X a ta)(g:PE X b tb):PE X (.BinOp a op b pos) (ER r ta tb):=by
 intro d s i H Q I h
 exact wpAny_BinOp (Hd f g I h λv u j x y l m n o q=>e d j i l x y v u Q m n o q)
theorem Tf(f:Zk X (unaryOp op) r)(g:PE X a ta):PE X (.UnaryOp op a pos) (tUn r ta):=by
 intro d s e H Q I h
 exact UnaryOp_ (aY (g d s e H _ I h) λv i j=>by obtain⟨x,l,m,n,o⟩:=j;exact f d i e l x v Q m n o)
theorem Sf{g:Int->Int->Int}
  (d:∀(i j:Int)(t u:Tok)(s:ύ)(Q:Φ->ύ->Prop)(E:Φ->ύ->Prop),C i j->Q (.int (g i j) s.toks) {s with toks:=s.toks+1}->Ϣ (ϣ X.prog X.w) X.A (f (.int i t) (.int j u)) Q E s):
  eB X f (rI C λi j =>.int (g i j)):=by
 intro l s r H x y v u Q I m n h
 obtain⟨i,j,rfl,rfl,o,q⟩:=h
 obtain⟨t,rfl⟩:=m
 obtain⟨p,rfl⟩:=n
 exact d i j t p s _ _ o ⟨.int (g i j),H,I.tok _,⟨_,Κ⟩,q⟩
theorem wP{g:Int->Int->Int}
  (d:∀(i j:Int)(t u:Tok)(s:ύ)(Q:Φ->ύ->Prop)(E:Φ->ύ->Prop),Q (.int (g i j) s.toks) {s with toks:=s.toks+1}->Ϣ (ϣ X.prog X.w) X.A (f (.int i t) (.int j u)) Q E s):
  eB X f (xH λi j =>.int (g i j)):=by
 intro l s p H x y v u Q I m n h
 obtain⟨i,j,rfl,rfl,q⟩:=h
 obtain⟨t,rfl⟩:=m
 obtain⟨o,rfl⟩:=n
 exact d i j t o s _ _ ⟨.int (g i j),H,I.tok _,⟨_,Κ⟩,q⟩
theorem C3{g:Int->Int->Bool}
  (d:∀(i j:Int)(t u:Tok)(s:ύ)(Q:Φ->ύ->Prop)(E:Φ->ύ->Prop),Q (.bool (g i j)) s->Ϣ (ϣ X.prog X.w) X.A (f (.int i t) (.int j u)) Q E s):
  eB X f (xH λi j =>.bl (g i j)):=by
 intro e s o H x y v u Q I l m h
 obtain⟨i,j,rfl,rfl,q⟩:=h
 obtain⟨t,rfl⟩:=l
 obtain⟨n,rfl⟩:=m
 exact d i j t n s _ _ ⟨.bl (g i j),H,I,Κ,q⟩
def Zm(i j:Int):Prop:=0<j/\j<1073741824
def Tg(i j:Int):Prop:=0<=j/\j<=1000000/\i.natAbs<2^64
def QF(i j:Int):Prop:=(-(2^64)<i/\i<2^64)∨(-(2^64)<j/\j<2^64)
theorem QF.ok(h:QF i j):IntMulOk i j:=by
 rcases h with ⟨d,e⟩|⟨d,e⟩
 ·exact .of_left (intBits_le_64 d e)
 ·exact .of_right (intBits_le_64 d e)
theorem sC(k:Nat):(0:Int)<=2^k:=by
 grind
theorem cQ:eB X (binaryOp .Add) (xH λi j =>.int (i+j)):=wP λ_ _ _ _ _ _ _ q=>add_int q
theorem cZ:eB X (binaryOp .Sub) (xH λi j =>.int (i - j)):=wP λ_ _ _ _ _ _ _ q=>sub_int q
theorem p7:eB X (binaryOp .Mult) (rI QF λi j =>.int (i* j)):=Sf λ_ _ _ _ _ _ _ d q=>mul_int q d.ok
theorem fU:eB X (binaryOp .FloorDiv) (rI Zm λi j =>.int (i / j)):=Sf λi j _ _ _ _ _ d q=>by
 have e:=d.1
 have f:=d.2
 exact floordiv_int (by lia) (by grind) (.inl (PyProof.noPylong_small (by lia)))
theorem bQ:eB X (binaryOp .Mod) (rI (λ_ j=>0<j) λi j =>.int (i% j)):=Sf λi j _ _ _ _ _ d q=>by
 have e:=d
 exact mod_int' (by lia) (by rw[Int.fmod_eq_emod_of_nonneg i (by lia)];exact q)
theorem tF:eB X (binaryOp .Pow) (rI Tg λi j =>.int (i^j.toNat)):=Sf λ_ _ _ _ _ _ _ d q=>pow_int_small d.1 d.2.1 d.2.2 q
theorem tE:eB X (binaryOp .LShift) (rI Tg λi j =>.int (i* 2^j.toNat)):=Sf λ_ _ _ _ _ _ _ d q=>lshift_int_small d.1 d.2.1 d.2.2 q
theorem p5:eB X (binaryOp .RShift) (rI (λ_ j=>0<=j) λi j =>.int (i / 2^j.toNat)):=Sf λi j _ _ _ _ _ d q =>
 rshift_int d (by rw[Int.fdiv_eq_ediv_of_nonneg i (sC _)];exact q)
theorem tI:eB X (binaryOp .BitAnd) (xH λi j =>.int (Ě i j)):=wP λ_ _ _ _ _ _ _ q=>and_int q
theorem E6:eB X (binaryOp .BitOr) (xH λi j =>.int (š i j)):=wP λ_ _ _ _ _ _ _ q=>or_int q
theorem pK:eB X (inplaceOp .Add) (xH λi j =>.int (i+j)):=wP λ_ _ _ _ _ _ _ q=>iadd_int q
theorem vS:eB X (inplaceOp .Sub) (xH λi j =>.int (i - j)):=wP λ_ _ _ _ _ _ _ q=>isub_int q
theorem unI{g:Int->Int}
  (d:∀(i:Int)(t:Tok)(s:ύ)(Q:Φ->ύ->Prop)(E:Φ->ύ->Prop),Q (.int (g i) s.toks) {s with toks:=s.toks+1}->Ϣ (ϣ X.prog X.w) X.A (f (.int i t)) Q E s):
  Zk X f (rU λi =>.int (g i)):=by
 intro j s m H x v Q I l h
 obtain⟨i,rfl,q⟩:=h
 obtain⟨t,rfl⟩:=l
 exact d i t s _ _ ⟨.int (g i),H,I.tok _,⟨_,Κ⟩,q⟩
theorem EM:Zk X (unaryOp .USub) (rU λi =>.int (-i)):=unI λ_ _ _ _ _ q=>neg_int q
end
noncomputable def Fa:V->V->Bool
 |.HU,.HU=>Γ|.HU,.int _=>Γ|.int _,.HU=>Γ|.HU,.bl _=>Γ|.bl _,.HU=>Γ|.HU,.str _=>Γ|.str _,.HU=>Γ
 |.int _,.int _=>Γ|.bl _,.bl _=>Γ|.str _,.str _=>Γ|.Mz _,.Mz _=>Γ
 |.int _,.str _=>Γ|.str _,.int _=>Γ|.bl _,.str _=>Γ|.str _,.bl _=>Γ
 |_,_=>Δ
def rEq:R2:=λx y H Q=>Fa x y=Γ/\Q (.bl (decide (x=y))) H
def rNe:R2:=λx y H Q=>Fa x y=Γ/\Q (.bl (!decide (x=y))) H
theorem we:decide (V.int i=V.int j)=(i == j):=by
 grind
theorem AV:decide (V.bl i=V.bl j)=(i == j):=by
 grind
theorem wc:decide (V.str i=V.str j)=(i == j):=by
 grind
theorem wf:decide (V.Mz i=V.Mz j)=(i.toList == j.toList):=by
 rw[ri]
 cases i
 cases j
 simp
section
variable {X:Cx}{a b c:Expr}{ta tb tc:TE}{pos:Pos}
theorem aV{d:St}(I:ς X ν d H s)(q:Q (.bl k) H)(e:k=k'):EP X ν d Q (.bool k') s:=by
 subst e
 exact⟨.bl k,H,I,Κ,q⟩
theorem br:eB X (compareOp .Eq) rEq:=by
 intro l s m H x y v u Q I g d h
 obtain⟨f,q⟩:=h
 cases x with
 | HU =>
  cases g
  cases y with
  |HU=>cases d;exact PySem.EqNone.eq_none_none (aV I q (by simp))
  |bl j=>cases d;exact PySem.EqNone.eq_none_bool (aV I q (by simp))
  |int j=>obtain⟨e,rfl⟩:=d;exact PySem.EqNone.eq_none_int (aV I q (by simp))
  |str j=>obtain⟨e,rfl⟩:=d;exact PySem.EqNone.eq_none_str (aV I q (by simp))
  |_=>exact Ι (f) Ϟ
 | bl i =>
  cases g
  cases y with
  |HU=>cases d;exact PySem.EqNone.eq_bool_none (aV I q (by simp))
  |bl j=>cases d;exact eq_bool (aV I q AV)
  |str j=>obtain⟨e,rfl⟩:=d;exact PySem.EqMixed.eq_bool_str (aV I q (by simp))
  |_=>exact Ι (f) Ϟ
 | int i =>
  obtain⟨t,rfl⟩:=g
  cases y with
  |HU=>cases d;exact PySem.EqNone.eq_int_none (aV I q (by simp))
  |int j=>obtain⟨e,rfl⟩:=d;exact eq_int (aV I q we)
  |str j=>obtain⟨e,rfl⟩:=d;exact PySem.EqMixed.eq_int_str (aV I q (by simp))
  |_=>exact Ι (f) Ϟ
 | str i =>
  obtain⟨t,rfl⟩:=g
  cases y with
  |HU=>cases d;exact PySem.EqNone.eq_str_none (aV I q (by simp))
  |bl j=>cases d;exact PySem.EqMixed.eq_str_bool (aV I q (by simp))
  |int j=>obtain⟨e,rfl⟩:=d;exact PySem.EqMixed.eq_str_int (aV I q (by simp))
  |str j=>obtain⟨e,rfl⟩:=d;exact eq_str (aV I q wc)
  |_=>exact Ι (f) Ϟ
 | Mz i =>
  obtain⟨t,rfl⟩:=g
  cases y with
  |Mz j=>obtain⟨e,rfl⟩:=d;exact PySem.W.eq_bytes (aV I q wf)
  |_=>exact Ι (f) Ϟ
 |_=>cases y<;>exact Ι (f) Ϟ
theorem dc:eB X (compareOp .NotEq) rNe:=by
 intro l s m H x y v u Q I g d h
 obtain⟨f,q⟩:=h
 cases x with
 | HU =>
  cases g
  cases y with
  |HU=>cases d;exact PySem.EqNone.ne_none_none (aV I q (by simp))
  |bl j=>cases d;exact PySem.EqNone.ne_none_bool (aV I q (by simp))
  |int j=>obtain⟨e,rfl⟩:=d;exact PySem.EqNone.ne_none_int (aV I q (by simp))
  |str j=>obtain⟨e,rfl⟩:=d;exact PySem.EqNone.ne_none_str (aV I q (by simp))
  |_=>exact Ι (f) Ϟ
 | bl i =>
  cases g
  cases y with
  |HU=>cases d;exact PySem.EqNone.ne_bool_none (aV I q (by simp))
  |bl j=>cases d;exact ne_bool (aV I q (congrArg not AV))
  |str j=>obtain⟨e,rfl⟩:=d;exact PySem.EqMixed.ne_bool_str (aV I q (by simp))
  |_=>exact Ι (f) Ϟ
 | int i =>
  obtain⟨t,rfl⟩:=g
  cases y with
  |HU=>cases d;exact PySem.EqNone.ne_int_none (aV I q (by simp))
  |int j=>obtain⟨e,rfl⟩:=d;exact ne_int (aV I q (congrArg not we))
  |str j=>obtain⟨e,rfl⟩:=d;exact PySem.EqMixed.ne_int_str (aV I q (by simp))
  |_=>exact Ι (f) Ϟ
 | str i =>
  obtain⟨t,rfl⟩:=g
  cases y with
  |HU=>cases d;exact PySem.EqNone.ne_str_none (aV I q (by simp))
  |bl j=>cases d;exact PySem.EqMixed.ne_str_bool (aV I q (by simp))
  |int j=>obtain⟨e,rfl⟩:=d;exact PySem.EqMixed.ne_str_int (aV I q (by simp))
  |str j=>obtain⟨e,rfl⟩:=d;exact ne_str (aV I q (congrArg not wc))
  |_=>exact Ι (f) Ϟ
 | Mz i =>
  obtain⟨t,rfl⟩:=g
  cases y with
  |Mz j=>obtain⟨e,rfl⟩:=d;exact PySem.W.ne_bytes (aV I q (congrArg not wf))
  |_=>exact Ι (f) Ϟ
 |_=>cases y<;>exact Ι (f) Ϟ
theorem jX:eB X (compareOp .Lt) (xH λi j =>.bl (decide (i<j))):=C3 λ_ _ _ _ _ _ _ q=>lt_int q
theorem nB:eB X (compareOp .LtE) (xH λi j =>.bl (decide (i<=j))):=C3 λ_ _ _ _ _ _ _ q=>le_int q
theorem E7:eB X (compareOp .Gt) (xH λi j =>.bl (decide (j<i))):=C3 λ_ _ _ _ _ _ _ q=>gt_int q
theorem E8:eB X (compareOp .GtE) (xH λi j =>.bl (decide (j<=i))):=C3 λ_ _ _ _ _ _ _ q=>ge_int q
theorem jG:eB X (compareOp .Is) (λx y H Q=>y=.HU/\Q (.bl (decide (x=.HU))) H):=by
 intro d s g H x y v u Q I e f h
 obtain⟨rfl,q⟩:=h
 cases f
 refine is_none_gen (aV I q ?_)
 cases x<;>first
  |(cases e;rfl)
  |(obtain⟨t,rfl⟩:=e;rfl)
theorem iu:eB X (compareOp .IsNot) (λx y H Q=>y=.HU/\Q (.bl (!decide (x=.HU))) H):=by
 intro d s g H x y v u Q I e f h
 obtain⟨rfl,q⟩:=h
 cases f
 refine isnot_none_gen (aV I q ?_)
 cases x<;>first
  |(cases e;rfl)
  |(obtain⟨t,rfl⟩:=e;rfl)
theorem tL(b:Expr)(h:autoParam (op≠.In) θ)(f:autoParam (op≠.NotIn) θ):Ġ op b=Δ:=by
 have d:(op == CmpOp.In)=Δ:=by grind
 have e:(op == CmpOp.NotIn)=Δ:=by grind
 cases b<;>simp[Ġ,d,e]
theorem vv(e:eB X (compareOp op) r)(f:PE X a ta)(g:PE X b tb)(i:Ġ op b=Δ):PE X (.Compare a [op] [b] pos) (ER r ta tb):=by
 intro d s j H Q I h
 exact wpAny_Compare1 (Hd f g I h λv u l x y m n o p q=>e d l j m x y v u Q n o p q) i
abbrev El(t:TE):TT:=tB t
theorem Co(g:eB X (compareOp op) r)(i:PE X a ta)(j:PE X b tb)(l:Ġ op b=Δ):PT X (.Compare a [op] [b] pos) (El (ER r ta tb)):=by
 intro d s f H Q I h
 refine TF (aY (i d s f H _ I h) λv m ⟨x,n,o,p,q⟩=>aY (j d m f n _ o q) λu t ⟨y,w,A,B,C⟩ =>
  aY (g d t f w x y v u _ A p B C) λc J ⟨z,D,E,F,k,e,G⟩=>?_) l
 subst e
 cases F
 exact ß ⟨D,E,G⟩
inductive Uai(r':R2)(tc:TE)(σ:St)(Q:VK)(y:V)(z:V)(H3:Hp):Prop
 |mk (k)(_:z=.bl k)(_:(if k=Γ then tc σ H3 λw' H4=>r' y w' H4 Q else Q (.bl Δ) H3))
def EW(r r':R2)(ta tb tc:TE):TE:=λσ H Q=>ta σ H λx H1=>tb σ H1 λy H2=>r x y H2 λz H3=>Uai r' tc σ Q y z H3
theorem qR(n:eB X (compareOp op) r)(o:eB X (compareOp Zn) r')(p:PE X a ta)(q:PE X b tb)(t:PE X c tc)
  (w:lastMarks [op,Zn] [b,c]=Δ:=by with_unfolding_all rfl):PE X (.Compare a [op,Zn] [b,c] pos) (EW r r' ta tb tc):=by
 intro f s g H Q I h
 refine Compare_chain (aY (p f s g H _ I h) λv A ⟨x,B,C,D,E⟩=>chain_link (aY (q f A g B _ C E) λu F ⟨y,G,J,i,K⟩ =>
  aY (n f F g G x y v u _ J D i K) λd L ⟨z,j,l,M,k,e,m⟩=>?_)) w
 subst e
 cases M
 refine ß ?_
 cases k with
 |false=>exact ite_ff ⟨.bl Δ,j,l,Κ,m⟩
 |true=>exact ite_tt (chain_last (aY (t f L g j _ l m) λN O P=>by obtain⟨R,S,T,U,Y⟩:=P;exact o f O g S y R u N Q T i U Y))
def Hl(K:ϧ)(x:V)(H:Hp)(k:Bool):Prop:=
 match x with
 |.HU=>k=Δ
 |.bl b=>k=b
 |.int i=>k=(i != 0)
 |.str y=>y.length<=Χ/\k=((y.length:Int) != 0)
 |.Mz y=>y.size<=Χ/\k=((y.size:Int) != 0)
 |.ref p=>(∃xs,HC K H p xs/\k= !xs.isEmpty)∨(∃xs,HF K H p xs/\k= !xs.isEmpty)∨∃kvs,H p=Α (.dK kvs)/\k= !kvs.isEmpty
 |_=>False
theorem tU(r:KV kvs vs):(!vs.isEmpty)= !kvs.isEmpty:=by
 cases r<;>rfl
theorem lY(r:τ xs HI):(!HI.toArray.isEmpty)= !xs.isEmpty:=by
 cases r<;>simp
theorem jI:(Χ:Nat)<2^63:=by rw[ϊ];decide
theorem xU:Zl X (λx H Q=>∃k,Hl X.K x H k/\Q k H):=by
 intro u s B H x v Q I j h
 obtain⟨k,e,q⟩:=h
 have C:=jI
 have D:=ϊ
 cases x with
 | HU =>
  cases j
  have d:=e
  subst d
  exact truthy_none ⟨H,I,q⟩
 | bl b =>
  cases j
  have d:=e
  subst d
  exact ß ⟨H,I,q⟩
 | int i =>
  obtain⟨t,rfl⟩:=j
  have d:=e
  subst d
  exact PySem.P.truthy_int ⟨H,I,q⟩
 | str y =>
  obtain⟨t,rfl⟩:=j
  obtain⟨hy,d⟩:y.length<=Χ/\k=((y.length:Int) != 0):=e
  subst d
  exact PySem.P.truthy_str (by lia) ⟨H,I.tok _,q⟩
 | Mz y =>
  obtain⟨t,rfl⟩:=j
  obtain⟨hy,d⟩:y.size<=Χ/\k=((y.size:Int) != 0):=e
  subst d
  exact PySem.W.truthy_bytes (by lia) ⟨H,I.tok _,q⟩
 | ref p =>
  cases j
  have d:=e
  rcases d with ⟨xs,l,d⟩|⟨xs,l,d⟩|⟨kvs,l,d⟩
  ·subst d
   obtain⟨A,r,o,z⟩:=I.list l
   have g:=r.length
   exact wpAny_truthy_list o.isList (by grind) ⟨H,I.tok _,by rw[lY r];exact q⟩
  ·subst d
   obtain⟨A,r,o,z⟩:=I.tuple l
   have g:=r.length
   exact truthy_tuple o (by grind) ⟨H,I.tok _,by rw[lY r];exact q⟩
  ·subst d
   obtain⟨z,hS,n,r,m⟩:kvs.length<=Χ/\(p == æ)=Δ/\∃n,KV kvs n/\s.heap.DictOf (aN X.prog X.w) p n:=I.HK p _ l
   have g:=Paired.length r
   exact wpAny_truthy_dict hS m (by lia) ⟨H,I.tok _,by rw[tU r];exact q⟩
 |_=>exact(e).elim
theorem fq(i:PE X a ta)(j:∀d,isTrue a X.env d=(do let v ← d;kz a.pos;ŵ [v] (truthy v))):
  PT X a (λf H Q=>ta f H λx g=>∃k,Hl X.K x g k/\Q k g):=by
 intro e s f H Q I h
 exact isTrue_plain (aY (i e s f H _ I h) λv l m=>by obtain⟨x,n,o,p,q⟩:=m;exact xU e l f n x v Q o p q) (j _)
theorem i8(r:τ [x] us):∃u,us=[u]/\RelV x u:=by
 cases r with
 |cons d e=>cases e;exact⟨_,Κ,d⟩
theorem vals2(r:τ [x,y] us):∃u d,us=[u,d]/\RelV x u/\RelV y d:=by
 cases r with
 | cons g e =>
  cases e with
  |cons h f=>cases f;grind
theorem Ba:c5 X (.builtin "abs") (λxs H Q=>∃i,xs=[.int i]/\Q (.int (if i<0 then -i else i)) H):=by
 intro d s e H xs us Q I r h
 obtain⟨i,rfl,q⟩:=h
 obtain⟨u,rfl,t,rfl⟩:=i8 r
 exact call_abs_int λu f=>⟨.int (if i<0 then -i else i),H,I.tok _,⟨_,Κ⟩,q⟩
theorem x9(f:X.calm=Γ):c5 X (.builtin "max") (λxs H Q=>∃i j,xs=[.int i,.int j]/\Q (.int (if j > i then j else i)) H):=by
 intro e s g H xs us Q I r h
 obtain⟨i,j,rfl,q⟩:=h
 obtain⟨u,l,rfl,⟨t,rfl⟩,⟨m,rfl⟩⟩:=vals2 r
 refine max_two_ints (I.ok.hd f) λn o k=>⟨_,H,I.kept k,?_,q⟩
 by_cases d:j > i
 ·rw[Θ d,Θ d];exact⟨_,Κ⟩
 ·rw[Η d,Η d];exact⟨_,Κ⟩
end
structure LO(h:Ó)(x dx C:Ο)(mA:Str->Option Φ):Prop where
 obj:h.get? x=Α (PySem.W.instObj C dx)
 ns:h.Ns1 dx mA
 ne:dx≠x
theorem xb{h:Ó}(n:h.Ns1 dx mA):∃b,h.get? dx=Α b/\∀name,PySem.W.lookIn name b=Α (mA name):=by
 obtain⟨o,c,m,d,f,g,_,i⟩:=n
 refine⟨o,d,λname=>?_⟩
 have e:=i name
 unfold nsFind findBy at e
 rw[←Array.find?_toList]at e
 unfold PySem.W.lookIn
 rw[f]
 dsimp only
 split
 ·grind
 ·rename_i q
  rw[q]at e
  have a:c.toList.any (·.refKey)=Δ:=by
   rw[Tx]
   intro y j
   obtain⟨z,t,l⟩:=g y (Array.mem_toList_iff.mp j)
   simp[DictEntry.refKey,l]
  grind
theorem LO.look(I:LO h x dx C mA):∃a,PySem.W.InstAt h x (PySem.W.instObj C dx) C (Α a)/\∀name,PySem.W.lookIn name a=Α (mA name):=
 let ⟨a,ho,hl⟩:=xb I.ns
 ⟨a,⟨I.obj,Κ,Κ,ho⟩,hl⟩
section
variable {prog:Program}{w:Å}{A:ó}{E:Φ->ύ->Prop}{s:ύ}{K:ϧ}{x dx C f:Ο}{mA:Str->Option Φ}{name:Str}{v:Φ}
theorem D5(X:K.In s.heap)(I:LO s.heap x dx C mA)(b:ŋ K C name=Γ)(c:Ń K C=Γ)
  (d:Ð K (.ref C) name=Α Β) (e:mA name=Α v) (g:PySem.W.handedIn v=Γ) (h:Q v {s with toks:=s.toks+1}):
  Ϣ (ϣ prog w) A (getAttr (.ref x) name expr) Q E s:=by
 obtain⟨j,J,i⟩:=I.look
 exact PySem.W.get_value X J (PySem.W.plainGet_of b).1 (PySem.W.findObj_own c d Κ (by rw[i,e])) g h
theorem AM(X:K.In s.heap)(I:LO s.heap x dx C mA)(a:ŋ K C name=Γ)
  (b:Ð K (.ref C) name=Α (Α (.ref f))) (c:isFn K (.ref f)=Γ) (d:mA name=Β) (h:Q (.ref f,[.ref x]) s):
  Ϣ (ϣ prog w) A (getMethod (.ref x) name pl) Q E s:=by
 obtain⟨e,J,g⟩:=I.look
 exact PySem.W.method_fn X J (PySem.W.plainGet_of a).1 (PySem.W.plainGet_of a).2 b (beq_iff_eq.mp c) (by show(PySem.W.lookIn name e).map (·.isSome)=Α Δ;rw[g,d];rfl) h
theorem BQ(X:K.In s.heap)(I:LO s.heap x dx C mA)
  (n:Ð K (.ref C) "__setattr__"=Α (Α (.builtin "object.__setattr__"))) (o:ő K C=Γ) (p:PySem.W.takerIn K C name=Α Β) (q:Ń K C=Γ)
  (t:PySem.Within mA ns) (u:ns.length<=Χ)
  (h:∀c,LO c x dx C (λy=>if y=name then Α v else mA y)->Ŗ dx s.heap c->Q () {s with heap:=c,toks:=s.toks+2}):
  Ϣ (ϣ prog w) A (setAttr (.ref x) name v) Q E s:=by
 obtain⟨G,J,H⟩:=I.look
 refine PySem.W.set_plain X J n (PySem.W.osa_open (s:={s with toks:=s.toks+1}) (r:=Β) X J o p λb=>?_)
 obtain⟨L,z,d⟩:=PySem.W.any_some q
 have B:=I.obj
 refine Μ (Ϙ (Μ (Μ (wpAny_loadPart B (Μ (PySem.W.Looks.here (s:={s with toks:=s.toks+1}) (PySem.W.looks_clsIn X z) ?_))))))
 rw[d]
 refine Ϙ (a:=Α dx) (Μ (Ϙ (Μ ?_)))
 refine wpAny_nsSet1 (s:={s with toks:=s.toks+1}) I.ns λc l m=>?_
 obtain⟨M,D,F,e,g,i⟩:=l.count (PySem.Within.cons name v t)
 refine Μ (wpAny_lookBehind e (by rw[g];exact pastItsLine_dict (Í i (by grind))) ?_)
 exact Ϙ (h _ ⟨(m.2 _ (ϗ I.ne)).trans I.obj,l,I.ne⟩ m)
theorem Au(X:K.In s.heap)(b:b4 K C=Γ)
  (c:Ð K (.ref C) "__init__"=Α (Α (.ref f))) (e:PySem.W.typeIn K (.ref f)=Α (.type "function"))
  (h:Ũ (ϣ prog w) (A.under (.builtin "type.__call__" ⟨.ref C:: vs,kw⟩)) (.call (.ref f) ⟨.ref (s.heap.objs.size+1):: vs,kw⟩) (PySem.W.InitBack (s.heap.objs.size+1) R)
   {s with heap:=(s.heap.push PySem.W.emptyDict).push (PySem.W.instObj C s.heap.objs.size)}):
  Ũ (ϣ prog w) A (.call (.ref C) ⟨vs,kw⟩) R s:=by
 obtain⟨i,g,d,t,j⟩:=s
 exact PySem.W.make_core (PySem.W.makes_of X b) (PySem.W.looks_findIn X c) (λself=>PySem.W.bind_fn X self e) (.inl Κ) h
end
noncomputable def aO(f:Str)(v:V):List (Str×V)->List (Str×V)
 |[]=>[(f,v)]
 |(g,x):: r=>if g=f then (g,v):: r else (g,x):: aO f v r
theorem kc(f g:Str)(v:V):∀fs:List (Str×V),(aO f v fs).lookup g=if g=f then Α v else fs.lookup g
 | []=>by
  show List.lookup g [(f,v)]=_
  grind
 | (k,x):: r=>by
  have a:=kc f g v r
  rw[show aO f v ((k,x):: r)=(if k=f then (k,v):: r else (k,x):: aO f v r) from Κ]
  grind
theorem jK(f:Str)(v:V):∀fs:List (Str×V),f∈(aO f v fs).map (·.1)/\∀g,g∈fs.map (·.1)->g∈(aO f v fs).map (·.1)
 |[]=>⟨by simp[aO],λg h=>by simp at h⟩
 | (k,x):: r=>by
  obtain⟨a,b⟩:=jK f v r
  rw[show aO f v ((k,x):: r)=(if k=f then (k,v):: r else (k,x):: aO f v r) from Κ]
  grind
theorem kd(f:Str)(v:V):∀fs:List (Str×V),(aO f v fs).length<=fs.length+1
 |[]=>by simp[aO]
 | (k,x):: r=>by
  have a:=kd f v r
  rw[show aO f v ((k,x):: r)=(if k=f then (k,v):: r else (k,x):: aO f v r) from Κ]
  grind
theorem IU.some_of(r:IU (Α v) o):∃u,o=Α u/\RelV v u:=by
 cases o with
 |none=>exact(r).elim
 |some u=>exact⟨u,Κ,r⟩
theorem IU.none_of(r:IU Β o):o=Β:=by
 cases o with
 |none=>rfl
 |some u=>exact(r).elim
theorem xo(r:RelV v u):PySem.W.handedIn u=Γ:=by
 cases v with
 |HU=>cases (r);rfl
 |bl b=>cases (r);rfl
 |int i=>obtain⟨t,e⟩:=(r);cases e;rfl
 |str x=>obtain⟨t,e⟩:=(r);cases e;rfl
 |Mz b=>obtain⟨t,e⟩:=(r);cases e;rfl
 |QC b=>obtain⟨t,e⟩:=(r);cases e;rfl
 |ref a=>cases (r);rfl
 |ty n=>cases (r);rfl
section
theorem kL(c:J0 P w H h)(e:H a=Α (.ρ C dx fs)):∃b,LO h a dx C b/\(∀f,IU (fs.lookup f) (b f))/\PySem.Within b (fs.map (·.1))/\fs.length<=1000/\H dx=Α (.own a):=by
 obtain⟨d,z,ne,g,b,n,r,q⟩:=(c a _ e)
 exact⟨b,⟨g,n,ne⟩,r,q,z,d⟩
end
structure Km(K:ϧ)(C:Ο):Prop where
 pg:ŋ K C Ş=Γ
 hd:Ń K C=Γ
 po:ő K C=Γ
 sa:Ð K (.ref C) "__setattr__"=Α (Α (.builtin "object.__setattr__"))
theorem Km.get{K:ϧ}(c:Km K C)(f:Str):ŋ K C f=Γ:=c.pg
def HL(K:ϧ)(C:Ο)(f:Str):Prop:=Ð K (.ref C) f=Α Β
theorem HL.Th{K:ϧ}(n:HL K C f):PySem.W.takerIn K C f=Α Β:=by
 unfold PySem.W.takerIn
 rw[show Ð K (.ref C) f=Α Β from n]
 rfl
structure By(K:ϧ)(C:Ο)(m:Str)(f:Ο):Prop where
 at_:Ð K (.ref C) m=Α (Α (.ref f))
 fn:isFn K (.ref f)=Γ
 kp:Ę K (.ref f)=Γ
section
variable {X:Cx}{ν:List (Ο×Obj)}{σ:St}{H:Hp}{s:ύ}{a C dx:Ο}{fs:List (Str×V)}{f:Str}{v:V}{A:ó}{E:Φ->ύ->Prop}
theorem mf(I:ς X ν σ H s)(e:H a=Α (.ρ C dx fs))(c:Km X.K C)(n:HL X.K C f)(l:fs.lookup f=Α v)
  (h:∀u d,ς X ν σ H d->RelV v u->Q u d):Ϣ (ϣ X.prog X.w) A (getAttr (.ref a) f b) Q E s:=by
 obtain⟨i,O,r,_,_,_⟩:=kL I.HK e
 obtain⟨u,j,g⟩:=IU.some_of (v:=v) (o:=i f) (by grind)
 exact D5 I.JI O (c.get f) c.hd n j (xo g) (h u _ (I.tok _) g)
theorem me(I:ς X ν σ H s)(e:H a=Α (.ρ C dx fs))(c:Km X.K C)(k:By X.K C m g)(l:fs.lookup m=Β)
  (h:Q (.ref g,[.ref a]) s):Ϣ (ϣ X.prog X.w) A (getMethod (.ref a) m pl) Q E s:=by
 obtain⟨b,O,r,_,_,_⟩:=kL I.HK e
 have d:b m=Β:=IU.none_of (by grind)
 exact AM I.JI O (c.get m) k.at_ k.fn d h
theorem ll(I:ς X ν σ H s)(e:H a=Α (.ρ C dx fs))(c:Km X.K C)(n:HL X.K C f)(L:fs.length<1000)(m:RelV y u)
  (h:∀i,ς X ν σ (ο H a (.ρ C dx (aO f y fs))) i->Q () i):Ϣ (ϣ X.prog X.w) A (setAttr (.ref a) f u) Q E s:=by
 obtain⟨p,O,r,j,_,l⟩:=kL I.HK e
 have t:(fs.map (·.1)).length<=Χ:=by rw[Ρ,ϊ];lia
 refine BQ I.JI O c.sa c.po n.Th c.hd j t λB d D=>h _ ?_
 have F:∃o,B.get? dx=Α o:=let ⟨o,_,_,e',_⟩:=d.ns;⟨o,e'⟩
 refine I.write (x:=a) (e:=dx) (by rw[e];exact ϥ) (.inr l) (λb q G z=>(D.2 b G).trans z) F ?_
 refine⟨by rw[aj O.ne];exact l,?_,O.ne,d.obj,_,d.ns,λg=>?_,λg J=>?_⟩
 ·have:=kd f y fs;lia
 ·show IU ((aO f y fs).lookup g) (if g=f then Α u else p g)
  rw[kc]
  by_cases q:g=f
  ·rw[Θ q,Θ q];exact m
  grind
 ·by_cases q:g=f
  ·rw[q];exact(jK f y fs).1
  ·refine(jK f y fs).2 g (j g λz=>J ?_)
   grind
theorem ς.made(I:ς X ν σ H s):ς X ν σ (ο (ο H s.heap.objs.size (.own (s.heap.objs.size+1))) (s.heap.objs.size+1) (.ρ C s.heap.objs.size []))
  {s with heap:=(s.heap.push PySem.W.emptyDict).push (PySem.W.instObj C s.heap.objs.size)}:=by
 have g:(s.heap.push PySem.W.emptyDict).get? s.heap.objs.size=Α PySem.W.emptyDict:=ό s.heap Κ
 have h:((s.heap.push PySem.W.emptyDict).push (PySem.W.instObj C s.heap.objs.size)).get? (s.heap.objs.size+1)=Α (PySem.W.instObj C s.heap.objs.size):=by
  have:=ό (s.heap.push PySem.W.emptyDict) (o:=PySem.W.instObj C s.heap.objs.size) Κ
  rwa [size_push]at this
 have i:(s.heap.push PySem.W.emptyDict).Ns s.heap.objs.size (λ_=>Β):=⟨PySem.W.emptyDict,#[],_,g,Κ,(λe j=>Ι j (by simp)),λ_=>rfl⟩
 have l:=I.laid (a:=s.heap.objs.size) (o:=.own (s.heap.objs.size+1)) (h':=s.heap.push PySem.W.emptyDict) (t':=s.toks) (λb u q=>Ν _ q) (Ξ _) ⟨_,g⟩
 refine l.laid (a:=s.heap.objs.size+1) (o:=.ρ C s.heap.objs.size []) (t':=s.toks) (λb u q=>Ν _ q) (YQ (size_push _ _)) ?_
 have ne:s.heap.objs.size≠s.heap.objs.size+1:=ϳ (ê _)
 refine⟨by rw[aj ne,ae],ϡ _,ne,h,λ_=>Β,(Ó.Ns1.of_empty i).at λo q=>Ν _ q,λ_=>ϥ,λy m=>Ι Κ m⟩
theorem DI(c:ġ e f env (eval e env)=eval e env)
  (h:Ϣ (ϣ prog w) A (eval e env) (λo b=>Ϣ (ϣ prog w) A (getAttr o f Γ) Q E b) E s):Ϣ (ϣ prog w) A (eval (.Attribute e f pos) env) Q E s:=
 Attribute_any_ h (by rw[arm_eval_Attribute,c])
end
inductive Uaj(K:ϧ)(f:Str)(Q:VK)(x:V)(H1:Hp):Prop
 |mk (a C dx fs v)(_:x=.ref a)(_:H1 a=Α (.ρ C dx fs))(_:Km K C)(_:HL K C f)(_:fs.lookup f=Α v)(_:Q v H1)
def oK(K:ϧ)(ta:TE)(f:Str):TE:=λσ H Q=>ta σ H λx H1=>Uaj K f Q x H1
inductive Uak(K:ϧ)(f:Str)(D:mK)(σ:St)(y:V)(x:V)(H2:Hp):Prop
 |mk (a C dx fs)(_:x=.ref a)(_:H2 a=Α (.ρ C dx fs))(_:Km K C)(_:HL K C f)(_:fs.length<1000)(_:D.nx σ (ο H2 a (.ρ C dx (aO f y fs))))
def Zp(K:ϧ)(ta tv:TE)(f:Str):TS:=λD σ H=>tv σ H λy H1=>ta σ H1 λx H2=>Uak K f D σ y x H2
def Zq(X:Cx)(op:Operator)(rd:V->V->Hp->VK->Prop):Prop:=
 ∀(ν:List (Ο×Obj))(s:ύ)(σ:St)(H:Hp)(x y:V)(u v:Φ)(Q:VK),ς X ν σ H s->RelV x u->RelV y v->rd x y H Q->Ϣ (ϣ X.prog X.w) X.A (inplaceOp op u v) (EP X ν σ Q) X.xe s
inductive Ual(K:ϧ)(tv:TE)(rd:V->V->Hp->VK->Prop)(f:Str)(D:mK)(σ:St)(x:V)(H1:Hp):Prop
 |mk (a C dx fs v)(_:x=.ref a)(_:H1 a=Α (.ρ C dx fs))(_:Km K C)(_:HL K C f)(_:fs.lookup f=Α v)(_:tv σ H1 λy H2=>rd v y H2 λz H3=>∃KI Io,H3 a=Α (.ρ C KI Io)/\Io.length<1000/\D.nx σ (ο H3 a (.ρ C KI (aO f z Io))))
def BY(K:ϧ)(ta tv:TE)(rd:V->V->Hp->VK->Prop)(f:Str):TS:=λD σ H=>ta σ H λx H1=>Ual K tv rd f D σ x H1
section
theorem FB(d:PE X e ta)(g:ġ e f X.env (eval e X.env)=eval e X.env):PE X (.Attribute e f pos) (oK X.K ta f):=by
 intro b s i H Q I h
 refine DI g (aY (d b s i H _ I h) λu z j=>?_)
 obtain⟨x,m,p,r,a,C,A,fs,v,ex,t,c,n,l,q⟩:=j
 subst ex
 obtain rfl:u=Ç a:=r
 exact mf p t c n l λB D w y=>⟨v,m,w,y,q⟩
theorem bp(g:PE X o ta)(i:PE X value tv)(j:ż value (Α (.Attribute o f pos')) pos.line X.env=pure Δ):PS X (.Assign [.Attribute o f pos'] value pos) (Zp X.K ta tv f):=by
 intro b s d H D I h
 refine plainObj_wpAny_Assign_Attribute (aY (i b s d H _ I h) λu m ⟨y,p,r,t,q⟩=>aY (g b m d p _ r q) λv G w=>?_) j
 obtain⟨x,J,z,A,a,C,L,fs,ex,B,c,n,l,E⟩:=w
 subst ex
 obtain rfl:v=Ç a:=A
 exact ll z B c n l t λM F=>⟨d,_,F,E⟩
theorem fu(j:PE X o ta)(m:PE X value tv)(p:Zq X op rd):PS X (.AugAssign (.Attribute o f Kn) op value pos) (BY X.K ta tv rd f):=by
 intro b s d H D I h
 refine wpAny_AugAssign_AttributeAny (aY (j b s d H _ I h) λr Y g=>?_)
 obtain⟨x,t,w,A,a,C,Z,fs,v,ex,B,c,n,l,q⟩:=g
 subst ex
 obtain rfl:r=Ç a:=A
 refine mf w B c n l λu E F G=>aY (m b E d t _ F q) λJ L ⟨y,M,N,O,P⟩=>aY (p b L d M v y u J _ N G O P) λw4 s4 g=>?_
 obtain⟨z,H3,Q,R,KI,Io,i,S,T⟩:=g
 exact ll Q i c n S R λs5 U=>⟨d,_,U,T⟩
end
section
variable {X:Cx}{ν:List (Ο×Obj)}{σ:St}{H:Hp}{s:ύ}{A:ó}{E:Φ->ύ->Prop}{Q:Φ->ύ->Prop}{c:Φ}{b:Bool}
inductive jS(K:ϧ)(H:Hp):V->Φ->Prop where
 |HU:jS K H .HU (.type "NoneType")
 |bl (x:Bool):jS K H (.bl x) (.type "bool")
 |int (i:Int):jS K H (.int i) (.type "int")
 |str (x:Str):jS K H (.str x) (.type "str")
 |QC (x:UInt64):jS K H (.QC x) (.type "float")
 |π {a:Ο} {xs:List V} (e:H a=Α (.π xs)):jS K H (.ref a) (.type "list")
 |Jm {a:Ο} {o:Obj} {xs:List V} (e:H a=Α (.Jm o (.π xs))):jS K H (.ref a) (.type "list")
 |tup {a:Ο} {xs:List V} (e:H a=Α (.tup xs)):jS K H (.ref a) (.type "tuple")
 |dK {a:Ο} {kvs:List (Key×V)} (e:H a=Α (.dK kvs)):jS K H (.ref a) (.type "dict")
 |dT {a:Ο} {kvs:List (List Key×V)} (e:H a=Α (.dT kvs)):jS K H (.ref a) (.type "dict")
 | ρ {a C dx:Ο} {fs:List (Str×V)} (e:H a=Α (.ρ C dx fs)) (cl:Km K C) (ha:Ð K (.ref C) "__class__"=Α (Α (.builtin "object.__class__")))
   (hn:PySem.W.specialIn K (.builtin "object.__class__") "__get__"=Α (Α (.builtin "getset_descriptor.__get__"))) (N8:PySem.W.takesIn K (.builtin "object.__class__")=Α Γ)
   (hm:PySem.W.mroIn K C (.type "object")=Α Γ):jS K H (.ref a) (.ref C)
theorem xj(I:ς X ν σ H s)(d:RelV x u)(l:jS X.K H x t)(e:Ķ X.K t c=Α b)(h:∀m,Q (.bool b) {s with toks:=m}):
  Ϣ (ϣ X.prog X.w) A (call (.builtin "isinstance") [u,c]) Q E s:=by
 cases l with
 |HU=>cases (d);exact PySem.W.kia_one PySem.W.kitx_none I.JI ϥ e (λz=>nomatch z) h
 |bl y=>cases (d);exact PySem.W.kia_one PySem.W.kitx_bool I.JI ϥ e (λz=>nomatch z) h
 |int i=>obtain⟨t,q⟩:=(d);cases q;exact PySem.W.kia_one PySem.W.kitx_int I.JI ϥ e (λz=>nomatch z) h
 |str y=>obtain⟨t,q⟩:=(d);cases q;exact PySem.W.kia_one PySem.W.kitx_str I.JI ϥ e (λz=>nomatch z) h
 |QC y=>obtain⟨t,q⟩:=(d);cases q;exact PySem.W.kia_one PySem.W.kitx_float I.JI ϥ e (λz=>nomatch z) h
 | @π a xs ea =>
  cases (d)
  obtain⟨_,_,n,_,f⟩:=(I.HK a _ ea)
  exact PySem.W.kia_one PySem.W.kitx_list I.JI ⟨_,f,Κ⟩ e (λz=>nomatch z) h
 | @Jm a ob xs ea =>
  cases (d)
  obtain⟨_,_,_,n,_,f⟩:=(I.HK a _ ea)
  exact PySem.W.kia_one PySem.W.kitx_list I.JI ⟨_,f,Κ⟩ e (λz=>nomatch z) h
 | @tup a xs ea =>
  cases (d)
  obtain⟨_,_,_,p⟩:=(I.HK a _ ea)
  obtain⟨o,f,⟨g,_⟩,_⟩:=p
  exact PySem.W.kia_one PySem.W.kitx_tuple I.JI ⟨o,f,g⟩ e (λz=>nomatch z) h
 | @dK a kvs ea =>
  cases (d)
  obtain⟨_,_,B,_,p⟩:=(I.HK a _ ea)
  obtain⟨o,r,v,f,g,_⟩:=p
  exact PySem.W.kia_one PySem.W.kitx_dict I.JI ⟨o,f,g.1⟩ e (λz=>nomatch z) h
 | @dT a kvs ea =>
  cases (d)
  obtain⟨_,_,xs,_,o,r,v,f,g,_⟩:=(I.HK a _ ea)
  exact PySem.W.kia_one PySem.W.kitx_dict I.JI ⟨o,f,g.1⟩ e (λz=>nomatch z) h
 | @ρ a C dx fs ea cl ha hn N8 hm =>
  cases (d)
  obtain⟨D,O,_⟩:=kL I.HK ea
  obtain⟨F,J,_⟩:=O.look
  exact PySem.W.kia_one (PySem.W.kitx_own (cl.get _) cl.hd ha hn N8 hm) I.JI J e (λz=>nomatch z) h
end
structure Il(k:Nat)(A:ó):Prop where
 hd:A.handled=Β
 dp:A.depth+3* k+5<recursionLimit
 un:A.units+16* k+200<ĵ
theorem Il.mono(r:Il k A)(h:j<=k):Il j A:=⟨r.hd,by have:=r.dp;lia,by have:=r.un;lia⟩
theorem Il.deeper(r:Il (k+1) A)(a:Env):Il k (A.deeper a):=
 ⟨r.hd,by have:=r.dp;show A.depth+1+3* k+5<_;lia,by have:=r.un;show A.units+3+16* k+200<_;lia⟩
theorem tQ{A:ó}:(A.under (.builtin "type.__call__" ⟨.ref C:: us,kw⟩)).depth=A.depth+1:=by
 first|rfl|simp[Kp,XC.weight,XC.isCreation,XC.isGuard,XC.isCaller,XC.frames,Nm,guardIds]
theorem tP{A:ó}:(A.under (.builtin "type.__call__" ⟨.ref C:: us,kw⟩)).units=A.units+1:=by
 first|rfl|simp[Kp,XC.cUnits,XC.frames,Nm]
theorem Il.make(r:Il (k+1) A)(C:Ο)(us:List Φ)(a:List (Str×Φ)):Il k (A.under (.builtin "type.__call__" ⟨.ref C:: us,a⟩)):=
 ⟨r.hd,by have:=r.dp;rw[tQ];lia,by have:=r.un;rw[tP];lia⟩
theorem Il.depth(r:Il k A):A.depth<recursionLimit:=by have:=r.dp;lia
theorem Il.units(r:Il k A):A.units+64<ĵ:=by have:=r.un;lia
def BD:TA:=λ_ H Q=>Q [] H
def Em(ta:TE)(tr:TA):TA:=λσ H Q=>ta σ H λx H1=>tr σ H1 λxs H2=>Q (x:: xs) H2
section
theorem ad:PA X [] BD:=λ_ _ _ _ H Q I h=>ļ ⟨[],H,I,.nil,h⟩
theorem aa(d:PE X e te)(f:PA X es t)(g:autoParam (ϟ (e:: es) X.env=(Δ,eval e X.env):: ϟ es X.env) η):PA X (e:: es) (Em te t):=by
 intro pos a s c H Q I h
 rw[g]
 refine Ċ (aY (d a s c H _ I h) λu i b=>?_)
 obtain⟨x,j,l,m,n⟩:=b
 exact aY (f pos a i c j _ l n) λus v b=>by obtain⟨xs,o,p,q,r⟩:=b;exact⟨_,o,p,.cons m q,r⟩
def Zr(t:TA):TE:=λσ H Q=>t σ H λxs H1=>xs.length<=Χ/\∀p,H1 p=Β->Q (.ref p) (ο H1 p (.tup xs))
def Zs(t:TA):TE:=λσ H Q=>t σ H λxs H1=>xs.length<=Χ/\∀p,H1 p=Β->Q (.ref p) (ο H1 p (.π xs))
theorem aM(h:PA X es t):PE X (.Tuple es x1 pos) (Zr t):=by
 intro a s g H Q I i
 refine wpAny_Tuple_spliced (aY (h pos a s g H _ I i) λus c ⟨xs,d,f,r,z,q⟩=>⟨by rw[←r.length];exact z,?_⟩)
 have j:=f.HK.fresh (Ξ _)
 refine⟨.ref c.heap.objs.size,_,f.laid (t':=c.toks) (λb u e=>Ν _ e) (Ξ _) ?_,Κ,q _ j⟩
 exact⟨z,_,r,⟨_,ό _ Κ,⟨Κ,_,Κ⟩,Κ⟩⟩
theorem aJ(h:PA X es t):PE X (.List es pos) (Zs t):=by
 intro a s g H Q I i
 refine wpAny_List_spliced (aY (h pos a s g H _ I i) λus c ⟨xs,d,f,r,z,q⟩=>⟨by rw[←r.length];exact z,?_⟩)
 have j:=f.HK.fresh (Ξ _)
 refine⟨.ref c.heap.objs.size,_,f.laid (t':=c.toks) (λb u e=>Ν _ e) (Ξ _) ?_,Κ,q _ j⟩
 exact⟨z,_,0,r,ό _ Κ⟩
end
abbrev Sp:=List V->Hp->VK->XK->Prop
abbrev u7:=List Env->Hp->ύ->XK->Φ->ύ->Prop
structure LP(P:Program)(w:Å)(K:ϧ)(mg:Str->Option Φ)(μ:Ó)(A:ó)(outer:List Env)(s:ύ)(H:Hp):Prop where
 frames:A.frames=Α outer
 mod:Mod K mg μ
 bs:∀b o,μ.get? b=Α o->s.heap.get? b=Α o/\H b=Β
 OH:μ.objs.size<=s.heap.objs.size
 JY:s.heap.FunFrames μ outer
 QE:∀b∈vW outer,H b=Β
 HK:J0 P w H s.heap
 bare:cb s.gens
def CE(outer:List Env)(P:Program)(w:Å)(H:Hp)(s:ύ)(Q:VK)(u:Φ)(s':ύ):Prop:=
 ∃v H',s'.os=s.os/\cb s'.gens/\Un (vW outer) [] H H' s.heap s'.heap/\J0 P w H' s'.heap/\RelV v u/\Q v H'
def CR(CX:u7)(outer:List Env)(P:Program)(w:Å)(H:Hp)(s:ύ)(Q:VK)(E:XK)(r:Result)(s':ύ):Prop:=
 match r with
 |.ok (.ret u)=>CE outer P w H s Q u s'
 |.ok _=>False
 |.error e=>CX outer H s E e s'
structure HB(P:Program)(w:Å)(K:ϧ)(mg:Str->Option Φ)(μ:Ó)(CX:u7)(k:Nat)(f:Ο)(fd:Đ)(ps:List Str)(sp:Sp):Prop where
 len:∀vs H Q E,sp vs H Q E->vs.length=ps.length
 run:∀(A:ó)(outer:List Env)(s:ύ)(H:Hp)(args:Args)(us:List Φ)(vs:List V)(Q:VK)(E:XK),Il k A->LP P w K mg μ A outer s H->N2 s fd args (ps.zip us)->τ vs us->sp vs H Q E->
  Ũ (ϣ P w) A (.call (.ref f) args) (CR CX outer P w H s Q E) s
theorem HB.imp{K:ϧ}(F:HB P w K mg μ CX k f fd ps sp)
  (h:∀b H Q E,sp' b H Q E->sp b H Q E):HB P w K mg μ CX k f fd ps sp':=
 ⟨λb H Q E q=>F.len b H Q E (h _ _ _ _ q),λA a s H args us b Q E c d e g i=>F.run A a s H args us b Q E c d e g (h _ _ _ _ i)⟩
theorem LP.make{K:ϧ}(e:LP P w K mg μ A outer s H)(C:Ο)(us:List Φ)(a:List (Str×Φ)):
  LP P w K mg μ (A.under (.builtin "type.__call__" ⟨.ref C:: us,a⟩)) outer s H:=⟨by first|exact e.frames|(simpa [Kp,XC.envs,Nm,pushEnvs] using e.frames),e.mod,e.bs,e.OH,e.JY,e.QE,e.HK,e.bare⟩
section
variable {X:Cx}{ν:List (Ο×Obj)}{σ:St}{H:Hp}{s s':ύ}
theorem ς.Ti(I:ς X ν σ H s):LP X.prog X.w X.K X.mg X.μ X.A X.stack s H:=
 ⟨I.ok.frames,I.ok.mod,I.bs,Í I.ok.OH I.sz,I.stack,I.M0,I.HK,I.bare⟩
theorem ς.after(I:ς X ν σ H s)(h:CE X.stack X.prog X.w H s Q u s'):EP X ν σ Q u s':=by
 obtain⟨v,c,e,a,un,f,r,q⟩:=h
 obtain⟨i,g,d,t,j⟩:=s'
 obtain rfl:j=s.os:=e
 exact⟨v,c,I.call (h':=i) (g':=g) (d':=d) (t':=t) (ch:=[]) un f a (λb z=>Ι z (by simp)),r,q⟩
end
def Eo(sp:Sp)(Jx:List V)(E:XK)(t:TA):TE:=λσ H Q=>t σ H λvs H1=>sp (vs++Jx) H1 Q E
inductive Uam(C:Ο)(m:Str)(sp:Sp)(Jx:List V)(E:XK)(t:TA)(σ:St)(Q:VK)(x:V)(H1:Hp):Prop
 |mk (a dx fs)(_:x=.ref a)(_:H1 a=Α (.ρ C dx fs))(_:fs.lookup m=Β)(_:t σ H1 λvs H2=>sp (x:: (vs++Jx)) H2 Q E)
def uG(C:Ο)(m:Str)(sp:Sp)(Jx:List V)(E:XK)(ta:TE)(t:TA):TE:=λσ H Q=>ta σ H λx H1=>Uam C m sp Jx E t σ Q x H1
def Tj(C:Ο)(sp:Sp)(Jx:List V)(E:XK)(t:TA):TE:=λσ H Q=>t σ H λvs H1=>∀x dx,H1 x=Β->H1 dx=Β->dx≠x->
 sp (.ref x:: (vs++Jx)) (ο (ο H1 dx (.own x)) x (.ρ C dx [])) (λv H2=>v=.HU/\Q (.ref x) H2) E
def Binds(K:ϧ)(fd:Đ)(ps:List Str)(ds:List Φ):Prop:=
 ∀(s:ύ)(us:List Φ),K.In s.heap->(us++ds).length=ps.length->N2 s fd ⟨us,[]⟩ (ps.zip (us++ds))
theorem Binds.all{K:ϧ}(h:∀us:List Φ,us.length=ps.length->VD fd ⟨us,[]⟩=pure (ps.zip us)):Binds K fd ps []:=λs us _ a=>by
 rw[Ų]at a⊢
 exact .of_eq (h us a)
def il(CX:u7)(X:Cx)(E:XK):Prop:=∀(ν:List (Ο×Obj))(σ:St)(H:Hp)(s:ύ)(e:Φ)(s':ύ),ς X ν σ H s->CX X.stack H s E e s'->X.xe e s'
section
theorem pb{b:St}(F:HB X.prog X.w X.K X.mg X.μ CX k f fd ps sp)(d:Il k X.A)(g:Binds X.K fd ps ds)(i:τ Jx ds)(j:il CX X E)
  (I:ς X ν b H s) (r:τ vs us) (h:sp (vs++Jx) H Q E):Ϣ (ϣ X.prog X.w) X.A (call (.ref f) us) (EP X ν b Q) X.xe s:=by
 have c:=r.append i
 have l:(us++ds).length=ps.length:=by rw[←c.length];exact F.len _ _ _ _ h
 refine W5 (ŧ (F.run X.A X.stack s H ⟨us,[]⟩ (us++ds) (vs++Jx) Q E d I.Ti (g s us I.JI l) c h) λr n a=>?_)
 cases r with
 |error e=>exact j ν b H s e n I a
 | ok q =>
  cases q with
  |ret u=>exact I.after a
  |next=>exact ð a
  |brk=>exact ð a
  |cont=>exact ð a
theorem iq(F:HB X.prog X.w X.K X.mg X.μ CX k f fd ps sp)(d:Il k X.A)(g:Gl X x)(i:X.mg x=Α (.ref f))(j:Ę X.K (.ref f)=Γ)(l:Binds X.K fd ps ds)(n:τ Jx ds)(u:il CX X E)
  (v:PA X (e:: es) t) (y:autoParam ((x == ("__debug__":Str))=Δ) θ) (z:autoParam (ϟ (e:: es) X.env=(Δ,eval e X.env):: ϟ es X.env) η) (b:autoParam ((î pos (ϟ es X.env)).any (·.1)=Δ) η):
  PE X (.Call (.Name x p) (e:: es) [] pos) (Eo sp Jx E t):=by
 intro a s B H Q I h
 refine Ů (pD I g i ?_ y)
 refine PySem.W.callWith_K (h₀:=X.μ) I.ok.mod.Ox j (aY (v pos a s B H _ I h) λus D ⟨G,J,c,r,q⟩=>⟨c.JI,?_⟩) z b
 exact pb F d l n u c r q
theorem Cu(z:PE X o ta)(c:Km X.K C)(g:By X.K C m f)(F:HB X.prog X.w X.K X.mg X.μ CX k f fd ps sp)(B:Il k X.A)(D:Binds X.K fd ps ds)(G:τ Jx ds)(J:il CX X E)(L:PA X (e:: es) t)
  (M:autoParam (ϟ (e:: es) X.env=(Δ,eval e X.env):: ϟ es X.env) η) (d:autoParam ((î pos (ϟ es X.env)).any (·.1)=Δ) η)
  (N:eval (.Call (.Attribute o m apos) (e:: es) [] pos) X.env=(do
   let i ← eval o X.env
   kz apos.atName
   let (f,first) ← ŵ [i] (getMethod i m pl)
   callWith pos f first (î pos (ϟ (e:: es) X.env)) (ů pos (ħ [] X.env))):=by rfl):
  PE X (.Call (.Attribute o m apos) (e:: es) [] pos) (uG C m sp Jx E ta t):=by
 intro b s j H Q I h
 refine PySem.W.methodCall_KW (pl:=pl) (aY (z b s j H _ I h) λu O P=>?_) N
 obtain⟨x,R,n,S,a,Y,fs,ex,T,l,q⟩:=P
 subst ex
 obtain rfl:u=Ç a:=S
 refine me n T c g l ?_
 refine PySem.W.callWith_K (first:=[.ref a]) (h₀:=X.μ) I.ok.mod.Ox g.kp (aY (L pos b O j R _ n q) λus Z ⟨vs,H2,y,r,U⟩=>⟨y.JI,?_⟩) M d
 exact pb (us:=.ref a:: us) (vs:=.ref a:: vs) F B D G J y (.cons Κ r) U
theorem zu(j:PE X o ta)(c:Km X.K C)(g:By X.K C m f)(F:HB X.prog X.w X.K X.mg X.μ CX k f fd ps sp)(n:Il k X.A)(r:Binds X.K fd ps ds)(v:τ Jx ds)(y:il CX X E)
  (z:eval (.Call (.Attribute o m apos) [] [] pos) X.env=(do
   let i ← eval o X.env
   kz apos.atName
   let (f,first) ← ŵ [i] (getMethod i m pl)
   callWith pos f first (î pos (ϟ [] X.env)) (ů pos (ħ [] X.env))):=by rfl):
  PE X (.Call (.Attribute o m apos) [] [] pos) (uG C m sp Jx E ta BD):=by
 intro b s B H Q I h
 refine PySem.W.methodCall_KW (pl:=pl) (aY (j b s B H _ I h) λu L D=>?_) z
 obtain⟨x,M,d,G,a,N,fs,ex,J,l,q⟩:=D
 subst ex
 obtain rfl:u=Ç a:=G
 refine me d J c g l ?_
 exact PySem.W.callWith_K0 (first:=[.ref a]) d.JI g.kp (pb (us:=[.ref a]) (vs:=[.ref a]) F n r v y d (.cons Κ .nil) q)
structure Mk(K:ϧ)(C f:Ο):Prop where
 makes:b4 K C=Γ
 init:Ð K (.ref C) "__init__"=Α (Α (.ref f))
 fn:isFn K (.ref f)=Γ
 kp:Ę K (.ref C)=Γ
theorem zi{d:St}(M:Mk X.K C f)(F:HB X.prog X.w X.K X.mg X.μ CX k f fd ps sp)(j:Il (k+1) X.A)(l:Binds X.K fd ps ds)(n:τ Jx ds)
  (q:il CX X E) (I:ς X ν d H s) (r:τ vs us)
  (h:∀x b,H x=Β->H b=Β->b≠x->sp (.ref x:: (vs++Jx)) (ο (ο H b (.own x)) x (.ρ C b [])) (λv y=>v=.HU/\Q (.ref x) y) E):
  Ϣ (ϣ X.prog X.w) X.A (call (.ref C) us) (EP X ν d Q) X.xe s:=by
 have g:=h (s.heap.objs.size+1) s.heap.objs.size (I.HK.fresh (Nat.le_succ _)) (I.HK.fresh (Ξ _)) (ϳ (ê _))
 have c:=ς.made (C:=C) I
 have i:τ (V.ref (s.heap.objs.size+1):: (vs++Jx)) (Ç (s.heap.objs.size+1):: (us++ds)):=.cons Κ (r.append n)
 have z:(Ç (s.heap.objs.size+1):: us++ds).length=ps.length:=by
  have e:=i.length
  rw[F.len _ _ _ _ g]at e
  exact e.symm
 refine W5 (Au (f:=f) I.JI M.makes M.init (beq_iff_eq.mp M.fn) (ŧ (F.run _ X.stack _ _ ⟨Ç (s.heap.objs.size+1):: us,[]⟩ (Ç (s.heap.objs.size+1):: (us++ds)) _ _ E (j.make C us [])
  (c.Ti.make C us []) (l _ (Ç (s.heap.objs.size+1):: us) c.JI z) i g) λr B a=>?_))
 cases r with
 |error e=>exact q ν d _ _ e B c a
 | ok D =>
  cases D with
  | ret u =>
   obtain⟨v,G,J,L,N,O⟩:=c.after a
   subst N
   exact⟨L,⟨V.ref (s.heap.objs.size+1),G,J,Κ,O⟩⟩
  |next=>exact ð a
  |brk=>exact ð a
  |cont=>exact ð a
theorem dr(M:Mk X.K C f)(F:HB X.prog X.w X.K X.mg X.μ CX k f fd ps sp)(d:Il (k+1) X.A)(g:Gl X x)(i:X.mg x=Α (.ref C))(j:Binds X.K fd ps ds)(l:τ Jx ds)(n:il CX X E)
  (u:PA X (e:: es) t) (v:autoParam ((x == ("__debug__":Str))=Δ) θ) (y:autoParam (ϟ (e:: es) X.env=(Δ,eval e X.env):: ϟ es X.env) η) (b:autoParam ((î pos (ϟ es X.env)).any (·.1)=Δ) η):
  PE X (.Call (.Name x p) (e:: es) [] pos) (Tj C sp Jx E t):=by
 intro a s z H Q I h
 refine Ů (pD I g i ?_ v)
 refine PySem.W.callWith_K (h₀:=X.μ) I.ok.mod.Ox M.kp (aY (u pos a s z H _ I h) λus B ⟨D,G,c,r,q⟩=>⟨c.JI,?_⟩) y b
 exact zi M F d j l n c r q
end
section
end
structure aq(N P:List Str)(sc:Scope):Prop where
 kind:sc.kind=.function
 co:sc.isCoroutine=Δ
 gen:sc.isGenerator=Δ
 nd:N.Nodup
 pre:N.take P.length=P
 par:∀x∈P,sc.names.lookup x=Α .local∨sc.names.lookup x=Α .cell
 LQ:∀y∈sc.names,y.2≠.free
theorem ou{a:Str->Option Ļ}:∀{binds:List (Str×Φ)}{m:Str->Option Φ},(∀v,(x,v)∉binds)->Vf a binds m x=m x
 |[],_,_=>rfl
 | (n,v):: r,m,h=>by
  unfold Vf
  rw[ou λw b=>h w (Ϯ _ b)]
  split
  ·grind
  ·rfl
theorem oy{a:Str->Option Ļ}:∀{binds:List (Str×Φ)}{m:Str->Option Φ},(∀v,(x,v)∉binds)->VC a binds m x=m x
 |[],_,_=>rfl
 | (n,v):: r,m,h=>by
  unfold VC
  rw[oy λw b=>h w (Ϯ _ b)]
  split
  ·rfl
  grind
theorem ow{a:Str->Option Ļ}:∀{P:List Str}{b:List Φ}{i:Nat}{m:Str->Option Φ},P.Nodup->P[i]?=Α x->b[i]?=Α v->a x=Α .local->
  Vf a (P.zip b) m x=Α v
 |[],_,_,_,_,h,_,_=>by simp at h
 |_:: _,[],_,_,_,_,h,_=>by simp at h
 | p:: P,w:: b,0,m,nd,h1,h2,hk=>by
  simp at h1 h2;subst h1;subst h2
  show Vf a ((p,w):: P.zip b) m p=_
  unfold Vf
  rw[ou λv c=>(è.mp nd).1 (XM c).1,Θ hk]
  simp
 | p:: P,w:: b,i+1,m,nd,h1,h2,hk=>by
  unfold Vf
  exact ow (i:=i) (è.mp nd).2 (by simpa using h1) (by simpa using h2) hk
theorem oz{a:Str->Option Ļ}:∀{P:List Str}{b:List Φ}{i:Nat}{m:Str->Option Φ},P.Nodup->P[i]?=Α x->b[i]?=Α v->a x≠Α .local->
  VC a (P.zip b) m x=Α v
 |[],_,_,_,_,h,_,_=>by simp at h
 |_:: _,[],_,_,_,_,h,_=>by simp at h
 | p:: P,w:: b,0,m,nd,h1,h2,hk=>by
  simp at h1 h2;subst h1;subst h2
  show VC a ((p,w):: P.zip b) m p=_
  unfold VC
  rw[oy λv c=>(è.mp nd).1 (XM c).1,Η hk]
  simp
 | p:: P,w:: b,i+1,m,nd,h1,h2,hk=>by
  unfold VC
  exact oz (i:=i) (è.mp nd).2 (by grind) (by grind) hk
noncomputable def start(N:List Str)(vs:List V):St:=vs.map Α++Ϗ (N.length - vs.length) Β
noncomputable def ud(CX:u7)(P:Program)(w:Å)(K:ϧ)(mg:Str->Option Φ)(μ:Ó)(N:List Str)(qual:Str)(scope:Scope)(f:Ο)(cd:Φ)(A:ó)(outer:List Env)(s:ύ)(H:Hp)(E:XK):Cx where
 prog:=P
 w:=w
 K:=K
 mg:=mg
 μ:=μ
 A:=A.deeper (hW qual scope s.heap.objs.size f cd)
 N:=N
 s₀:=s
 H₀:=H
 env:=hW qual scope s.heap.objs.size f cd
 outer:=outer
 stack:=hW qual scope s.heap.objs.size f cd:: outer
 ex:=[]
 calm:=Γ
 fn:=λ_=>Γ
 pn:=[]
 xe:=λe s'=>Ϣ (ϣ P w) (A.deeper (hW qual scope s.heap.objs.size f cd)) (leaving (hW qual scope s.heap.objs.size f cd) e) (λ_ Tn=>CX outer H s E e Tn) (λe' Tn=>CX outer H s E e' Tn) s'
theorem rV{a:Scope}(h:a.names.lookup x=Α .cell):∃c,(cellsFrom n a.names []).lookup x=Α c:=by
 have q:=PySem.W.cellsFrom_some a.names n [] (.inl h)
 exact D3.mp q
theorem xk{K:ϧ}
  (S:aq N ps scope) (C:A.handled=Β) (a:LP P w K mg μ A outer s H) (I:vs.length=ps.length) (r:τ vs us)
  (x:InCallC s s.heap.objs.size (Vf (hW qual scope s.heap.objs.size f cd).kindOf (ps.zip us) λ_=>Β) (cellsFrom (s.heap.objs.size+1) scope.names []) (VC (hW qual scope s.heap.objs.size f cd).kindOf (ps.zip us) λ_=>Β) s1):
  ς (ud CX P w K mg μ N qual scope f cd A outer s H E) [] (start N vs) H s1:=by
 have D:ps.length<=N.length:=by have:=congrArg p0 S.pre;grind
 obtain⟨l,J,rfl,t⟩:=x.done
 have o:∀b:Ο,b∉(ud CX P w K mg μ N qual scope f cd A outer s H E).ex:=λb z=>Ι (show b∈([]:List Ο) from z) (by simp)
 refine⟨⟨a.mod,S.kind,Κ,Κ,Ξ _,λy z c l m=>?_,λy d=>?_,λy c _ h=>?_,λ_=>C,ó.frames_deeper a.frames,.inr ⟨Κ,Κ⟩,λb z=>Ι z (o b),a.bs,a.OH,λb _ _=>o b,λb z=>Ι z (o b),a.JY,a.QE⟩,
  rfl,a.bare,Un.kept t,⟨_,x.toInCall.ns,λi y v l m L=>?_⟩,λy c h=>⟨_,x.cell y c h⟩,a.HK.fresh (Ξ _),λy c h=>?_,λp g=>Ι (show p∈([]:List (Ο×Obj)) from g) (by simp),a.HK.kept t,?_⟩
 ·exact name_of_addr x.apart (PySem.mem_of_lookup l) (PySem.mem_of_lookup m)
 ·have d:=d
  rcases d with d|d
  ·exact rV d
  ·exact Ι Κ (S.LQ _ (PySem.mem_of_lookup d))
 ·exact zz (x.above y c (PySem.mem_of_lookup h))
 ·have M:i<vs.length:=by
   unfold start at m
   grind
  have F:vs[i]?=Α v:=by
   unfold start at m
   grind
  obtain⟨u,B,G⟩:=r.get F
  have g:ps[i]?=Α y:=by
   rw[←S.pre,Lf (by lia)];exact l
  have j:ps.Nodup:=by rw[←S.pre];exact S.nd.sublist (Tq _ _)
  refine⟨u,G,?_⟩
  rcases S.par y (Ψ g) with k|k
  ·exact .inl ⟨k,ow j g B k⟩
  ·obtain⟨c,e⟩:=rV (n:=s.heap.objs.size+1) k
   refine .inr ⟨.inl k,c,e,?_⟩
   have q:=x.cell y c e
   rw[oz j g B (by show scope.names.lookup y≠_;grind)]at q
   exact q
 ·exact a.HK.fresh (zz (x.above y c (PySem.mem_of_lookup h)))
 ·unfold start
  show _=N.length
  grind
theorem ED{K:ϧ}{dV kV j B c C L:Φ}
  (lk:K.lookup f=Α ⟨L,od,.func (oo name qual params body scope dV kV j B an c C),M4⟩) (M:ot K c qual=Γ) (S:aq N ps scope)
  (len:∀d H Q E,sp d H Q E->d.length=ps.length)
  (O:∀(A:ó)(a:List Env)(s:ύ)(H:Hp)(d:List V)(Q:VK)(E:XK),Il k (A.deeper (hW qual scope s.heap.objs.size f c))->sp d H Q E->
   ∃t,LN (ud CX P w K mg μ N qual scope f c A a s H E) body t/\t {nx:=λ_ h=>Q .HU h,rt:=Q} (start N d) H):
  HB P w K mg μ CX (k+1) f (oo name qual params body scope dV kV j B an c C) ps sp:=by
 refine⟨len,λA a s H args us d Q E m l R r D=>?_⟩
 have T:=len _ _ _ _ D
 have F:=l.mod.Ox.keeps λb o e=>(l.bs b o e).1
 have lim:=l.mod.nolimit.keeps λb o e=>(l.bs b o e).1
 have U:∀y∈ps.zip us,scope.names.lookup y.1=Α .local∨(scope.names.lookup y.1=Α .cell/\((cellsFrom (s.heap.objs.size+1) scope.names []).lookup y.1).isSome=Γ):=fun⟨n,v⟩ hy=>by
  rcases S.par n (XM hy).1 with q|q
  ·exact .inl q
  ·exact .inr ⟨q,PySem.W.cellsFrom_some _ _ _ (.inl q)⟩
 refine codeAny_call_function m.depth (F _ _ lk) Κ S.co S.gen Κ (PySem.W.codeRec_of F M) (R _ _ _ _ ?_)
 refine wpAny_newFunctionEnv_cells S.kind U λX Y G x=>?_
 subst Y
 refine⟨lim.keeps x.toInCall.keep,codeAny_func ?_⟩
 obtain⟨t,Z,hq⟩:=O A a s H d Q E (m.deeper _) D
 have I:ς (ud CX P w K mg μ N qual scope f c A a s H E) [] (start N d) H G:=xk S m.hd l T r x
 refine ú (Z [] G (start N d) H _ I hq) (λfl p i=>?_) λe p i=>i
 have fin:∀{g:St}{h:Hp}{v:V}{u:Φ},ς (ud CX P w K mg μ N qual scope f c A a s H E) [] g h p->RelV v u->Q v h->CE a P w H s Q u p:=
  λ{g h v u} J z q=>⟨v,h,J.os,J.bare,J.μ,J.HK,z,q⟩
 cases fl with
 | ret u =>
  obtain⟨v,g,h,J,z,q⟩:=i
  exact fin J z q
 | next =>
  obtain⟨g,h,J,q⟩:=i
  exact fin (v:=V.HU) (u:=ý) J Κ q
 | brk =>
  obtain⟨_,_,_,q⟩:=i
  exact ð q
 | cont =>
  obtain⟨_,_,_,q⟩:=i
  exact ð q
section
variable {X:Cx}{x:Str}{p pos:Pos}{e:Expr}{es:List Expr}{t:TA}{id T:String}{r:List V->Hp->VK->Prop}
def Zt(r:List V->Hp->VK->Prop)(t:TA):TE:=λσ H Q=>t σ H λvs H1=>r vs H1 Q
theorem aH(c:c5 X (.builtin id) r)(d:Gl X x)(f:X.mg x=Β)(g:Ă x=Α (.builtin id))(i:PA X (e:: es) t)(j:autoParam (x≠ "__name__") θ)(l:autoParam ((x == ("__debug__":Str))=Δ) θ)
  (he:autoParam (ϟ (e:: es) X.env=(Δ,eval e X.env):: ϟ es X.env) η) (hpl:autoParam ((î pos (ϟ es X.env)).any (·.1)=Δ) η):PE X (.Call (.Name x p) (e:: es) [] pos) (Zt r t):=by
 intro a s b H Q I h
 refine Ů (dj I d f g ?_ j l)
 exact PyProof.Rows.callWith_builtin1 (aY (i pos a s b H _ I h) λus m n=>by obtain⟨o,q,u,v,w⟩:=n;exact c a m b q o us Q u v w) he hpl
theorem bP(d:c5 X (.type T) r)(f:Gl X x)(g:X.mg x=Β)(i:Ă x=Α (.type T))(j:PA X (e:: es) t)(l:autoParam (x≠ "__name__") θ)(m:autoParam ((x == ("__debug__":Str))=Δ) θ)
  (n:autoParam (ϟ (e:: es) X.env=(Δ,eval e X.env):: ϟ es X.env) η) (b:autoParam ((î pos (ϟ es X.env)).any (·.1)=Δ) η):PE X (.Call (.Name x p) (e:: es) [] pos) (Zt r t):=by
 intro a s c H Q I h
 refine Ů (dj I f g i ?_ l m)
 exact ϭ (aY (j pos a s c H _ I h) λus o q=>by obtain⟨u,v,w,y,z⟩:=q;exact d a o c v u us Q w y z) n b
end
end _L2
namespace HT
open PySem PyProof.Rows
section
open PySem.SeqAt
open PySem.AutoSeq1 (wpAny_loadPart')
open PySem.MeetsSeq PySem.MeetsSeq2 PySem.MeetsSeq3
end
section
theorem OM(x:IsTup s.heap t vs.toArray)(y:IsTup s.heap b ws.toArray)(i:vs≠[])
  (z:ws=[]->Q (.ref t) s) (B:ws≠[]->Q (.ref s.heap.objs.size) {s with heap:=s.heap.push {cls:=.type "tuple",data:=.seq (vs++ws).toArray}})
  (g:vs.length+ws.length<=Χ):Ϣ (ϣ prog w) A (binaryOp .Add (.ref t) (.ref b)) Q E s:=by
 obtain⟨⟨cls,l,data,m⟩,c,o,n,p⟩:=id x
 obtain⟨⟨C,q,h,r⟩,d,u,v,a⟩:=id y
 simp only at o p u a
 subst o p u a
 have e:vs.toArray++ws.toArray=(vs++ws).toArray:=by simp
 by_cases f:ws=[]
 ·exact S8 ⟨_,c,Κ⟩ ⟨_,d,Κ⟩ IK PM slot_tuple_add entry_tuple_add (args_tuple_add_2 _ _)
   (tuple_addW1 t b vs.toArray ws.toArray n v l q m r (by simpa using i) (by simp[f])) ⟨c,d,z f⟩
 ·refine S8 ⟨_,c,Κ⟩ ⟨_,d,Κ⟩ IK PM slot_tuple_add entry_tuple_add (args_tuple_add_2 _ _)
   (tuple_addW2 t b vs.toArray ws.toArray n v l q m r (by simpa using i) (by simpa using f) (by rw[ô,ô];exact g)) ⟨c,d,?_⟩
  rw[e]
  exact B f
noncomputable def K6(n d:Nat):Option Int->Nat
 |none=>d
 |some v=>if v<0 then (v+(n:Int)).toNat else min v.toNat n
theorem N9(n d:Nat):K6 n d Β=d:=rfl
theorem Kf(n d k:Nat):K6 n d (Α (k:Int))=min k n:=by
 show(if (k:Int)<0 then ((k:Int)+(n:Int)).toNat else min (k:Int).toNat n)=min k n
 rw[Η (by lia),Τ]
end
end HT
namespace _L2
open PySem PySem.Spec PyProof.Rows
abbrev TO:=St->Hp->(Option Int->Hp->Prop)->Prop
def PO(X:Cx)(e:Option Expr)(t:TO):Prop:=
 ∀(ν:List (Ο×Obj))(s:ύ)(σ:St)(H:Hp)(Q:Option Int->Hp->Prop),ς X ν σ H s->t σ H Q->
  Ϣ (ϣ X.prog X.w) X.A (evalPart e X.env) (λu s'=>∃o H',ς X ν σ H' s'/\IsPart u o/\Q o H') X.xe s
def BC:TO:=λ_ H Q=>Q Β H
inductive Uan(Q:Option Int->Hp->Prop)(x:V)(H1:Hp):Prop
 |mk (i)(_:x=.int i)(_:Q (Α i) H1)
def Tr(t:TE):TO:=λσ H Q=>t σ H λx H1=>Uan Q x H1
theorem fZ:∀{us:List Φ},τ (a.map V.int) us->b6 us a:=by
 induction a with
 |nil=>intro us r;rw[NA]at r;cases r;exact .nil
 | cons n a b =>
  intro us r
  rw[È]at r
  cases r with
  | cons c d =>
   obtain⟨t,e⟩:=c
   subst e
   exact .cons n t (b d)
section
variable {X:Cx}{e:Expr}{te:TE}{lo hi:Option Expr}{tl th:TO}{pos p2:Pos}
theorem ip:PO X Β BC:=by
 intro a s b H Q I h
 rw[evalPart_none]
 exact Ϙ ⟨Β,H,I,.none,h⟩
theorem eG(h:PE X e te):PO X (Α e) (Tr te):=by
 intro a s b H Q I c
 rw[evalPart_some]
 refine aY (h a s b H _ I c) λu m d=>?_
 obtain⟨x,f,g,j,l⟩:=d
 obtain⟨i,rfl,q⟩:=l
 obtain⟨t,rfl⟩:=j
 exact⟨_,f,g,.int i t,q⟩
def SlR(X:Cx)(r:V->Option Int->Option Int->Hp->VK->Prop):Prop:=
 ∀(ν:List (Ο×Obj))(s:ύ)(σ:St)(H:Hp)(x:V)(v vl vu:Φ)(lo hi:Option Int)(sl:Ο)(Q:VK),ς X ν σ H s->RelV x v->s.heap.IsSliceOf sl vl vu .none->IsPart vl lo->IsPart vu hi->r x lo hi H Q->
  ∃T id,Oc (.type T) "__getitem__"=pure (Α (.builtin id))/\s.TypeIs v T/\Ϣ (ϣ X.prog X.w) X.A (getItem v (.ref sl)) (EP X ν σ Q) X.xe s
def tSl(r:V->Option Int->Option Int->Hp->VK->Prop)(te:TE)(tl th:TO):TE:=λσ H Q=>te σ H λx H1=>tl σ H1 λl H2=>th σ H2 λu H3=>r x l u H3 Q
theorem dW(n:SlR X r)(o:PE X e te)(p:PO X lo tl)(t:PO X hi th):PE X (.Subscript e (.Slice lo hi Β p2) pos) (tSl r te tl th):=by
 intro a s f H Q I h
 refine XJ (aY (o a s f H _ I h) λv y j=>?_)
 obtain⟨x,z,B,C,D⟩:=j
 refine wpAny_Slice (aY (p a y f z _ B D) λg E ⟨l,F,G,J,K⟩=>aY (t a E f F _ G K) λi c j=>?_)
 obtain⟨u,m,L,M,N⟩:=j
 rw[evalPart_none]
 refine Ϙ ?_
 have O:ς X a f m {c with heap:=c.heap.push {cls:=.type "slice",data:=.fields #[g,i,.none]}}:=L.kept (t':=c.toks) λb U q=>Ν _ q
 obtain⟨T,Y,P,R,S⟩:=n a {c with heap:=c.heap.push {cls:=.type "slice",data:=.fields #[g,i,.none]}} f m x v g i l u c.heap.objs.size Q O C (Ó.IsSliceOf.new ..) J M N
 exact tail_any (ops:=[.ref c.heap.objs.size,v]) R P S (by with_unfolding_all rfl)
noncomputable def iQ(xs:List V)(lo hi:Option Int):List V:=(xs.drop (HT.K6 xs.length 0 lo)).take (HT.K6 xs.length xs.length hi - HT.K6 xs.length 0 lo)
theorem rP(xs:List V)(lo hi:Option Int):(iQ xs lo hi).length<=xs.length:=by
 unfold iQ
 rw[ņ,ø]
 lia
inductive Tt(K:ϧ)(x:V)(y:V)(H:Hp)(Q:VK):Prop
 |mk (a b xs ys)(_:x=.ref a)(_:y=.ref b)(_:HF K H a xs)(_:HF K H b ys)(_:xs≠[])(_:xs.length+ys.length<=Χ)(_:(ys=[]->Q (.ref a) H)/\(ys≠[]->∀p,H p=Β->Q (.ref p) (ο H p (.tup (xs++ys)))))
theorem τ.Kg(r:τ xs us):us=[]↔xs=[]:=by
 cases r with
 |nil=>simp
 |cons _ _=>simp
theorem C0:eB X (binaryOp .Add) (Tt X.K):=by
 intro f s B H x y v u Q I i j h
 obtain⟨a,b,xs,l,rfl,rfl,m,n,p,g,r,t⟩:=h
 cases i
 cases j
 obtain⟨C,d,A,_⟩:=I.tuple m
 obtain⟨D,c,p2,_⟩:=I.tuple n
 refine HT.OM A p2 (λz=>p (d.Kg.mp z)) (λz=>⟨.ref a,H,I,Κ,r (c.Kg.mp z)⟩) (λz=>?_) (by rw[←d.length,←c.length];exact g)
 refine⟨.ref s.heap.objs.size,_,I.laid (t':=s.toks) (o:=.tup (xs++l)) (λb E q=>Ν _ q) (Ξ _) ?_,Κ,t (λw=>z (c.Kg.mpr w)) _ (I.HK.fresh (Ξ _))⟩
 exact⟨by rw[ϛ];exact g,_,d.append c,Je.new _ _⟩
end
noncomputable def AE(n:Nat)(i:Int):Option Nat:=if 0<=i then (if i<n then Α i.toNat else Β) else if -(n:Int)<=i then Α (i+n).toNat else Β
noncomputable def qf{α:Type}(xs:List α)(i:Int):Option α:=(AE xs.length i).bind λj=>xs[j]?
theorem vP(h:AE n i=Α j):IA i n=Α j/\j<n/\-(n:Int)<=i/\i<n:=by
 unfold AE at h
 by_cases b:0<=i
 ·rw[Θ b]at h
  by_cases a:i<n
  ·rw[Θ a]at h
   have e:=ϋ h
   exact⟨by rw[Vd b a,e],by lia,by lia,a⟩
  ·rw[Η a]at h;cases h
 ·rw[Η b]at h
  by_cases a:-(n:Int)<=i
  ·rw[Θ a]at h
   have e:=ϋ h
   exact⟨by rw[seqIndex_neg (by lia) a,e],by lia,a,by lia⟩
  ·rw[Η a]at h;cases h
theorem pW(h:qf xs i=Α v):∃j,IA i xs.length=Α j/\xs[j]?=Α v/\j<xs.length/\-(xs.length:Int)<=i/\i<xs.length:=by
 unfold qf at h
 cases e:AE xs.length i with
 |none=>rw[e]at h;cases h
 | some j =>
  rw[e]at h
  obtain⟨a,b,c,d⟩:=vP e
  exact⟨j,a,h,b,c,d⟩
theorem al{j:Nat}{v:α}(h:xs[j]?=Α v):qf xs (j:Int)=Α v:=by
 have a:=(gQ0 h)
 have e:AE xs.length (j:Int)=Α j:=by
  unfold AE
  rw[Θ (by lia),Θ (by lia)];simp
 unfold qf;rw[e];exact h
def wx(b:Expr):Prop:=∀o i,JS b Δ o i=operate [o,i] (getItem o i)
def JQ(X:Cx)(r:R2):Prop:=
 ∀(value slice:Expr)(ν:List (Ο×Obj))(s:ύ)(σ:St)(H:Hp)(x y:V)(v u:Φ)(Q:VK),ς X ν σ H s->RelV x v->RelV y u->r x y H Q->
  JS slice Δ v u=operate [v,u] (getItem v u)->Ϣ (ϣ X.prog X.w) X.A (subscriptTail value slice v u) (EP X ν σ Q) X.xe s
def XA(X:Cx)(id:String)(r:V->List V->Hp->VK->Prop):Prop:=
 ∀(ν:List (Ο×Obj))(s:ύ)(σ:St)(H:Hp)(x:V)(xs:List V)(v:Φ)(us:List Φ)(Q:VK),ς X ν σ H s->RelV x v->τ xs us->r x xs H Q->
  Ϣ (ϣ X.prog X.w) X.A (call (.builtin id) (v:: us)) (EP X ν σ Q) X.xe s
section
theorem JQ.or(h:JQ X r)(i:JQ X r'):JQ X (λx y H Q=>r x y H Q∨r' x y H Q):=by
 intro value slice c s d H x y v u Q I e f q g
 rcases q with q|q
 ·exact h value slice c s d H x y v u Q I e f q g
 ·exact i value slice c s d H x y v u Q I e f q g
theorem Tu(d:JQ X r)(e:PE X a ta)(f:PE X b tb)(g:wx b):PE X (.Subscript a b pos) (ER r ta tb):=by
 intro c s i H Q I h
 exact XJ (Hd e f I h λv u j x y l m n o q=>d a b c j i l x y v u Q m n o q (g _ _))
inductive qO(K:ϧ)(x:V)(y:V)(H:Hp)(Q:VK):Prop
 |mk (p xs i v)(_:x=.ref p)(_:y=.int i)(_:HC K H p xs)(_:qf xs i=Α v)(_:Q v H)
inductive ki(K:ϧ)(x:V)(y:V)(H:Hp)(Q:VK):Prop
 |mk (p xs i v)(_:x=.ref p)(_:y=.int i)(_:HF K H p xs)(_:qf xs i=Α v)(_:Q v H)
inductive Tv(x:V)(y:V)(H:Hp)(Q:VK):Prop
 |mk (z i c)(_:x=.str z)(_:y=.int i)(_:z.length<=Χ)(_:qf z.cps.toList i=Α c)(_:Q (.str ⟨#[c]⟩) H)
theorem HN:JQ X (qO X.K):=by
 intro value slice c s g H x y v u Q I o A h l
 obtain⟨p,xs,i,z,rfl,rfl,B,C,q⟩:=h
 cases o
 obtain⟨t,rfl⟩:=A
 obtain⟨D,r,e,N⟩:=I.list B
 obtain⟨j,d,E,O,F,G⟩:=pW C
 obtain⟨w,m,J⟩:=r.get E
 have L:=r.length
 have P:=jI
 have fin:EP X c g Q w s:=⟨z,H,I,J,q⟩
 by_cases n:0<=i
 ·have f:i.toNat=j:=by
   rw[Vd n G]at d
   exact ϋ d
  exact item_listR e.isList n (by lia) (by rw[f];simpa using m) fin l
 ·have f:(i+(D.toArray.size:Int)).toNat=j:=by
   rw[seqIndex_neg (by lia) F]at d
   rw[ô,←L]
   exact ϋ d
  exact SK (x:=w) e.isList.typeIs Yp.lookup
   (wpAny_getItem_list_neg (Q:=λr M=>r=w/\EP X c g Q r M) e.isList (by lia) (by rw[ô]<;>lia) (by lia) (by rw[f];simpa using m) ⟨Κ,fin⟩) l
theorem HA:JQ X (ki X.K):=by
 intro value slice c s d H x y v u Q I f g h l
 obtain⟨p,xs,i,z,rfl,rfl,m,n,q⟩:=h
 cases f
 obtain⟨t,rfl⟩:=g
 obtain⟨C,r,e,D⟩:=I.tuple m
 obtain⟨j,E,o,F,G,J⟩:=pW n
 obtain⟨w,L,A⟩:=r.get o
 have M:=r.length
 have N:=jI
 have fin:EP X c d Q w s:=⟨z,H,I,A,q⟩
 exact SK (x:=w) e.typeIs slot_tuple_getitem.lookup
  (getItem_tuple (j:=j) (Q:=λr B=>r=w/\EP X c d Q r B) e (by lia) (by lia) (by grind) (by grind) ⟨Κ,fin⟩) l
theorem GI:JQ X Tv:=by
 intro value slice d s r H x y v u Q I e f h g
 obtain⟨z,i,c,rfl,rfl,w,l,q⟩:=h
 obtain⟨t,rfl⟩:=e
 obtain⟨A,rfl⟩:=f
 obtain⟨j,m,B,C,n,o⟩:=pW l
 have p:z.cps.toList.length=z.length:=by simp[Str.length]
 rw[p]at m n o
 have D:=jI
 exact tail_any (typeIs_str s z t) slot_str_getitem.lookup (getItem_str (c:=c) (by
  grind) (by grind) ⟨.str ⟨#[c]⟩,H,I.tok _,⟨_,Κ⟩,q⟩) g
def rIx(K:ϧ):R2:=λx y H Q=>qO K x y H Q∨ki K x y H Q∨Tv x y H Q
theorem lX:JQ X (rIx X.K):=HN.or (HA.or GI)
theorem tO(c:List Φ)(n j:Nat)(u:Φ):Ÿ (·.setIfInBounds j u) {cls:=.type "list",data:=.seq c.toArray n}={cls:=.type "list",data:=.seq (c.set j u).toArray n}:=by
 simp[Ÿ]
theorem ς.π{d:St}{H:Hp}{s:ύ}{p:Ο}{xs:List V}(I:ς X ν d H s)(h:H p=Α (.π xs)):
  ∃(c:List Φ)(n:Nat),τ xs c/\s.heap.get? p=Α {cls:=.type "list",data:=.seq c.toArray n}/\xs.length<=Χ:=by
 obtain⟨z,c,n,r,e⟩:=I.HK p _ h
 exact⟨c,n,r,e,z⟩
theorem ς.QH{d:St}{g c:List Φ}(I:ς X ν d H s)(h:H p=Α (.π xs))
  (l:s.heap.get? p=Α {cls:=.type "list",data:=.seq g.toArray n}) (i:f {cls:=.type "list",data:=.seq g.toArray n}={cls:=.type "list",data:=.seq c.toArray n'}) (r:τ ys c) (m:ys.length<=Χ) (t:Nat):
  ς X ν d (ο H p (.π ys)) {s with heap:=s.heap.update p f,toks:=t}:=by
 have e:(s.heap.update p f).get? p=Α {cls:=.type "list",data:=.seq c.toArray n'}:=by
  rw[ň f l (by rw[i]<;>rfl),i]
 refine I.write (x:=p) (e:=p) (by rw[h];trivial) (.inl Κ) (λb u o q=>(ŷ _ _ (ϗ o)).trans q) ⟨_,e⟩ ?_
 exact⟨m,c,_,r,e⟩
def zq:V->V->V->Hp->(Hp->Prop)->Prop:=λo i v H Q=>∃p xs k j,o=.ref p/\i=.int k/\H p=Α (.π xs)/\AE xs.length k=Α j/\Q (ο H p (.π (xs.set j v)))
theorem iZ:SX X zq:=by
 intro c s B H o i v J K u Q I C D E h
 obtain⟨p,xs,k,j,rfl,rfl,l,F,q⟩:=h
 cases C
 obtain⟨t,rfl⟩:=D
 obtain⟨m,n,r,e,G⟩:=I.π l
 obtain⟨d,L,w,x⟩:=vP F
 have f:=r.length
 have M:=jI
 have y:=
  I.QH l e (tO m n j u) (r.set E j) (by rw[ī];exact G) s.toks
 by_cases A:0<=k
 ·have g:k.toNat=j:=by
   rw[Vd A x]at d
   exact ϋ d
  exact PySem.W.ki_setAt e A (by lia) (by rw[ô,←f];exact x) (by rw[g];exact⟨_,y,q⟩)
 ·have g:(k+(m.toArray.size:Int)).toNat=j:=by
   rw[seqIndex_neg (by lia) w]at d
   rw[ô,←f]
   exact ϋ d
  exact PySem.W.ki_setBack e (by lia) (by rw[ô,←f];exact w) (by lia) (by rw[g];exact⟨_,y,q⟩)
theorem oS(c d:Option Int)(n:Nat):(ř c d Β n).1=((HT.K6 n 0 c:Nat):Int)/\(ř c d Β n).2.1=((HT.K6 n n d:Nat):Int)/\(ř c d Β n).2.2=1:=by
 refine⟨?_,?_,Κ⟩
 ·cases c with
  |none=>simp[ř,HT.K6]
  | some i =>
   simp only[ř,HT.K6,mu,show (1:Int) > 0 by decide,if_true]
   grind
 ·cases d with
  |none=>simp[ř,HT.K6]
  | some i =>
   simp only[ř,HT.K6,mu,show (1:Int) > 0 by decide,if_true]
   grind
theorem mR(c:List Φ)(d e:Option Int):slicePick c.toArray d e Β=((c.drop (HT.K6 c.length 0 d)).take (HT.K6 c.length c.length e - HT.K6 c.length 0 d)).toArray:=by
 obtain⟨f,g,h⟩:=oS d e c.toArray.size
 unfold slicePick
 rw[f,g,h]
 simp only[sliceRange_one,pick_run,ô]<;>rfl
inductive Zv(K:ϧ)(x:V)(lo:Option Int)(hi:Option Int)(H:Hp)(Q:VK):Prop
 |mk (a xs)(_:x=.ref a)(_:HC K H a xs)(_:∀p,H p=Β->Q (.ref p) (ο H p (.π (iQ xs lo hi))))
theorem fP:SlR X (Zv X.K):=by
 intro f s t H x v u w d e y Q I i j l m h
 obtain⟨a,xs,rfl,n,q⟩:=h
 cases i
 obtain⟨z,r,g,p⟩:=I.list n
 have c:=r.length
 refine⟨_,_,Yp.lookup,g.isList.typeIs,?_⟩
 refine wpAny_getItem_list_slice g.isList j l m .none (by simp) ?_ (by grind)
 rw[mR,←c]
 refine⟨.ref s.heap.objs.size,_,I.laid (t':=s.toks) (o:=.π (iQ xs d e)) (λb A q=>Ν _ q) (Ξ _) ?_,Κ,q _ (I.HK.fresh (Ξ _))⟩
 exact⟨Í (rP xs d e) p,_,0,(r.drop (HT.K6 xs.length 0 d)).take (HT.K6 xs.length xs.length e - HT.K6 xs.length 0 d),ό _ Κ⟩
noncomputable def iB:V->Bool
 |.HU=>Γ
 |.bl _=>Γ
 |.int _=>Γ
 |.str _=>Γ
 |_=>Δ
noncomputable def EF:V->V->Bool
 |.HU,.HU=>Γ
 |.bl a,.bl b=>a == b
 |.bl a,.int b=>(if a then 1 else 0) == b
 |.int a,.bl b=>a == (if b then 1 else 0)
 |.int a,.int b=>a == b
 |.str a,.str b=>a == b
 |_,_=>Δ
theorem GR(e:RelV y u)(c:RelV x v)(g:iB y=Γ)(f:iB x=Γ):Ü A s u v (EF y x):=by
 cases y with
 | HU =>
  cases e
  cases x with
  |HU=>cases c;exact Ü.same _
  |bl b=>cases c;exact Ü.none_bool b
  |int b=>obtain⟨t,rfl⟩:=c;exact Ü.none_int b t
  |str b=>obtain⟨t,rfl⟩:=c;exact Ü.none_str b t
  |_=>exact Ι (f) Ϟ
 | bl a =>
  cases e
  cases x with
  |HU=>cases c;exact Ü.bool_none a
  |bl b=>cases c;exact Ü.bool_bool a b
  |int b=>obtain⟨t,rfl⟩:=c;exact Ü.bool_int a b t
  |str b=>obtain⟨t,rfl⟩:=c;exact Ü.bool_str a b t
  |_=>exact Ι (f) Ϟ
 | int a =>
  obtain⟨d,rfl⟩:=e
  cases x with
  |HU=>cases c;exact Ü.int_none a d
  |bl b=>cases c;exact Ü.int_bool a d b
  |int b=>obtain⟨t,rfl⟩:=c;exact Ü.int_int a d b t
  |str b=>obtain⟨t,rfl⟩:=c;exact Kj a d b t
  |_=>exact Ι (f) Ϟ
 | str a =>
  obtain⟨d,rfl⟩:=e
  cases x with
  |HU=>cases c;exact Ü.str_none a d
  |bl b=>cases c;exact Ü.str_bool a d b
  |int b=>obtain⟨t,rfl⟩:=c;exact JT a d b t
  |str b=>obtain⟨t,rfl⟩:=c;exact Ü.str_str a d b t
  |_=>exact Ι (f) Ϟ
 |_=>exact Ι (g) Ϟ
noncomputable def ua(x:V)(u:Φ):Bool:=match u with
 |.none=>EF .HU x
 |.bool b=>EF (.bl b) x
 |.int i _=>EF (.int i) x
 |.str z _=>EF (.str z) x
 |_=>Δ
theorem AO(r:RelV y u)(f:iB y=Γ):ua x u=EF y x:=by
 cases y with
 |HU=>cases r;rfl
 |bl b=>cases r;rfl
 |int i=>obtain⟨t,rfl⟩:=r;rfl
 |str z=>obtain⟨t,rfl⟩:=r;rfl
 |_=>exact Ι (f) Ϟ
theorem j3:∀{xs:List V}{us:List Φ},τ xs us->xs.all iB=Γ->us.any (ua x)=xs.any λy=>EF y x
 |_,_,.nil,_=>rfl
 | y:: xs,u:: us,.cons r t,f=>by
  rw[OL,Ù]at f
  rw[kl,kl,AO r f.1,j3 t f.2]
theorem hZ(d:RelV x v)(e:iB x=Γ):∀{xs:List V}{us:List Φ},τ xs us->xs.all iB=Γ->∀u∈us,Ü A s u v (ua x u)
 |_,_,.nil,_=>λu c=>by cases c
 | y:: xs,u:: us,.cons r t,f=>λg c=>by
  rw[OL,Ù]at f
  rcases À.mp c with rfl|c
  ·rw[AO r f.1];exact GR r d f.1 e
  ·exact hZ d e t f.2 g c
noncomputable def AH(x:V)(xs:List V):Bool:=xs.any λy=>EF y x
inductive Cj(K:ϧ)(neg:Bool)(x:V)(y:V)(H:Hp)(Q:VK):Prop
 |mk (p xs)(_:y=.ref p)(_:(HC K H p xs∨HF K H p xs)/\iB x=Γ/\xs.all iB=Γ/\Q (.bl (if neg then !AH x xs else AH x xs)) H)
theorem wO:eB X (compareOp .In) (Cj X.K Δ):=by
 intro f s n H x y v u Q I g j h
 obtain⟨p,xs,rfl,c,i,fs,q⟩:=h
 cases j
 rcases c with c|c
 ·obtain⟨d,r,e,l⟩:=I.list c
  refine SeqAt.in_listAt (ua x) e.isList (λw m=>hZ g i r fs w (by grind)) ⟨.bl _,H,I,Κ,?_⟩
  rw[show d.toArray.any (ua x)=d.any (ua x) by simp,j3 r fs]
  exact q
 ·obtain⟨d,r,e,l⟩:=I.tuple c
  refine SeqAt.in_tupleAt (ua x) e (λw m=>hZ g i r fs w (by grind)) ⟨.bl _,H,I,Κ,?_⟩
  rw[show d.toArray.any (ua x)=d.any (ua x) by simp,j3 r fs]
  exact q
theorem bV:eB X (compareOp .NotIn) (Cj X.K Γ):=by
 intro f s n H x y v u Q I g j h
 obtain⟨p,xs,rfl,c,i,fs,q⟩:=h
 cases j
 rcases c with c|c
 ·obtain⟨d,r,e,l⟩:=I.list c
  refine SeqAt.notIn_listAt (ua x) e.isList (λw m=>hZ g i r fs w (by grind)) ⟨.bl _,H,I,Κ,?_⟩
  rw[show d.toArray.any (ua x)=d.any (ua x) by simp,j3 r fs]
  exact q
 ·obtain⟨d,r,e,l⟩:=I.tuple c
  refine SeqAt.notIn_tupleAt (ua x) e (λw m=>hZ g i r fs w (by grind)) ⟨.bl _,H,I,Κ,?_⟩
  rw[show d.toArray.any (ua x)=d.any (ua x) by simp,j3 r fs]
  exact q
theorem dg:c5 X (.builtin "len") (λxs H Q=>∃p c,xs=[.ref p]/\(HC X.K H p c∨HF X.K H p c)/\Q (.int c.length) H):=by
 intro i s n H xs us Q I r h
 obtain⟨p,c,rfl,d,q⟩:=h
 obtain⟨u,rfl,j⟩:=i8 r
 cases j
 have o:=jI
 rcases d with d|d
 ·obtain⟨l,f,g,m⟩:=I.list d
  have e:=f.length
  exact Calls.call_len_list g.isList (by grind) ⟨.int c.length,H,I.tok _,⟨s.toks+1,by grind⟩,q⟩
 ·obtain⟨l,f,g,m⟩:=I.tuple d
  have e:=f.length
  exact len_tuple g (by grind) ⟨.int c.length,H,I.tok _,⟨s.toks+1,by grind⟩,q⟩
theorem j1:c5 X (.type "list") (λxs H Q=>∃p f,xs=[.ref p]/\(HC X.K H p f∨HF X.K H p f)/\∀l,H l=Β->Q (.ref l) (ο H l (.π f))):=by
 intro j s E H xs us Q I r h
 obtain⟨p,f,rfl,m,q⟩:=h
 obtain⟨u,rfl,F⟩:=i8 r
 cases F
 have fin:∀(d:List Φ),τ f d->f.length<=Χ->∀(c:Ó)(g:Nat),(∀b C,s.heap.get? b=Α C->c.get? b=Α C)->
   c.get? s.heap.objs.size=Α {cls:=.type "list",dict:=Β,data:=.seq d.toArray g,slots:=#[]}->EP X j E Q (.ref s.heap.objs.size) {s with heap:=c}:=λd i t c g v e =>
  ⟨.ref s.heap.objs.size,_,I.laid (t':=s.toks) v (Ξ _) (show Ig X.prog X.w _ c _ (.π f) from ⟨t,d,g,i,e⟩),Κ,q _ (I.HK.fresh (Ξ _))⟩
 rcases m with m|m
 ·obtain⟨d,i,y,t⟩:=I.list m
  have x:=i.length
  obtain⟨o,z,A,n,B⟩:=y.isList
  exact call_list_seq p (.inl Κ) z A B (λc g v e=>fin d i t c g v e) (by grind)
 ·obtain⟨d,i,y,t⟩:=I.tuple m
  have x:=i.length
  obtain⟨o,z,A,n,B⟩:=y
  exact call_list_seq p (.inr Κ) z A B (λc g v e=>fin d i t c g v e) (by grind)
theorem ce:c5 X (.type "tuple") (λxs H Q=>∃p d,xs=[.ref p]/\((HC X.K H p d/\∀l,H l=Β->Q (.ref l) (ο H l (.tup d)))∨(HF X.K H p d/\Q (.ref p) H))):=by
 intro c s t H xs us Q I r h
 obtain⟨p,d,rfl,h⟩:=h
 obtain⟨u,rfl,z⟩:=i8 r
 cases z
 rcases h with ⟨i,q⟩|⟨i,q⟩
 ·obtain⟨j,m,n,v⟩:=I.list i
  have x:=m.length
  refine call_tuple_list n.isList (λg A=>?_) (by grind)
  have y:=I.kept (t':=s.toks) A
  have B:=
   y.laid (t':=s.toks) (λb o e=>Ν _ e) (Ξ _) (show Ig X.prog X.w _ _ _ (.tup d) from ⟨v,j,m,Je.new _ _⟩)
  exact⟨.ref g.objs.size,_,B,Κ,q _ (y.HK.fresh (Ξ _))⟩
 ·obtain⟨j,m,n,v⟩:=I.tuple i
  exact call_tuple_same n ⟨.ref p,H,I,Κ,q⟩
def Zw(K:ϧ)(T:String)(x:V)(H:Hp):Prop:=match x with
 |.str _=>T="str"
 |.int _=>T="int"
 | .ref p=>(T="list"/\∃xs,HC K H p xs)∨(T="tuple"/\∃o,K.lookup p=Α o/\o.cls=.type "tuple"/\o.dict=Β)∨
   (T="dict"/\((∃kvs,H p=Α (.dK kvs))∨∃kvs,H p=Α (.dT kvs)))∨(T="set"/\∃S n,H p=Α (.set S n))
 |_=>False
theorem xR{q:St}(I:ς X ν q H s)(r:RelV x v)(f:Zw X.K T x H):
  s.TypeIs v T/\∀a,v=.ref a->∃l,s.heap.get? a=Α l/\l.dict=Β:=by
 cases x with
 | str z =>
  obtain⟨t,rfl⟩:=r
  cases (f)
  exact⟨typeIs_str s z t,λ_ e=>nomatch e⟩
 | int i =>
  obtain⟨t,rfl⟩:=r
  cases (f)
  exact⟨typeIs_int s i t,λ_ e=>nomatch e⟩
 | ref p =>
  cases r
  rcases f with ⟨rfl,xs,u⟩|⟨rfl,o,d,w,g⟩|⟨rfl,d⟩|⟨rfl,S,n,d⟩
  ·obtain⟨y,_,m,_⟩:=I.list u
   refine⟨m.isList.typeIs,λa e=>?_⟩
   cases e
   obtain⟨o,n,e,c,g,_⟩:=m
   exact⟨o,e,g⟩
  ·refine⟨⟨o,I.JI p o d,w⟩,λa e=>?_⟩
   cases e
   exact⟨o,I.JI _ o d,g⟩
  ·have z:∃o,s.heap.get? p=Α o/\o.ExactDict:=by
    rcases d with ⟨h,d⟩|⟨h,d⟩
    ·obtain⟨_,_,_,_,o,_,_,e,ex,_⟩:=I.HK p _ d
     exact⟨o,e,ex⟩
    ·obtain⟨_,_,_,_,o,_,_,e,ex,_⟩:=I.HK p _ d
     exact⟨o,e,ex⟩
   obtain⟨o,e,ex⟩:=z
   refine⟨⟨o,e,ex.1⟩,λa j=>?_⟩
   cases j
   exact⟨o,e,ex.2.1⟩
  ·obtain⟨o,_,_,_,e,ex,_⟩:=I.HK p _ d
   refine⟨⟨o,e,ex.1⟩,λa j=>?_⟩
   cases j
   exact⟨o,e,ex.2.1⟩
 |_=>exact ð f
def Zx(K:ϧ)(T:String)(r:V->List V->Hp->VK->Prop)(to:TE):TE:=λσ H Q=>to σ H λx H1=>Zw K T x H1/\r x [] H1 Q
def tBM(K:ϧ)(T:String)(r:V->List V->Hp->VK->Prop)(to:TE)(t:TA):TE:=λσ H Q=>to σ H λx H1=>Zw K T x H1/\t σ H1 λxs H2=>r x xs H2 Q
variable {o e:Expr}{es:List Expr}{to:TE}{t:TA}{name:Str}{apos Ip:Pos}{T id:String}{r:V->List V->Hp->VK->Prop}
theorem FC(j:PlainAttrs T)(d:Slot T name id)(l:typeOf (.builtin id)=pure (.type "method_descriptor"))(m:XA X id r)(n:PE X o to)
  (p:autoParam (ġ o name X.env (eval o X.env)=eval o X.env) η) (q:autoParam ((apos.endLine == Ip.line)=Γ) η):PE X (.Call (.Attribute o name apos) [] [] Ip) (Zx X.K T r to):=by
 intro c s f H Q I h
 refine wpAny_Call_method0_late p q (aY (n c s f H _ I h) λv u w=>?_)
 obtain⟨x,y,g,i,z,A⟩:=w
 obtain⟨B,C⟩:=xR g i z
 exact⟨T,_,j,d,l,B,C,ċ Κ (PySem.evalArgs_none (m c u f y x [] v [] Q g i .nil A))⟩
theorem ck(m:PlainAttrs T)(d:Slot T name id)(n:typeOf (.builtin id)=pure (.type "method_descriptor"))(p:XA X id r)(q:PE X o to)(u:PA X (e:: es) t)
  (w:autoParam (ġ o name X.env (eval o X.env)=eval o X.env) η)
  (y:((î Ip (ϟ (e:: es) X.env)).all (λx=>!x.1)&& (ů Ip (ħ [] X.env)).all (λx=>x.1.isSome)
   && decide ((e:: es).length+([]:List k0).length+(if ([]:List k0).isEmpty then 0 else 1)<30))=Γ:=by rfl)
  (z:autoParam ((apos.endLine == Ip.line)=Γ) η) (A:autoParam (ϟ (e:: es) X.env=(Δ,eval e X.env):: ϟ es X.env) η) (B:autoParam ((î Ip (ϟ es X.env)).any (·.1)=Δ) η):
  PE X (.Call (.Attribute o name apos) (e:: es) [] Ip) (tBM X.K T r to t):=by
 intro c s f H Q I h
 refine S4 w y z Κ (aY (q c s f H _ I h) λv C g=>?_)
 obtain⟨x,D,i,j,E,F⟩:=g
 obtain⟨G,J⟩:=xR i j E
 refine⟨T,_,m,d,n,G,J,?_⟩
 have l:=u Ip c C f D _ i F
 rw[A]at l⊢
 refine ċ (by show(Δ||(î Ip (ϟ es X.env)).any (·.1))=Δ;rw[B]<;>rfl) (Ō ?_)
 exact aY l λus L g=>by obtain⟨M,N,O,P,R⟩:=g;exact p c L f N x M v us Q O j P R
end
def Zz(X:Cx)(id:String)(r:V->List V->Hp->VK->Prop):Prop:=
 ∀(ν:List (Ο×Obj))(s:ύ)(σ:St)(H:Hp)(x:V)(xs:List V)(v:Φ)(us:List Φ)(Q:VK),ς X ν σ H s->RelV x v->τ xs us->r x xs H Q->
  Ϣ (ϣ X.prog X.w) X.A (call (.builtin id) (v:: us)) (EP X ν σ Q) X.xe s
theorem τ.one:∀{x:V}{us:List Φ},τ [x] us->∃u,us=[u]/\RelV x u:=by
 intro x us h
 cases h with
 |cons r t=>cases t;exact⟨_,Κ,r⟩
theorem τ.two:∀{x y:V}{us:List Φ},τ [x,y] us->∃u v,us=[u,v]/\RelV x u/\RelV y v:=by
 intro x y us h
 cases h with
 | cons r t =>
  cases t with
  |cons q a=>cases a;exact⟨_,_,Κ,r,q⟩
theorem τ.eraseIdx:∀{xs:List V}{us:List Φ}(i:Nat),τ xs us->τ (xs.eraseIdx i) (us.eraseIdx i)
 |_,_,_,.nil =>.nil
 |_,_,0,.cons _ t=>t
 |_,_,i+1,.cons r t =>.cons r (τ.eraseIdx i t)
section
variable {X:Cx}{ν:List (Ο×Obj)}{σ:St}{H:Hp}{s:ύ}{l b:Ο}{xs ys zs:List V}
theorem ς.QJ{a its':List Φ}(I:ς X ν σ H s)(d:H l=Α (.π xs))
  (e:s.heap.get? l=Α {cls:=.type "list",data:=.seq a.toArray n}) (g:f a.toArray=its'.toArray) (h:τ ys its') (i:ys.length<=Χ):
  ς X ν σ (ο H l (.π ys)) {s with heap:=s.heap.update l (Ÿ f),toks:=t'}:=by
 have q:=PySem.IsL.update e f
 rw[g]at q
 refine I.write (x:=l) (e:=l) (by rw[d];exact trivial) (.inl Κ) (λo u j m=>(ŷ s.heap (Ÿ f) (ϗ j)).trans m) ⟨_,q⟩ ?_
 exact⟨i,_,_,h,q⟩
theorem ς.Z0(I:ς X ν σ H s)(c:τ ys HI)(d:ys.length<=Χ):
  ς X ν σ (ο H s.heap.objs.size (.π ys)) {s with heap:=s.heap.push {cls:=.type "list",data:=.seq HI.toArray},toks:=t'}:=
 I.laid (λ_ _ q=>Ν _ q) (Ξ _) ⟨d,HI,0,c,ό _ Κ⟩
theorem ς.fresh(I:ς X ν σ H s):H s.heap.objs.size=Β:=I.HK.fresh (Ξ _)
theorem ς.LR(I:ς X ν σ H s)(c:H l=Α (.π xs)):xs.length<=Χ/\∃(a:List Φ)(n:Nat),τ xs a/\xs.length=a.length/\s.heap.get? l=Α {cls:=.type "list",data:=.seq a.toArray n}:=by
 obtain⟨z,a,n,r,e⟩:=I.HK l _ c
 exact⟨z,a,n,r,r.length,e⟩
theorem Ag(h:n<=Χ):Ő n=Δ:=by
 unfold Ő
 grind
end
section
inductive Cl(x:V)(vs:List V)(H:Hp)(Q:VK):Prop
 |mk (l xs y)(_:x=.ref l)(_:vs=[y])(_:H l=Α (.π xs))(_:xs.length<Χ)(_:Q .HU (ο H l (.π (xs++[y]))))
theorem bq:Zz X "list.append" Cl:=by
 intro a s i H x j v us Q I d f h
 obtain⟨l,xs,y,rfl,rfl,b,m,q⟩:=h
 cases d
 obtain⟨u,rfl,g⟩:=f.one
 obtain⟨z,c,n,r,o,e⟩:=I.LR b
 refine Oj F.slot_list_append ⟨_,e,Κ⟩ F.entry_list_append (F.args_list_append_2 _ _) (PySem.list_append l c.toArray n u (by grind)) ⟨e,?_⟩
 refine⟨.HU,_,I.QJ (its':=c++[u]) b e (by simp) (r.append (.cons g .nil)) ?_,Κ,q⟩
 grind
inductive Ck(x:V)(vs:List V)(H:Hp)(Q:VK):Prop
 |mk (l b xs zs)(_:x=.ref l)(_:vs=[.ref b])(_:H l=Α (.π xs))(_:H b=Α (.π zs))(_:xs.length+zs.length<=Χ)(_:Q .HU (ο H l (.π (xs++zs))))
theorem dP:Zz X "list.extend" Ck:=by
 intro f s A H x B v us Q I i j h
 obtain⟨l,b,xs,C,rfl,rfl,g,m,D,q⟩:=h
 cases i
 obtain⟨u,rfl,o⟩:=j.one
 cases o
 obtain⟨z,HI,n,r,E,e⟩:=I.LR g
 obtain⟨G,c,p,t,J,w⟩:=I.LR m
 have d:HI.toArray.size+c.toArray.size<=Χ:=by grind
 have y:¬(!HI.toArray.isEmpty&& Ő (HI.toArray.size+c.toArray.size))=Γ:=by
  rw[Ag d,Bool.and_false]
  grind
 refine Oj F.slot_list_extend ⟨_,e,Κ⟩ F.entry_list_extend (F.args_list_extend_2 _ _)
  (AutoSeq1.list_extend_list_list_0 l HI.toArray n b c.toArray p y (by grind) (by lia)) ⟨e,w,?_⟩
 refine⟨.HU,_,I.QJ (its':=HI++c) g e (by simp) (r.append t) ?_,Κ,q⟩
 grind
inductive F3(x:V)(vs:List V)(H:Hp)(Q:VK):Prop
 |mk (l xs i k y)(_:x=.ref l)(_:vs=[.int i])(_:H l=Α (.π xs))(_:-(2^63)<=i)(_:i<2^63)(_:IA i xs.length=Α k)(_:xs[k]?=Α y)(_:Q y (ο H l (.π (xs.eraseIdx k))))
theorem Al:Zz X "list.pop" F3:=by
 intro a s A H x B v us Q I d f h
 obtain⟨l,xs,i,k,y,rfl,rfl,b,g,j,C,m,q⟩:=h
 cases d
 obtain⟨u,rfl,o⟩:=f.one
 obtain⟨t,rfl⟩:=o
 obtain⟨z,c,n,r,D,e⟩:=I.LR b
 obtain⟨w,E,p⟩:=r.get m
 refine Oj F.slot_list_pop ⟨_,e,Κ⟩ F.entry_list_pop (F.args_list_pop_2 _ _)
  (MeetsSeq.list_pop_at l c.toArray n i t k w (fitsIndex_both g j) (by grind) (by grind) (by grind)) ⟨e,?_⟩
 refine⟨y,_,I.QJ (its':=c.eraseIdx k) b e ?_ (r.eraseIdx k) ?_,p,q⟩
 ·grind
 grind
inductive Z1(x:V)(y:V)(H:Hp)(Q:VK):Prop
 |mk (l b xs zs)(_:x=.ref l)(_:y=.ref b)(_:H l=Α (.π xs))(_:H b=Α (.π zs))(_:xs.length+zs.length<=Χ)(_:∀p,H p=Β->Q (.ref p) (ο H p (.π (xs++zs))))
theorem tH:eB X (binaryOp .Add) Z1:=by
 intro a s t H x y v u Q I f g h
 obtain⟨l,b,xs,w,rfl,rfl,i,j,A,q⟩:=h
 cases f
 cases g
 obtain⟨z,c,n,r,B,e⟩:=I.LR i
 obtain⟨C,d,D,m,E,o⟩:=I.LR j
 refine PySem.P.add_list e o ?_ (by grind)
 have p:c.toArray++d.toArray=(c++d).toArray:=by simp
 rw[p]
 exact⟨.ref _,_,I.Z0 (t':=s.toks) (r.append m) (by grind),Κ,q _ I.fresh⟩
end
section
set_option maxRecDepth 100000 in
end
section
end
end _L2
namespace Att
open PySem PySem.W PySem.Calls PyProof.Rows
theorem km:∀(c:List Int)(d:List Φ),WellAll P h d (c.map WData.int)->b6 d c:=by
 intro c
 induction c with
 | nil =>
  intro d w
  rw[NA]at w
  cases w
  exact .nil
 | cons n c e =>
  intro d w
  rw[È]at w
  cases w with
  | cons a b =>
   cases a
   exact .cons _ _ (e _ b)
theorem wF{l:Yw}(w:l.most=Α n)
  (f:l.row.toRowW.claim.pre args=Γ) (m:WellAll P h vals args):
  ∃a g b,vals=[Ç a]/\args=[WData.list (b.map WData.int)]/\h.get? a=Α {cls:=.type "list",data:=.seq g.toArray}/\b6 g b/\b.length<=n:=by
 have e:=(pre_splitW f).1
 have i:l.pre.holds [] {args:=args}=Γ:=(pre_splitW f).2
 obtain⟨d,r,rfl,o,p⟩:=hasAllW_cons e
 obtain rfl:=hasAllW_nil p
 obtain⟨xs,rfl,q⟩:=hasW_list o
 obtain⟨b,rfl⟩:=items_int q
 have c:b.length<=n:=by
  unfold Yw.pre at i
  have j:(WTm.not (.lt (.lit (.int (n:Int))) (.len (.arg 0)))).holds [] {args:=[.list (b.map .int)]}=Γ:=by
   have j:=(holds_andW i).1
   grind
  have x:=condW_of j (w_not (w_lt w_lit (w_len_list (w_arg Κ))))
  grind
 cases m with
 | cons s t =>
  cases t
  cases s with
  |list u v=>exact⟨_,_,b,Κ,Κ,u,km b _ v,c⟩
theorem wJ(l:Yw)(args:List WData):l.row.toRowW.claim.post args (.bool Γ) args=Γ:=
 postW_of (r:=l.row.toRowW) (X:=(Γ == Γ))
  (show WShape.has [] (.bool Γ) .bool=Γ by first|rfl|decide|simp[WShape.has,WShape.arms,WShape.armsAll])
  (show(WTm.eq .res (.lit (.bool Γ))).value [] {args:=args,res:=Α (.bool Γ),after:=args}=Α (.bool (Γ == Γ)) from w_eq_bool (w_res Κ) w_lit) Κ
theorem L5{l:Yw}
  (B:l.most=Α n) (C:d.params.defaults=[])
  (call:∀(w:Å)(c b:ύ)(m u:Str->Option Φ)(i:Ο)(o:Obj)(v p e:Φ)(a:Ο)(h:List Φ)(s:List Int),
   Ground q loose [] XP w c m u b.heap->YP w b.heap->
   b.heap.get? i=Α o->o.data=.func (docDef d.name d.params d.body d.scope v p e)->b.heap.CodeRec p d.name->m d.name=Α (.ref i)->
   b.heap.get? a=Α {cls:=.type "list",data:=.seq h.toArray}->b6 h s->s.length<=n->b.gens=#[]->
   Ũ (ϣ l.prog w) rz (.call (.ref i) ⟨[.ref a],[]⟩) (λr t=>r=.ok (.ret (.bool Γ))/\OldK b.heap t.heap/\t.os=b.os/\cb t.gens) b):
  WalkO q loose XP YP l.row.toRowW d [] (λf h=>PySem.call f h):=by
 intro w c b m u G Y i o v p e dV kV D E F y x H args z as I A J K R
 obtain rfl:dV=.none:=Dflts.none y C
 obtain rfl:kV=.none:=Dflts.noKw y
 obtain⟨a,h,s,rfl,rfl,L,g,j⟩:=wF B I K
 refine enter_call (ŧ (call w c b m u i o v p e a h s G Y D (fd_plain E) F x L g j H) λr t M=>?_)
 obtain⟨rfl,N,O,P⟩:=M
 exact⟨.inl ⟨.bool Γ,.bool Γ,[],Κ,λ_=>rfl,.bool Γ,wJ l _,λ_=>⟨ŏ,λ_ Q=>(nomatch Q)⟩⟩,N,O,P⟩
section
end
end Att
namespace _L2
open PySem PySem.Spec PyProof.Rows
theorem nh:∀{a:List Φ}{b:List Int},b6 a b->τ (b.map V.int) a
 |_,_,.nil =>.nil
 |_,_,.cons n t h =>.cons ⟨t,Κ⟩ (nh h)
def Hq(H:Hp):Prop:=∀b,H b=Β∨∃o xs,H b=Α (.Jm o (.π xs))
theorem Az{K:ϧ}
  (C:K.In s₁.heap) (D:s₁.heap.Ns Ϡ mg) (g:s₁.heap.Ns X9 mb) (y:∀x:Str,x≠ "__name__"->mb x=Ă x) (L:s₁.heap.NoLimit) (M:s₁.gens=#[])
  (A:s₁.heap.get? a=Α {cls:=.type "list",data:=.seq vs.toArray}) (E:b6 vs ns) (hl:ns.length<=Χ) (N:Il k rz)
  (F:∀μ:Ó,K.In μ->μ.Ns Ϡ mg->HB P w K mg μ CX k fa fd [x] sp) (O:∀(s:ύ)(u:Φ),N2 s fd ⟨[u],[]⟩ [(x,u)])
  (Q:∀H:Hp,Hq H->HC K H a (ns.map V.int)->sp [.ref a] H (λv _=>v=.bl Γ) λ_ _ _=>False)
  (R:∀H e c,CX [] H s₁ (λ_ _ _=>False) e c->False):
  Ũ (ϣ P w) rz (.call (.ref fa) ⟨[.ref a],[]⟩) (λr c=>r=.ok (.ret (.bool Γ))/\OldK s₁.heap c.heap/\c.os=s₁.os/\cb c.gens) s₁:=by
 have S:=nh E
 have G:=E.length
 have f:∀H:Hp,Hq H->HC K H a (ns.map V.int)->J0 P w H s₁.heap->(∀b,H b≠Β->b=a)->(H a≠Β->K.lookup a=Β)->
   Ũ (ϣ P w) rz (.call (.ref fa) ⟨[.ref a],[]⟩) (λr c=>r=.ok (.ret (.bool Γ))/\OldK s₁.heap c.heap/\c.os=s₁.os/\cb c.gens) s₁:=by
  intro H I T J hA hK
  have base_of:∀{b:Ο}{o:Obj},s₁.heap.get? b=Α o->H b=Β->(pO s₁.heap H).get? b=Α o:=λe n=>AJ e n
  have U:∀{b:Ο}{o:Obj}{l:Array DictEntry}{p:Nat},s₁.heap.get? b=Α o->o.data=.dict l p->H b=Β:=λ{b o l p} e d=>by
   grind
  have t:∀{b:Ο}{m:Str->Option Φ},s₁.heap.Ns b m->(pO s₁.heap H).Ns b m:=λ{b m} ⟨o,l,p,e,d,r⟩=>⟨o,l,p,base_of e (U e d),d,r⟩
  have i:=λb o e=>base_of (C b o e) (by
   grind)
  have X:Mod K mg (pO s₁.heap H):=⟨i,t D,⟨mb,t g,y⟩,let ⟨mc,h1,h2⟩:=L;⟨mc,t h1,h2⟩⟩
  have Y:LP P w K mg (pO s₁.heap H) rz [] s₁ H:=⟨Κ,X,λb o e=>Dg e,YQ (xm _ _),trivial,λb g=>Ι (show b∈([]:List Ο) from g) (by simp),J,.of_eq M⟩
  refine ŧ ((F _ i (t D)).run rz [] s₁ H ⟨[.ref a],[]⟩ [.ref a] [.ref a] _ _ N Y (O s₁ (.ref a)) (.cons Κ .nil) (Q H I T)) λr c h=>?_
  cases r with
  |error e=>exact(R H e c h).elim
  | ok Z =>
   cases Z with
   |next=>exact ð h
   |brk=>exact ð h
   |cont=>exact ð h
   | ret u =>
    obtain⟨v,H',os,j,un,Z4,r',q⟩:=h
    have q':=q
    subst q'
    obtain rfl:u=PR Γ:=r'
    refine⟨Κ,OldK.of_keep λb o e=>?_,os,j⟩
    cases q:H b with
    |none=>exact un.keep b o e q (by intro z;exact Ι (show b∈([]:List Ο) from z) (by simp)) (by simp)
    | some u =>
     rcases I b with z|⟨ob,xs,z⟩
     ·grind
     ·have z2:=un.Kk b ob _ z
      obtain⟨e1,_⟩:=J b _ z
      obtain⟨e2,_⟩:=Z4 b _ z2
      grind
 cases B:K.lookup a with
 | some o =>
  have e:=C a o B
  rw[A]at e
  cases e
  refine f (λ_=>Β) (λ_ =>.inl Κ) (.inr ⟨_,vs.toArray,_,B,Κ,Κ,Κ,by grind,by grind⟩) (λb u z=>by grind) (λb z=>Ι Κ z) λz=>Ι Κ z
 | none =>
  refine f (λb=>if b=a then Α (.Jm {cls:=.type "list",data:=.seq vs.toArray} (.π (ns.map V.int))) else Β) (λb=>?_) (.inl (.inr ⟨{cls:=.type "list",data:=.seq vs.toArray},Θ Κ⟩)) (λb u z=>?_) (λb z=>?_) λ_=>B
  ·grind
  ·by_cases g:b=a
   ·have z':=(Θ g).symm.trans z
    cases z'
    subst g
    exact⟨A,by grind,_,_,S,A⟩
   grind
  grind
theorem Ki{l:PySem.W.OpenLaw}{K:Params->ϧ}{CX:Å->u7}{sp:Å->Sp}
  (D:l.most=Α n) (E:n<=Χ) (I:d.params.defaults=[]) (J:Il k rz)
  (L:∀(w:Å)(h:Ó),YP w h->(K w.params).In h)
  (F:∀(w:Å)(j:Str->Option Φ)(p:Ο)(h:Ó),(K w.params).In h->h.Ns Ϡ j->j d.name=Α (.ref p)->
   ∃t:Đ,(∀(s:ύ)(u:Φ),N2 s t ⟨[u],[]⟩ [(x,u)])/\
    ∀μ:Ó,(K w.params).In μ->μ.Ns Ϡ j->HB l.prog w (K w.params) j μ (CX w) k p t [x] (sp w))
  (M:∀(w:Å)(H:Hp)(a:Ο)(r:List Int),r.length<=n->Hq H->HC (K w.params) H a (r.map V.int)->sp w [.ref a] H (λv _=>v=.bl Γ) λ_ _ _=>False)
  (N:∀(w:Å)(H:Hp)(s:ύ)(e:Φ)(y:ύ),CX w [] H s (λ_ _ _=>False) e y->False):
  PySem.W.WalkO q loose XP YP l.row.toRowW d [] (λf A=>PySem.call f A):=by
 refine Att.L5 D I λw B m j Z p o pm cd O a A r G Y ho hd MP z P i c Q=>?_
 have C:=L w _ Y
 obtain⟨t,R,S⟩:=F w j p _ C G.T.g z
 exact Az C G.T.g G.T.b G.T.builtins G.T.nolimit Q P i (Í c E) J S R (λH U X=>M w H a r c U X) λH e y=>N w H m e y
noncomputable def aG(s:ϩ)(j:Nat):ϩ:=match s with
 |.ClassDef _ _ _ body _ _ _ _ _ _ _=>body.getD j (.Pass ⟨0,0,0,0⟩)
 |_ =>.Pass ⟨0,0,0,0⟩
noncomputable def bX(s:ϩ):Arguments:=match s with
 |.FunctionDef _ a _ _ _ _ _ _ _ _=>a
 |_=>{posonlyargs:=[],args:=[],vararg:=Β,kwonlyargs:=[],kw_defaults:=[],kwarg:=Β,defaults:=[]}
noncomputable def aB(s:ϩ):List ϩ:=match s with
 |.FunctionDef _ _ b _ _ _ _ _ _ _=>b
 |_=>[]
noncomputable def ag(s:ϩ):Scope:=match s with
 |.FunctionDef _ _ _ _ _ _ sc _ _ _=>sc
 |_=>zQ0
abbrev aK:u7:=λ_ _ _ _ _ _=>False
abbrev E0:XK:=λ_ _ _=>False
theorem cU:il aK X E0:=λ_ _ _ _ _ _ _ h=>h.elim
structure HZ(K:ϧ)(x qual:Str)(st:ϩ)(f:Ο)(fd:Đ):Prop where
 ex:∃(oc:Φ)(od:Option Ο)(kV doc pm:Φ)(an:Option Ο)(cdv ct:Φ)(M4:Array (Option Φ)),
  fd=oo x qual (bX st) (aB st) (ag st) .none kV doc pm an cdv ct/\K.lookup f=Α ⟨oc,od,.func fd,M4⟩/\ot K cdv qual=Γ
 kp:Ę K (.ref f)=Γ
section
variable {P:Program}{w:Å}{K:ϧ}{mg:Str->Option Φ}{μ:Ó}
theorem HZ.ok{st:ϩ}(F:HZ K x qual st f fd)(S:aq N ps (ag st))
  (d:∀(b:Φ)(A:ó)(a:List Env)(s:ύ)(H:Hp)(c:List V)(Q:VK)(E:XK),Il k (A.deeper (hW qual (ag st) s.heap.objs.size f b))->sp c H Q E->
   ∃t,LN (ud aK P w K mg μ N qual (ag st) f b A a s H E).Sb (aB st) t/\t {nx:=λ_ e=>Q .HU e,rt:=Q} (start N c) H)(len:∀c H Q E,sp c H Q E->c.length=ps.length:=by intro _ _ _ _ h;repeat first|(subst_vars;rfl)|obtain⟨_,h⟩:=h):HB P w K mg μ aK (k+1) f fd ps sp:=by
 obtain⟨m,n,kV,g,o,an,b,p,r,rfl,lk,i⟩:=F.ex
 refine ED lk i S len λA a s H c Q E j l=>?_
 obtain⟨t,h,q⟩:=d b A a s H c Q E j l
 exact⟨t,h.Sb,q⟩
theorem HZ.binds{st:ϩ}(F:HZ K x qual st f fd)
  (h:∀(kV a c:Φ)(an:Option Ο)(b d:Φ)(us:List Φ),us.length=ps.length->VD (oo x qual (bX st) (aB st) (ag st) .none kV a c an b d) ⟨us,[]⟩=pure (ps.zip us)):Binds K fd ps []:=by
 obtain⟨e,g,kV,a,c,an,b,d,i,rfl,lk,j⟩:=F.ex
 exact .all (h kV a c an b d)
theorem mj{st:ϩ}{kV b d a e:Φ}(l:K.lookup f=Α ⟨oc,od,.func (oo x qual (bX st) (aB st) (ag st) .none kV b d an a e),M4⟩)
  (c:ot K a qual=Γ) (k:Ę K (.ref f)=Γ):HZ K x qual st f (oo x qual (bX st) (aB st) (ag st) .none kV b d an a e):=⟨⟨oc,od,kV,b,d,an,a,e,M4,Κ,l,c⟩,k⟩
end
theorem ma(a:Il k A):A.units+1<ĵ:=ë (ÿ (by decide:1<=64) _) a.units
section
theorem pv(i:Nat)(a:autoParam (X.N[i]?=Α x) η)(b:X1 X.env.scope x:=by first|exact kS Κ|exact ń (kS Κ)|exact ń (ń Κ))(c:autoParam ((x == ("__debug__":Str))=Δ) θ)
  (d:autoParam ((x == ("__classdict__":Str))=Δ) θ):PE X (.Name x pos) (oJ i):=FA a b c d
end
theorem au{A B:Prop}(h:B):if Δ=Γ then A else B:=by
 grind
theorem az{A B:Prop}(h:A):if Γ=Γ then A else B:=by
 grind
theorem Z5{c A B:Prop}[Decidable c](a:c->A)(b:¬c->B):if c then A else B:=by
 grind
def Hz(H H':Hp):Prop:=∀b o,H b=Α o->H' b=Α o
theorem Hz.refl(H:Hp):Hz H H:=λ_ _ h=>h
theorem Hz.trans(a:Hz H H1)(b:Hz H1 H2):Hz H H2:=λc o h=>b c o (a c o h)
theorem Hz.free(e:Hz H H')(h:H' l=Option.none):H l=Option.none:=by
 cases q:H l with
 |none=>rfl
 | some o =>
  rw[e l o q]at h
  cases h
theorem Hz.seq{K:ϧ}(e:Hz H H')(h:HC K H a xs):HC K H' a xs:=by
 rcases h with (h|⟨o,h⟩)|h
 ·exact .inl (.inl (e _ _ h))
 ·exact .inl (.inr ⟨o,e _ _ h⟩)
 ·exact .inr h
section
end
section
end
section
open PySem.W in
open PySem.W in
end
end _L2
namespace PySem
section
end
section
end
end PySem
namespace _L2
open PySem PySem.Spec PyProof.Rows
section
end
noncomputable def cI(cells:List (Str×Ο)):List (Str×Ļ)->List (Str×Ο)->List (Str×Ο)
 |[],acc=>acc
 |(n,k):: r,acc=>if k == .free then cI cells r ((n,(cells.lookup n).getD 0):: acc) else cI cells r acc
theorem iD(h:∀y∈scope.names,y.2=.free->∃c,env.cells.lookup y.1=Α c):
  closureFor scope env=pure (cI env.cells scope.names []):=by
 unfold closureFor
 have j:∀(b:List (Str×Ļ))(acc:List (Str×Ο)),(∀y∈b,y.2=.free->∃c,env.cells.lookup y.1=Α c)->
   (forIn b acc λ(x:Str×Ļ)(p:List (Str×Ο))=>(match x with
    | (name,kind)=>if (kind == ĉ)=Γ then do
      let c ← cellOf env name
      pure (Ŭ ((name,c):: p))
     else pure (Ŭ p):Sem (ForInStep (List (Str×Ο)))))=(pure (cI env.cells b acc):Sem (List (Str×Ο))):=by
  intro b
  induction b with
  |nil=>intro acc _;rfl
  | cons y r q =>
   intro acc l
   obtain⟨n,k⟩:=y
   rw[O7]
   by_cases g:(k == ĉ)=Γ
   ·obtain⟨c,i⟩:=l (n,k) Ϧ (by simpa using g)
    have s:cellOf env n=pure c:=by
     unfold cellOf
     simp only[]at i
     rw[i]
    simp only[g,if_true,s,pure_bind]
    rw[q _ λz o=>l z (Ϯ _ o)]
    unfold cI
    simp only[]at i
    rw[Θ g,i]
    conv=>rhs;unfold cI
    rfl
   ·simp only[g,fc,if_false,pure_bind]
    rw[q _ λz o=>l z (Ϯ _ o)]
    conv=>rhs;unfold cI
    rw[Η g]
 exact(congrArg (λ(m:Sem (List (Str×Ο)))=>m >>=λz=>pure z) (j scope.names [] h)).trans (pure_bind _ _)
theorem eZ:∀(a:List (Str×Ļ))(acc:List (Str×Ο)),(∀y∈a,y.2=.free->∃c,cells.lookup y.1=Α c)->
  (∀c,acc.lookup x=Α c->cells.lookup x=Α c)->(cI cells a acc).lookup x=Α c->cells.lookup x=Α c
 |[],acc,_,ha,e=>ha c e
 | (n,k):: r,acc,hn,ha,e=>by
  unfold cI at e
  have b:=λz f=>hn z (Ϯ _ f)
  split at e
  ·rename_i hk
   refine eZ r _ b (λh d=>?_) e
   rw[List.lookup_cons]at d
   split at d
   ·rename_i hx
    have g:x=n:=by grind
    subst g
    obtain⟨i,j⟩:=hn (x,k) Ϧ (by grind)
    grind
   grind
  ·exact eZ r acc b ha e
theorem ge:∀(a:List (Str×Ļ))(acc:List (Str×Ο)),((x,ĉ)∈a∨∃c,acc.lookup x=Α c)->
  ∃c,(cI cells a acc).lookup x=Α c
 | [],acc,h=>by
  rcases h with h|h
  ·cases h
  ·exact h
 | (n,k):: r,acc,h=>by
  unfold cI
  split
  ·rename_i hk
   refine ge r _ ?_
   rcases h with h|⟨c,h⟩
   ·rcases À.mp h with h|h
    ·refine .inr ⟨(cells.lookup n).getD 0,?_⟩
     grind
    grind
   grind
  ·rename_i hk
   refine ge r _ ?_
   grind
theorem jg{b:Env}{x:Str}:∀{a:List (Str×Ļ)},a.lookup x=Α .free->
  (a.map λ(n,k)=>if (k == ĉ&& b.scope.kind == .function&& b.kindOf n == Α .cell) then (n,q7) else (n,k)).lookup x=Α .cell∨
  (a.map λ(n,k)=>if (k == ĉ&& b.scope.kind == .function&& b.kindOf n == Α .cell) then (n,q7) else (n,k)).lookup x=Α .free
 |[],h=>by simp at h
 | (n,k):: r,h=>by
  have c:=@jg b x r
  grind
theorem gH{b:Env}{x:Str}{k:Ļ}(c:k=.cell∨k=.free):∀{a:List (Str×Ļ)},(∀y∈a,y.2≠.cell)->
  (a.map λ(n,k)=>if (k == ĉ&& b.scope.kind == .function&& b.kindOf n == Α .cell) then (n,q7) else (n,k)).lookup x=Α k->(x,ĉ)∈a
 |[],_,h=>by simp at h
 | (n,k'):: r,hc,h=>by
  have e:=@gH b x k c r λy d=>hc y (Ϯ _ d)
  grind
section
abbrev oH(ifs:List Expr)(env:Env):Sem Bool:=
 forIn ifs Γ λc r=>if r=Γ then do let ok ← isTrue c env (eval c env);pure (Ŭ ok) else pure (Ŭ r)
theorem rS(I:Nat->ύ->Prop)
  (a:∀n s,I n s->Ϣ (ϣ prog w) A (pyNext it) (λr b=>match r with
   |none=>R (.ok .next) b
   | some v=>Ϣ (ϣ prog w) A (ş tg it v) (λ_ d=>Ϣ (ϣ prog w) A (assign tg env v) (λ_ f =>
     Ϣ (ϣ prog w) A (oH ifs env) (λok c =>
      if ok=Γ then Ϣ (ϣ prog w) A (eval elt env) (λx g =>
       Ϣ (ϣ prog w) A (call (.builtin "list.append") [acc,x]) (λ_ i=>∃m,m<n/\I m i) (λ_ _=>False) g) (λ_ _=>False) c
      else ∃m,m<n/\I m c) (λ_ _=>False) f) (λ_ _=>False) d) (λ_ _=>False) b) (λ_ _=>False) s)
  (n:Nat) (h:I n s):Ũ (ϣ prog w) A (.compLoop (.ListComp elt [⟨tg,iter,ifs,0⟩] scope pos) 0 it acc env) R s:=by
 refine codeAny_loop Κ I (λn s o=>?_) n h
 have no:∀{p:Φ->ύ->Prop}(e:Φ)(q:ύ),False->p e q:=λ_ _ z=>z.elim
 show Ϣ _ A (Sem.onRaise (compTurn (.ListComp elt [⟨tg,iter,ifs,0⟩] scope pos) 0 it acc env) λx=>do
  noteFrame x env
  theTreesLotGoes x) _ _ s
 refine wpAny_noted ?_
 rw[compTurn_list]
 refine Μ (Ph (Μ (ú (a n s o) (λr b j=>?_) no)))
 cases r with
 |none=>exact Ϙ j
 | some v =>
  refine Μ (ú j (λ_ d t=>?_) no)
  refine Μ (ú t (λ_ f u=>?_) no)
  refine Μ (ú u (λok c l=>?_) no)
  cases ok with
  |false=>exact Ϙ ⟨Κ,l⟩
  | true =>
   refine Μ (Μ (ú l (λx g y=>?_) no))
   exact Μ (ú y (λ_ i B=>Ϙ (Ϙ ⟨Κ,B⟩)) no)
end
def T1(X:Cx)(ifs:List Expr)(t:TT):Prop:=
 ∀(ν:List (Ο×Obj))(s:ύ)(σ:St)(H:Hp)(Q:Bool->Hp->Prop),ς X ν σ H s->t σ H Q->Ϣ (ϣ X.prog X.w) X.A (oH ifs X.env) (TP X ν σ Q) X.xe s
def oI:TT:=λ_ H Q=>Q Γ H
theorem bu:T1 X [] oI:=λ_ _ _ H _ I h=>Ϙ ⟨H,I,h⟩
theorem c7(h:PT X c t):T1 X [c] t:=λa s d H Q I e=>by
 simp only[oH,O7,Y8,if_true]
 exact Μ (Μ (aY (h a s d H Q I e) λb g f=>Ϙ (Ϙ f)))
structure IP(N:List Str)(sc scope:Scope)(capN:List Str)(cap:List Nat):Prop where
 kind:scope.kind=.function
 LS:∀y∈scope.names,y.2≠.cell
 loc:∀y∈scope.names,y.2=.local->scope.names.lookup y.1=Α .local
 free:∀y∈scope.names,y.2=.free->sc.names.lookup y.1=Α .cell∨sc.names.lookup y.1=Α .free
 len:cap.length=capN.length
 cap:∀p∈capN.zip cap,scope.names.lookup p.1=Α .free/\N[p.2]?=Α p.1
abbrev cz(X:Cx)(scope:Scope)(N:List Str)(C:Ο)(s:ύ)(H:Hp)(fp:List Ο):Cx:=
 {X with N:=N,s₀:=s,H₀:=H,env:=compEnvC scope (cI X.env.cells scope.names []) C X.env,outer:=X.stack,stack:=X.stack,ex:=fp,fn:=λ_=>Δ,pn:=[],xe:=λ_ _=>False}
noncomputable def jR(n:Nat)(cap:List Nat)(σ:St):St:=Ϗ n Β++cap.map λj=>(σ[j]?).join
theorem rX(n:Nat)(a:List Nat)(b:St):(jR n a b).length=n+a.length:=by simp[jR]
section
variable {X:Cx}{ν:List (Ο×Obj)}{σ:St}{H:Hp}{s:ύ}{scope:Scope}{own capN:List Str}{cap:List Nat}{fp:List Ο}
theorem IP.QL(B:IP X.N X.env.scope scope capN cap)(ok:X.Ok):∀y∈scope.names,y.2=.free->∃c,X.env.cells.lookup y.1=Α c:=λy a b=>ok.has y.1 (B.free y a b)
theorem IP.cell(B:IP X.N X.env.scope scope capN cap)(ok:X.Ok)(h:(cI X.env.cells scope.names []).lookup x=Α c):X.env.cells.lookup x=Α c:=
 eZ scope.names [] (B.QL ok) (λ_ e=>by cases e) h
theorem IP.locs(I:ς X ν σ H s)(B:IP X.N X.env.scope scope capN cap)(k:∀x c v,X.env.cells.lookup x=Α c->s.heap.IsCell c v->h'.IsCell c v)(C:Ο)(r:Str->Option Φ):
  ∀(i:Nat)(x:Str)(v:V),(own++capN)[i]?=Α x->(jR own.length cap σ)[i]?=Α (Α v)->∃u,RelV v u/\Look (compEnvC scope (cI X.env.cells scope.names []) C X.env) h' r x u:=by
 intro i x v t a
 have l:own.length<=i:=by
  by_cases q:own.length<=i
  ·exact q
  ·unfold jR at a
   rw[Ϛ (by simp;lia),ĸ,Θ (by lia)]at a
   cases a
 have w:capN[i - own.length]?=Α x:=by
  rwa [ä l]at t
 unfold jR at a
 rw[ä (by simpa using l),é,ώ]at a
 cases g:cap[i - own.length]? with
 |none=>rw[g]at a;cases a
 | some j =>
  rw[g]at a
  have e:(σ[j]?).join=Α v:=ϋ a
  have h:σ[j]?=Α (Α v):=by
   cases q:σ[j]? with
   |none=>rw[q]at e;cases e
   |some u=>rw[q]at e;exact congrArg Α e
  have y:(x,j)∈capN.zip cap:=by
   refine List.mem_iff_getElem?.mpr ⟨i - own.length,?_⟩
   rw[ť]
   exact⟨w,g⟩
  obtain⟨n,A⟩:=B.cap (x,j) y
  have b:=PySem.mem_of_lookup n
  have o:=B.free _ b Κ
  obtain⟨m,G,D⟩:=I.loc
  obtain⟨u,E,lk⟩:=D j x v A h (o.elim (λz =>.inr (.inl z)) λz =>.inr (.inr z))
  refine⟨u,E,.inr ⟨jg n,?_⟩⟩
  rcases lk with ⟨q,_⟩|⟨_,c,p,F⟩
  ·have f:X.env.scope.names.lookup x=Α .local:=q
   rcases o with z|z
   ·rw[z]at f;cases f
   ·rw[z]at f;cases f
  ·obtain⟨J,d⟩:=ge (cells:=X.env.cells) (x:=x) scope.names [] (.inl b)
   have:=B.cell I.ok d
   rw[p]at this
   cases this
   exact⟨c,d,k x c _ p F⟩
theorem ς.blk{C:Ο}(I:ς X ν σ H s)(B:IP X.N X.env.scope scope capN cap)(f:s.heap.objs.size<=C)(k:∀b o,s.heap.get? b=Α o->h4.get? b=Α o)
  (l:h4.Ns C m0) (g:∀b∈fp,gw X ν H b) (m:∀b∈fp,b<s.heap.objs.size):
  ς (cz X scope (own++capN) C s H fp) [] (jR own.length cap σ) H {s with heap:=h4,toks:=tk}:=by
 have n:∀b∈fp,b∉vW X.stack:=λb a z=>by
  obtain⟨_,r,t,_⟩:=g b a
  rcases À.mp (I.KU b z) with e|e
  ·exact r e
  ·exact t e
 have d:∀x,((relabel scope X.env).names.lookup x=Α .cell∨(relabel scope X.env).names.lookup x=Α .free)->(x,ĉ)∈scope.names:=λx h=>by
  rcases h with q|q
  ·exact gH (.inl Κ) B.LS q
  ·exact gH (.inr Κ) B.LS q
 refine⟨⟨I.ok.mod,B.kind,I.ok.glob,I.ok.blt,f,λx y c u w=>I.ok.inj x y c (B.cell I.ok u) (B.cell I.ok w),λx h=>ge scope.names [] (.inl (d x h)),λ_ _ z=>Ι z Ϟ,I.ok.hd,I.ok.frames,.inl Κ,
  λb a=>⟨ϳ (Ϝ (m b a) f),λx c e=>(g b a).2.2.2.2.1 x c (B.cell I.ok e)⟩,I.bs,Í I.ok.OH I.sz,λb o e a=>?_,λb a=>n b a,I.stack,I.M0⟩,
  rfl,I.bare,Un.kept k,⟨m0,l,λi x v A D _=>B.locs I (λ_ _ _ _ q=>q.keeps k) C m0 i x v A D⟩,λx c e=>?_,I.HK.fresh f,λx c e=>I.IC x c (B.cell I.ok e),λp E=>Ι (E) (by simp),I.HK.kept k,?_⟩
 ·rcases (g b a).2.2.2.1 with z|z
  ·exact I.ok.N5 b o e z
  ·exact Ι (Ϝ (lt_size e) (Í I.ok.OH z)) (ı _)
 ·obtain⟨v,q⟩:=I.cell x c (B.cell I.ok e)
  exact⟨v,q.keeps k⟩
 ·show(jR own.length cap σ).length=(own++capN).length
  rw[rX,ϛ,B.len]
theorem ς.reset{a:St}(I:ς X ν σ H s)(B:IP X.N X.env.scope scope capN cap)(f:∀b∈fp,gw X ν H b)(J:ς (cz X scope (own++capN) C s H fp) Ly a H' s'):
  ς (cz X scope (own++capN) C s H fp) Ly (jR own.length cap σ) H' s':=by
 obtain⟨m,g,_⟩:=J.loc
 refine⟨J.ok,J.os,J.bare,J.μ,⟨m,g,λi x v h j _=>?_⟩,J.cell,J.free,J.IC,J.pin,J.HK,?_⟩
 ·refine B.locs I (λy c r d l=>?_) C m i x v h j
  obtain⟨o,n,p⟩:=l
  have q:=λz=>(f c z).2.2.2.2.1 y c d Κ
  obtain⟨t,e⟩:=J.μ.any n (I.IC y c d) q
  exact⟨_,e,p⟩
 ·show(jR own.length cap σ).length=(own++capN).length
  rw[rX,ϛ,B.len]
theorem ς.adopt(I:ς X ν σ H s)(g:H D=Β)(h:X.s₀.heap.objs.size<=D)(i:D≠X.env.locals)(j:∀x c,X.env.cells.lookup x=Α c->c≠D)(l:∀p∈X.pn++ν,p.1≠D)
  (new:Ig X.prog X.w (ο H D o) s.heap D o):ς X ν σ (ο H D o) s:=by
 have ne:∀b u,H b=Α u->b≠D:=λb u e=>ai e g
 refine⟨I.ok,I.os,I.bare,⟨I.μ.keep,I.μ.slot,λb a e n m=>?_,I.μ.there,λb xs e=>?_,λb a u e=>?_,λb t e=>?_⟩,I.loc,I.cell,?_,λx c e=>?_,λp d=>?_,λb u e=>?_,I.len⟩
 ·rw[aj (ϳ (Ϝ (lt_size e) h))]
  exact I.μ.free b a e n m
 ·have q:=I.μ.K4 b xs e
  rw[aj (ne b _ q)];exact q
 ·have q:=I.μ.Kk b a u e
  rw[aj (ne b _ q)];exact q
 ·obtain⟨more,q⟩:=I.μ.KS b t e
  exact⟨_,by rw[aj (ne b _ q)];exact q⟩
 ·rw[aj (ϗ i)];exact I.free
 ·rw[aj (j x c e)];exact I.IC x c e
 ·obtain⟨e,n,r⟩:=I.pin p d
  exact⟨e,by rw[aj (l p d)];exact n,r⟩
 ·by_cases f:b=D
  ·subst f;rw[ae]at e;grind
  ·rw[aj f]at e
   exact(I.HK b u e).IZ (λ_ _ _ q=>q) (λc q=>by rw[aj (ne c _ q)];exact q) λc xs q=>by rw[aj (ne c _ q)];exact q
end
def dJ(J:It)(g:TG)(tt:TT)(te:TE)(σ0:St)(Q:VK)(H1:Hp):Prop:=∃W:Nat->Nat->List V->Hp->Prop,(∃m,W 0 m [] H1)/\∀i m acc H,W i m acc H->
 acc.length<Χ/\((J.stop i H/\∀D,H D=Β->Q (.ref D) (ο H D (.π acc)))∨(J.go i H/\∃N:List V->Hp->Prop,(∀Iu H',N Iu H'->∃m',m'< m/\W (i+1) m' Iu H')/\
  ∀x H',J.Ni i H x H'->g x σ0 H' λσ2 H2=>tt σ2 H2 λb H3=>if b=Γ then te σ2 H3 λy H4=>N (acc++[y]) H4 else N acc H3))
def En(wi:TI)(g:TG)(tt:TT)(te:TE)(n:Nat)(cap:List Nat):TE:=λσ H Q=>wi σ H λJ H1=>dJ J g tt te (jR n cap σ) Q H1
section
abbrev rn(HI:List Φ)(k:Nat):Obj:={cls:=.type "list",data:=.seq HI.toArray k}
theorem rQ{O:St}{Q:VK}(B:IP X.N X.env.scope scope capN cap)(hc:X.calm=Γ)
  (d:∀(C:Ο)(s:ύ)(H:Hp)(a:List Ο),PG (cz X scope (own++capN) C s H a) tg g/\T1 (cz X scope (own++capN) C s H a) ifs tt/\PE (cz X scope (own++capN) C s H a) elt te)
  (I:ς X ν O H s) (T:mY X.prog X.w X.K tg J a it tn) (st:tn 0 s.heap) (P:∀b∈a,gw X ν H b) {W:Nat->Nat->List V->Hp->Prop} (w0:W 0 m0 [] H)
  (turn:∀i m acc H,W i m acc H->acc.length<Χ/\((J.stop i H/\∀D,H D=Β->Q (.ref D) (ο H D (.π acc)))∨(J.go i H/\∃N:List V->Hp->Prop,(∀Iu f,N Iu f->∃Z,Z<m/\W (i+1) Z Iu f)/\
   ∀x f,J.Ni i H x f->g x (jR own.length cap O) f λσ2 h=>tt σ2 h λb H3=>if b=Γ then te σ2 H3 λy H4=>N (acc++[y]) H4 else N acc H3)))
  {RR:Φ->Ο->Result->ύ->Prop}
  (fin:∀(D C:Ο)(f:Hp)(s':ύ),Q (.ref D) f->ς X ν O f s'->(∃m,s'.heap.Ns C m)->f C=Β->C≠X.env.locals->X.s₀.heap.objs.size<=C->(∀x c,X.env.cells.lookup x=Α c->c≠C)->(∀p∈X.pn++ν,p.1≠C)->
   RR (.ref D) C (.ok .next) s'):
  Ϣ (ϣ X.prog X.w) X.A (newList []) (λacc s3=>Ϣ (ϣ X.prog X.w) X.A (newFunctionEnv scope X.env.globals (cI X.env.cells scope.names []) [] X.env.qual Β .none (Α X.env)) (λT2 s4 =>
   Ũ (ϣ X.prog X.w) X.A (.compStart (.ListComp elt [⟨tg,iter,ifs,0⟩] scope pos) 0 (.ref it) acc {T2 with scope:=relabel scope X.env}) (RR acc T2.locals) s4) X.xe s3) X.xe s:=by
 refine ā (wpAny_newFunctionEnv B.LS (by grind) (λh1 Sg PU=>?_) B.kind)
 dsimp only at Sg PU⊢
 generalize NC:s.heap.push {cls:=.type "list",dict:=Β,data:=.seq ([]:List Φ).toArray}=h at Sg PU⊢
 have hCs:h.objs.size=s.heap.objs.size+1:=by rw[←NC,size_push]
 have R:s.heap.objs.size<=h.objs.size:=by lia
 have T3:∀b∈a,b<s.heap.objs.size:=λb d=>by
  obtain⟨o,e,_⟩:=T.obj 0 s.heap st b d
  exact lt_size e
 have S:=λb o e =>
  PU.extBut b o (ϳ (Ϝ (lt_size e) R)) (Ν _ (NC▸Ν _ e))
 have XD:s.heap.objs.size≠h.objs.size:=by lia
 have J6:=PU.extBut _ _ XD (Ν _ (NC▸ό _ Κ))
 have I4:ς (cz X scope (own++capN) h.objs.size s H a) [] (jR own.length cap O) H {s with heap:=h1,toks:=s.toks+([]:List (Str×Φ)).length}:=I.blk (own:=own) B R S Sg P T3
 have Z8:∀b∈a,b∉vW X.stack:=λb d z=>by
  obtain⟨_,f1,f2,_⟩:=P b d
  rcases À.mp (I.KU b z) with e|e
  ·exact f1 e
  ·exact f2 e
 have OO:∀b∈vW X.stack,b<s.heap.objs.size:=λb d=>by
  obtain⟨_,o,ho,_⟩:=I.stack.mem d
  exact lt_size ho
 have LV:∀x c,X.env.cells.lookup x=Α c->c<s.heap.objs.size:=λx c e=>by
  obtain⟨v,q⟩:=I.cell x c e
  exact q.lt
 have PV:∀(f:Hp)(h':Ó)(j:List Φ)(k:Nat),f s.heap.objs.size=Β->h'.get? s.heap.objs.size=Α (rn j k)->
   ∀p∈[(s.heap.objs.size,rn j k)],h'.get? p.1=Α p.2/\f p.1=Β/\p.1≠(cz X scope (own++capN) h.objs.size s H a).env.locals/\p.1∉(cz X scope (own++capN) h.objs.size s H a).fs/\∀v,p.2.data≠.cell v:=λf h' j k hn he p E=>by
  have e:p=(s.heap.objs.size,rn j k):=by grind
  subst e
  exact⟨he,hn,XD,λz=>Ι (OO _ z) (ı _),λv z=>by cases z⟩
 have F:∀(f:Hp)(j:List Φ)(k:Nat),(∀b∈a,f b=Β)->∀b∈a,gw (cz X scope (own++capN) h.objs.size s H a) [(s.heap.objs.size,rn j k)] f b:=λf j k hn b d =>
  ⟨hn b d,ϳ (Ϝ (T3 b d) R),Z8 b d,.inl d,λx c e=>(P b d).2.2.2.2.1 x c (B.cell I.ok e),λp E=>by
   grind⟩
 have M:∀s3:ύ,s3={s with heap:=h1,toks:=s.toks+([]:List (Str×Φ)).length}->
   Ũ (ϣ X.prog X.w) X.A (.compLoop (.ListComp elt [⟨tg,iter,ifs,0⟩] scope pos) 0 (.ref it) (.ref s.heap.objs.size) (compEnvC scope (cI X.env.cells scope.names []) h.objs.size X.env))
    (RR (.ref s.heap.objs.size) h.objs.size) s3:=by
  rintro s3 rfl
  refine rS (λn s'=>∃i acc j k f,ς (cz X scope (own++capN) h.objs.size s H a) [(s.heap.objs.size,rn j k)] (jR own.length cap O) f s'/\tn i s'.heap/\(∀b∈a,f b=Β)/\τ acc j/\W i n acc f) ?_ m0
   ⟨0,[],[],0,H,I4.Jt (PV _ _ _ _ (I.HK.fresh (Ξ _)) J6),T.keep 0 s.heap h1 st λb _ o e=>S b o e,λb d=>(P b d).1,.nil,w0⟩
  rintro n s5 ⟨i,acc,j,k,U,I5,Sd,X7,rv,w5⟩
  obtain⟨hsz,T4⟩:=turn i n acc U w5
  obtain⟨hgt,O0,hte⟩:=d h.objs.size s H a
  rcases T4 with ⟨stop,q⟩|⟨go,N,hN,step⟩
  ·refine aY (T.done (cz X scope (own++capN) h.objs.size s H a) Κ Κ Κ hc i _ s5 _ U _ I5 (F U j k X7) Sd stop) λr s6 G=>?_
   obtain⟨hr,Y⟩:=G
   subst hr
   obtain⟨hD,T5,_⟩:=Y.pin (s.heap.objs.size,rn j k) (by simp)
   have J1:=I.SQ (s':=s6) (ch:=a) Y.os Y.μ Y.HK Y.bare λb d=>by
    obtain⟨_,f1,_,f3,f4,f5⟩:=P b d
    grind
   have J2:ς X ν O (ο U s.heap.objs.size (.π acc)) s6:=J1.adopt T5 I.sz (ű I.lt) (λx c e=>ϳ (LV x c e)) (λp E=>ϳ (lt_size (I.pin p E).1)) ⟨zz hsz,j,k,rv,hD⟩
   obtain⟨mC,T6,_⟩:=Y.loc
   refine fin _ _ _ s6 (q _ T5) J2 ⟨mC,T6⟩ (by rw[aj (ϗ XD)];exact Y.free) (ű (Ϝ I.lt R)) (Í I.sz R) (λx c e=>ϳ (Ϝ (LV x c e) R)) λp E =>
    ϳ (Ϝ (lt_size (I.pin p E).1) R)
  ·refine aY (T.item (cz X scope (own++capN) h.objs.size s H a) Κ Κ Κ hc i _ s5 _ U _ I5 (F U j k X7) Sd go) λr s6 G=>?_
   obtain⟨u,hr,h6⟩:=G
   subst hr
   refine aY h6 λ_ s7 G=>?_
   obtain⟨x,H7,I7,r7,y7,Z9,fr7⟩:=G
   have I7':=I7.pinned (F H7 j k fr7) (T.obj _ _ Z9)
   refine aY (hgt _ s7 _ H7 x u _ I7' r7 (step x H7 y7)) λ_ s8 G=>?_
   obtain⟨l,H8,I8,q8⟩:=G
   refine aY (O0 _ s8 l H8 _ I8 q8) λb s9 G=>?_
   obtain⟨H9,I9,q9⟩:=G
   have itk:∀{f:Hp}{s':ύ}{σ':St},ς (cz X scope (own++capN) h.objs.size s H a) (fS a s7.heap) σ' f s'->tn (i+1) s'.heap/\∀b∈a,f b=Β:=λ{f s' σ'} K=>by
    refine⟨T.keep _ _ _ Z9 λb d o e=>(K.pin (b,o) (fX d e)).1,λb d=>?_⟩
    obtain⟨o,e,_⟩:=T.obj _ _ Z9 b d
    exact(K.pin (b,o) (fX d e)).2.1
   cases b with
   | false =>
    rw[Η Ϟ]
    obtain⟨Z,hm,w9⟩:=hN acc H9 (by grind)
    have K9:=I9.Jt λp E=>I9.pin p (Ô _ (Ô _ E))
    obtain⟨t9,f9⟩:=itk K9
    exact⟨Z,hm,_,_,j,k,_,I.reset B P I9.JD,t9,f9,rv,w9⟩
   | true =>
    rw[Θ Κ]
    have q9':te l H9 λy H4=>N (acc++[y]) H4:=by grind
    refine aY (hte _ s9 l H9 _ I9 q9') λyv QN G=>?_
    obtain⟨y,Nl,ZA,r10,q10⟩:=G
    obtain⟨hD,T5,_⟩:=ZA.pin (s.heap.objs.size,rn j k) (by simp)
    have hlen:=rv.length
    refine wpAny_list_append_plain ⟨k,hD⟩ (λh' hpl QO=>?_) (by grind)
    obtain⟨k',hD'⟩:=hpl
    obtain⟨Z,hm,w10⟩:=hN (acc++[y]) Nl q10
    have K10:=ZA.Jt λp E=>ZA.pin p (Ô _ (Ô _ E))
    have K11:=K10.turned (t':=QN.toks) (it:=s.heap.objs.size) (λb o d e=>(QO.2 b d).trans e) T5 XD (.inr (Ξ _))
     (λx c e=>ϳ (LV x c (B.cell I.ok e))) λp E=>by
      obtain⟨d,_⟩:=nG (E)
      grind
    obtain⟨t11,ZC⟩:=itk K11
    refine⟨Z,hm,_,_,_,k',_,?_,t11,ZC,rv.append (.cons r10 .nil),w10⟩
    refine I.reset B P (K11.Jt (PV _ _ _ _ T5 ?_))
    grind
 exact codeAny_compStart_list (M _ Κ) (T.self X.A 0 _ _ _ (T.keep 0 s.heap h1 st λb _ o e=>S b o e) (M _ Κ))
theorem aZ(B:IP X.N X.env.scope scope capN cap)(j:X.calm=Γ)(l:PI X tg iter wi)
  (f:∀(C:Ο)(s:ύ)(H:Hp)(d:List Ο),PG (cz X scope (own++capN) C s H d) tg g/\T1 (cz X scope (own++capN) C s H d) ifs tt/\PE (cz X scope (own++capN) C s H d) elt te)
  (m:autoParam (∀x,Ŷ iter X.env x=pure x) ψ):PE X (.ListComp elt [⟨tg,iter,ifs,0⟩] scope pos) (En wi g tt te own.length cap):=by
 intro a s i H Q I h
 rw[eval_ListComp]
 refine Pn (use:=Β) Κ m (iD (B.QL I.ok)) B.kind B.loc (aY (l a s i H _ I h) λv U n=>aY n λY Z p=>?_)
 obtain⟨it,d,tn,J,H2,e,r,T,t,u,W,⟨m0,y⟩,c⟩:=p
 subst e
 refine rQ (own:=own) B j f r T t u y c (RR:=λacc C=>compPost (ϣ X.prog X.w) X.A X.xe Β (EP X a i Q) acc C) λD C z E q F ⟨G,K⟩ L M O P R=>?_
 refine⟨G,K,λh' S=>⟨.ref D,z,?_,Κ,q⟩⟩
 exact F.turned (t':=E.toks) (it:=C) (λb o f e=>(S.2 b f).trans e) L M (.inr O) P R
theorem bU(B:IP X.N X.env.scope scope capN cap)(E:X.calm=Γ)(F:X.N.Nodup)(G:X.N[i]?=Α x)(r:X.env.scope.names.lookup x=Α .local)(K:PI X tg iter wi)
  (l:∀(C:Ο)(s:ύ)(H:Hp)(j:List Ο),PG (cz X scope (own++capN) C s H j) tg g/\T1 (cz X scope (own++capN) C s H j) ifs tt/\PE (cz X scope (own++capN) C s H j) elt te)
  (m:autoParam (ż (.ListComp elt [⟨tg,iter,ifs,0⟩] scope pos) (Α (.Name x px)) T7.line X.env=pure Γ) η)
  (L:autoParam (∀x,Ŷ iter X.env x=pure x) ψ):PS X (.Assign [.Name x px] (.ListComp elt [⟨tg,iter,ifs,0⟩] scope pos) T7) (BG (En wi g tt te own.length cap) (cr i)):=by
 intro c s t H n I h
 rw[exec_Assign_Name_used _ _ _ _ m]
 refine Μ (Ph (Μ ?_))
 show Ϣ _ X.A (do
  let _ ← comprehension (.ListComp elt [⟨tg,iter,ifs,0⟩] scope pos) scope X.env _ (newList []) Δ (eval iter X.env) (Α (assign (.Name x px) X.env))) _ _ s
 refine Μ (ú (Pn (use:=Α (assign (.Name x px) X.env)) (Q:=λ_ d=>SP X c n .next d) Κ L (iD (B.QL I.ok)) B.kind B.loc
  (aY (K c s t H _ I h) λv s1 M=>aY M λX6 s2 O=>?_)) (λ_ d P=>Ϙ (Ϙ P)) λ_ _ e=>e)
 obtain⟨it,j,tn,J,H2,e,R,T,S,U,W,⟨m0,Y⟩,f⟩:=O
 subst e
 refine rQ (own:=own) (Q:=λx Z=>cr i x t Z n.nx) B E l R T S U Y f (RR:=λacc C=>compPost (ϣ X.prog X.w) X.A X.xe (Α (assign (.Name x px) X.env)) (λ_ d=>SP X c n .next d) acc C) λD C H' d q J2 ⟨mC,T6⟩ fC u n2 y n4=>?_
 refine Ya (nk J2 F G (.inl r) (show RelV (.ref D) (.ref D) from Κ) (λTn J3 HD=>?_) (.inr r))
 obtain⟨a,PU,ha⟩:=HD
 have p:C≠a:=by
  rcases ha with z|z
  ·rw[z];exact u
  ·exact(y x a z).symm
 refine⟨_,T6.sameBut PU p,λh' QO=>⟨_,H',?_,q⟩⟩
 exact J3.turned (t':=Tn.toks) (it:=C) (λb o l e=>(QO.2 b l).trans e) fC u (.inr n2) y n4
end
end _L2
namespace Yd
open PySem
theorem uj(a b:Nat):Ě (a:Int) (b:Int)=((a&&& b:Nat):Int):=by
 unfold Ě
 simp
theorem dR(x:Int):ķ x= -x - 1:=by
 unfold ķ
 lia
theorem KL(a b:Nat):š (a:Int) (b:Int)=((a|||b:Nat):Int):=by
 unfold š
 have c:ķ (a:Int)= -(a:Int) - 1:=dR _
 have d:ķ (b:Int)= -(b:Int) - 1:=dR _
 unfold Ě
 rw[c,d]
 have e:decide (0<= -(a:Int) - 1)=Δ:=Ζ (by lia)
 have f:decide (0<= -(b:Int) - 1)=Δ:=Ζ (by lia)
 rw[e,f]
 simp only[]
 have g:ķ (-(a:Int) - 1)=a:=by rw[dR];lia
 have h:ķ (-(b:Int) - 1)=b:=by rw[dR];lia
 rw[g,h]
 simp only[Τ]
 rw[dR,dR]
 lia
noncomputable def Ic:List Nat->Nat->Nat
 |[],s=>s
 |n:: r,s=>Ic r (s|||2^n)
theorem IH(k:Nat):∀(l:List Nat)(s:Nat),(Ic l s).testBit k=(s.testBit k||decide (k∈l))
 |[],s=>by simp[Ic]
 | n:: r,s=>by
  unfold Ic
  rw[IH k r]
  grind
theorem ND(l r:List Nat)(s:Nat):Ic (l++r) s=Ic r (Ic l s):=by
 induction l generalizing s with
 |nil=>rfl
 |cons n t a=>exact a _
noncomputable def mU(l:List Nat):Nat->Nat
 |0=>0
 |n+1=>if n∈l then mU l n+2^n else mU l n
theorem KW(l:List Nat):∀n,mU l n<2^n
 |0=>by simp[mU]
 | n+1=>by
  have:=KW l n
  unfold mU
  grind
theorem rM(l:List Nat)(k:Nat):∀n,(mU l n).testBit k=decide (k<n/\k∈l)
 |0=>by simp[mU]
 | n+1=>by
  have b:=rM l k n
  have c:=KW l n
  unfold mU
  by_cases a:n∈l
  ·rw[Θ a,Nat.add_comm]
   rcases Nat.lt_trichotomy k n with h|h|h
   ·rw[Nat.testBit_two_pow_add_gt h,b]
    grind
   ·subst h
    rw[Nat.testBit_two_pow_add_eq,Ł c]
    simp[a]
   ·have d:2^n+mU l n<2^k:=by
     have:2^(n+1)<=2^k:=ç (by decide) h
     grind
    rw[Ł d]
    grind
  grind
theorem OP(h:∀k∈l,k<n):mU l n=Ic l 0:=by
 apply Q1
 intro k
 rw[rM,IH]
 by_cases a:k∈l
 ·simp[a,h k a]
 ·simp[a]
noncomputable def J7(m b:Nat):List Nat:=(Υ b).filter λk=>m.testBit k
theorem Iz(h:m<2^b):k∈J7 m b↔m.testBit k=Γ:=by
 unfold J7
 rw[Ϫ,Ϩ]
 constructor
 ·exact λz=>z.2
 ·intro z
  refine⟨?_,z⟩
  by_cases a:k<b
  ·exact a
  ·have:m<2^k:=Ϝ h (ç (by decide) (by lia))
   rw[Ł this]at z
   cases z
theorem JM(m b:Nat):(J7 m b).Pairwise (· < ·):=Č _ A2
theorem OQ(h:m<2^b):Ic (J7 m b) 0=m:=by
 apply Q1
 intro k
 rw[IH,cy,ŭ]
 by_cases a:m.testBit k=Γ
 ·rw[a];exact Ε ((Iz h).mpr a)
 ·have:m.testBit k=Δ:=by simpa using a
  rw[this]
  exact Ζ λz=>a ((Iz h).mp z)
theorem L7:∀{l r:List Int},l.Pairwise (· < ·)->r.Pairwise (· < ·)->(∀k,k∈l↔k∈r)->l=r
 |[],[],_,_,_=>rfl
 | [],y:: r,_,_,h=>by
  have:=(h y).mpr Ϧ
  cases this
 | x:: l,[],_,_,h=>by
  have:=(h x).mp Ϧ
  cases this
 | x:: l,y:: r,hl,hr,h=>by
  obtain⟨d,b⟩:=Q8.mp hl
  obtain⟨f,c⟩:=Q8.mp hr
  have e:x=y:=by
   rcases À.mp ((h x).mp Ϧ) with z|z
   ·exact z
   ·rcases À.mp ((h y).mpr Ϧ) with a|a
    ·exact a.symm
    grind
  subst e
  congr 1
  refine L7 b c λk=>?_
  grind
theorem Jf(m:Nat):m<2^(Ϭ (m:Int)):=by
 unfold Ϭ
 by_cases h:m=0
 ·subst h;simp
 ·have e:((m:Int) == 0)=Δ:=by simp[h]
  rw[e]
  simp only[fc,if_false,Tz]
  exact Nat.lt_log2_self
theorem bits_le{m b:Nat}(h:m<2^b):Ϭ (m:Int)<=b:=by
 unfold Ϭ
 by_cases a:m=0
 ·subst a;simp
 ·have e:((m:Int) == 0)=Δ:=by simp[a]
  rw[e]
  simp only[fc,if_false,Tz]
  have:=(Nat.log2_lt a).mpr h
  lia
theorem M5(m k:Nat):decide (Ě ((m:Int) / 2^k) 1=1)=m.testBit k:=by
 have e:((m:Int) / 2^k)=((m / 2^k:Nat):Int):=by
  rw[Int.natCast_ediv,L3]
  rfl
 rw[e,show (1:Int)=((1:Nat):Int) from Κ,uj,Nat.testBit_eq_decide_div_mod_eq]
 rw[Nat.and_one_is_mod]
 congr 1
 exact propext ⟨λz=>by exact_mod_cast z,λz=>by exact_mod_cast z⟩
end Yd
namespace _L2
open PySem PySem.Spec PyProof.Rows
mutual
inductive kx(K:ϧ)(H:Hp):V->û->Prop
 |HU:kx K H .HU .none
 |bl (b:Bool):kx K H (.bl b) (.bool b)
 |int (i:Int):kx K H (.int i) (.int i)
 |str (x:Str):kx K H (.str x) (.str x)
 |π {a:Ο} {xs:List V} {ds:List û}:HC K H a xs->ku K H xs ds->kx K H (.ref a) (.list ds)
 |tup {a:Ο} {xs:List V} {ds:List û}:HF K H a xs->ku K H xs ds->kx K H (.ref a) (.tuple ds)
inductive ku(K:ϧ)(H:Hp):List V->List û->Prop
 |nil:ku K H [] []
 |cons {x:V} {d:û} {xs:List V} {ds:List û}:kx K H x d->ku K H xs ds->ku K H (x:: xs) (d:: ds)
end
section
mutual
theorem ς.den(I:ς X ν σ H s):∀{x:V}{d:û}{u:Φ},kx X.K H x d->RelV x u->∃as,Reads s.heap u d as
 |_,_,_,.HU,r=>by cases r;exact⟨_,.none⟩
 |_,_,_,.bl b,r=>by cases r;exact⟨_,.bool b⟩
 |_,_,_,.int i,r=>by obtain⟨t,rfl⟩:=r;exact⟨_,.int i t⟩
 |_,_,_,.str x,r=>by obtain⟨t,rfl⟩:=r;exact⟨_,.str x t⟩
 | _,_,_,.π hq hd,r=>by
  cases r
  obtain⟨HI,rv,⟨o,n,e,hc,_,ZD⟩,_⟩:=I.list hq
  obtain⟨as,q⟩:=I.QP hd rv
  exact⟨_,.list e hc ZD (by simpa using q)⟩
 | _,_,_,.tup hq hd,r=>by
  cases r
  obtain⟨HI,rv,⟨o,e,hc,n,ZD⟩,_⟩:=I.tuple hq
  obtain⟨as,q⟩:=I.QP hd rv
  exact⟨_,.tuple e hc ZD (by simpa using q)⟩
theorem ς.QP(I:ς X ν σ H s):∀{xs:List V}{ds:List û}{us:List Φ},ku X.K H xs ds->τ xs us->∃as,ReadsAll s.heap us ds as
 |_,_,_,.nil,.nil=>⟨_,.nil⟩
 | _,_,_,.cons hd hr,.cons r rr=>by
  obtain⟨as,q⟩:=I.den hd r
  obtain⟨bs,q'⟩:=I.QP hr rr
  exact⟨_,.cons q q'⟩
end
inductive F5(K:ϧ)(x:V)(y:V)(H:Hp)(Q:VK):Prop
 |mk (da db)(_:kx K H x da)(_:kx K H y db)(_:Œ da=Γ)(_:Œ db=Γ)(_:Q (.bl (į da db)) H)
inductive F4(K:ϧ)(x:V)(y:V)(H:Hp)(Q:VK):Prop
 |mk (da db)(_:kx K H x da)(_:kx K H y db)(_:Œ da=Γ)(_:Œ db=Γ)(_:Q (.bl (!į da db)) H)
end
section
theorem p8(b:X.A.units+64<ĵ):eB X (compareOp .Eq) (F5 X.K):=by
 intro a s m H x y v u Q I c d h
 obtain⟨n,o,e,f,g,i,q⟩:=h
 obtain⟨as,j⟩:=I.den e c
 obtain⟨bs,l⟩:=I.den f d
 exact SeqAt.compareEq_shaped j l g i b ⟨.bl _,H,I,Κ,q⟩
theorem p6(b:X.A.units+64<ĵ):eB X (compareOp .NotEq) (F4 X.K):=by
 intro a s m H x y v u Q I c d h
 obtain⟨n,o,e,f,g,i,q⟩:=h
 obtain⟨as,j⟩:=I.den e c
 obtain⟨bs,l⟩:=I.den f d
 exact SeqAt.compareNe_shaped j l g i b ⟨.bl _,H,I,Κ,q⟩
theorem iw{K:ϧ}:∀a:List Int,ku K H (a.map V.int) (a.map ŕ)
 |[] =>.nil
 |n:: r =>.cons (.int n) (iw r)
theorem jy{K:ϧ}{b:List Int}(h:HC K H a (b.map V.int)):kx K H (.ref a) (.list (b.map ŕ)):=.π h (iw b)
inductive ZE(K:ϧ)(x:V)(y:V)(H:Hp)(Q:VK):Prop
 |mk (p q:Ο)(ns ms:List Int)(_:x=.ref p)(_:y=.ref q)(_:HC K H p (ns.map V.int))(_:HC K H q (ms.map V.int))(_:Q (.bl (decide (ns=ms))) H)
inductive ZF(K:ϧ)(x:V)(y:V)(H:Hp)(Q:VK):Prop
 |mk (p q:Ο)(ns ms:List Int)(_:x=.ref p)(_:y=.ref q)(_:HC K H p (ns.map V.int))(_:HC K H q (ms.map V.int))(_:Q (.bl (!decide (ns=ms))) H)
theorem zB(b:X.A.units+64<ĵ):eB X (compareOp .Eq) (ZE X.K):=by
 intro a s c H x y v u Q I d e h
 obtain⟨p,q,f,g,rfl,rfl,i,j,q⟩:=h
 refine p8 b a s c H _ _ v u Q I d e ⟨_,_,jy i,jy j,PySem.W.shaped_ints f,PySem.W.shaped_ints g,?_⟩
 simp only[į,PySem.W.ked_eqvAll]
 exact q
theorem tG(b:X.A.units+64<ĵ):eB X (compareOp .NotEq) (ZF X.K):=by
 intro a s c H x y v u Q I d e h
 obtain⟨p,q,f,g,rfl,rfl,i,j,q⟩:=h
 refine p6 b a s c H _ _ v u Q I d e ⟨_,_,jy i,jy j,PySem.W.shaped_ints f,PySem.W.shaped_ints g,?_⟩
 simp only[į,PySem.W.ked_eqvAll]
 exact q
def ZG(K:ϧ):List V->Hp->VK->Prop:=λxs H Q =>
 (∃i,xs=[.int i,.ty "int"]/\Q (.bl Γ) H)∨(∃i,xs=[.int i,.ty "bool"]/\Q (.bl Δ) H)∨(∃p ys,xs=[.ref p,.ty "list"]/\HC K H p ys/\Q (.bl Γ) H)∨(∃p ys,xs=[.ref p,.ty "tuple"]/\HF K H p ys/\Q (.bl Γ) H)
theorem fK:c5 X (.builtin "isinstance") (ZG X.K):=by
 intro g s u H xs us Q I r h
 rcases h with ⟨i,rfl,q⟩|⟨i,rfl,q⟩|⟨p,j,rfl,d,q⟩|⟨p,j,rfl,d,q⟩
 ·cases r with
  | cons b a =>
   cases a with
   | cons a c =>
    cases c
    obtain⟨t,rfl⟩:=b
    cases a
    exact IsiPair.int_int ⟨.bl Γ,H,I,Κ,q⟩
 ·cases r with
  | cons b a =>
   cases a with
   | cons a c =>
    cases c
    obtain⟨t,rfl⟩:=b
    cases a
    exact IsiPair.int_bool ⟨.bl Δ,H,I.tok _,Κ,q⟩
 ·cases r with
  | cons b a =>
   cases a with
   | cons a c =>
    cases c
    cases b
    cases a
    obtain⟨l,m,⟨o,n,e,f,_⟩,_⟩:=I.list d
    exact IsiPair.list_list e f ⟨.bl Γ,H,I,Κ,q⟩
 ·cases r with
  | cons b a =>
   cases a with
   | cons a c =>
    cases c
    cases b
    cases a
    obtain⟨l,m,⟨o,e,f,_⟩,_⟩:=I.tuple d
    exact IsiPair.tuple_tuple e f ⟨.bl Γ,H,I,Κ,q⟩
theorem Dj:XA X "int.bit_length" (λx xs H Q=>∃i,x=.int i/\xs=[]/\Q (.int (Ϭ i:Nat)) H):=by
 intro a s d H x xs v us Q I b c h
 obtain⟨i,rfl,rfl,q⟩:=h
 obtain⟨t,rfl⟩:=b
 cases c
 exact call_int_bit_length ⟨.int _,H,I.tok _,⟨_,Κ⟩,q⟩
theorem ς.same{a:St}(I:ς X ν a H s)(k:∀b o,s.heap.get? b=Α o->s'.heap.get? b=Α o)(g:s'.gens=s.gens)(c:s'.os=s.os):ς X ν a H s':=by
 obtain⟨e,h,i,f,j⟩:=s'
 simp only at k g c
 subst g
 subst c
 have J:ς X ν a H {s with heap:=e,toks:=f}:=I.kept k
 exact⟨J.ok,J.os,J.bare,J.μ,J.loc,J.cell,J.free,J.IC,J.pin,J.HK,J.len⟩
theorem ij(E:X.calm=Γ):c5 X (.builtin "all") (λxs H Q=>∃(p:Ο)(bs:List Bool),xs=[.ref p]/\HC X.K H p (bs.map V.bl)/\Q (.bl (bs.all id)) H):=by
 intro f s F H xs us Q I r h
 obtain⟨p,bs,rfl,y,q⟩:=h
 obtain⟨u,rfl,G⟩:=i8 r
 cases G
 obtain⟨d,j,l,R⟩:=I.list y
 have c:=j.length
 rw[Ρ]at c
 have J:p<s.heap.objs.size:=by obtain⟨o,n,e,_⟩:=l;exact lt_size e
 have g:∀(i:Nat)(v:Φ),d.toArray[i]?=Α v->v=PR (bs.getD i Δ):=λi v m=>by
  have z:d[i]?=Α v:=by simpa using m
  have B:i<bs.length:=by rw[c];exact(gQ0 z)
  obtain⟨u,C,L⟩:=j.get (i:=i) (x:=.bl bs[i]) (by simp[B])
  rw[z]at C
  cases C
  rw[Ω,Λ B]
  exact L
 have t:X.A.in1.handled=Β:=I.ok.hd E
 refine call_all_walkS (rk l.isList ⟨s.heap.objs.size,[s.heap.objs.size,p],[s.heap.objs.size],λa b=>b=a,d.toArray.size,λi v=>d.toArray[i]?=Α v,_,λi=>bs.getD i Δ,Κ,
  (Walks.list t _ p (ϳ J) d.toArray).toS,⟨⟨_,ό _ Κ,Κ,Κ⟩,l.isList.push _⟩,λi v S T U m M=>?_,λY w=>?_⟩)
 ·rw[g i v m]
  exact ß M
 ·have Z:ς X f F H {s with heap:=s.heap.push {cls:=.type "list_iterator",data:=.fields #[.ref p,.int 0 0]}}:=I.kept (t':=s.toks) λb o e=>Ν _ e
  refine⟨.bl _,H,I.same (λb o e=>w.heap b o (λN=>?_) (Ν _ e)) w.gens w.os,Κ,?_⟩
  ·have O:b=s.heap.objs.size:=by simpa using N
   exact Ι (lt_size e) (by rw[O];exact ı _)
  ·have e:((Υ d.toArray.size).all λi=>bs.getD i Δ)=bs.all id:=by
    rw[ô,←c]
    clear g c y j q
    have:(Υ bs.length).map (λi=>bs.getD i Δ)=bs:=by
     apply List.ext_getElem
     ·simp
     ·intro i h1 P
      simp[P]
    conv=>rhs;rw[←this]
    rw[Y2]
    rfl
   rw[e]
   exact q
end
section
open PySem.W in
open PySem.W in
end
section
end
section
end
section
end
section
end
section
end
section
end
end _L2
namespace _L2
open PySem
noncomputable def vR:Option Int->Φ->Bool
 |none,v=>v == .none
 |some k,v=>Ĉ k v
noncomputable def Cz:Option Int->Int
 |none=>4238894112
 |some k=>hashInt k
theorem cx(h:vR k v=Γ):(k=Β/\v=.none)∨∃i t,k=Α i/\v=.int i t:=by
 cases k with
 |none=>exact .inl ⟨Κ,eq_of_beq h⟩
 |some i=>obtain⟨t,e⟩:=QU h;exact .inr ⟨i,t,Κ,e⟩
section
theorem xn(h:Q 4238894112 {s with toks:=s.toks+1}):Ϣ (ϣ prog w) A (pyHash .none) Q E s:=by
 have a:s.TypeIs .none "NoneType":=rfl
 unfold pyHash
 have c:[ý].any Φ.onHeap=Δ:=rfl
 refine Μ ?_
 rw[cRoomFor,Η (by grind)];refine Ϙ ?_
 refine Μ (Ğ a œ.lookup ?_)
 rw[Η (by grind)]
 refine Μ (Ğ a œ.lookup ?_)
 refine Μ (wpAny_callSpecialIfBoundUnlessNone?_slot a œ (ď œ a F.entry_NoneType_hash
  (wpAny_ret_mkInt ?_) (F.args_NoneType_hash_1 _)))
 exact Ϙ h
theorem GQ(c:vR a u=Γ)(d:vR b v=Γ)(h:Q (decide (a=b)) s):Ϣ (ϣ prog w) A (PySem.eqBool u v) Q E s:=by
 rcases cx c with ⟨rfl,rfl⟩|⟨i,t,rfl,rfl⟩<;>rcases cx d with ⟨rfl,rfl⟩|⟨j,f,rfl,rfl⟩
 ·unfold eqBool
  refine Ŕ ?_
  refine wpAny_ite_split (λ_=>Μ (oe (Ϙ (by simpa using h)))) (λn=>Ι Κ n)
 ·exact PySem.SeqAt.EqAt.none_int j f prog w E Q (by simpa using h)
 ·exact PySem.SeqAt.EqAt.int_none i t prog w E Q (by simpa using h)
 ·refine Iq ?_
  have e:(i == j)=decide (Α i=Α j):=by
   by_cases q:i=j
   ·simp[q]
   ·simp[q]
  rw[e];exact h
end
noncomputable def ir(prog:Program)(w:Å):KeyKind prog w (Option Int) where
 is:=vR
 hash:=Cz
 inj:=λv a b ha hb=>by
  rcases cx ha with ⟨rfl,rfl⟩|⟨i,t,rfl,rfl⟩<;>rcases cx hb with ⟨rfl,e⟩|⟨j,t',rfl,e⟩
  ·rfl
  ·cases e
  ·cases e
  grind
 byValue:=λk v h=>by
  rcases cx h with ⟨_,rfl⟩|⟨i,t,_,rfl⟩<;>rfl
 pyHash:=λ{A E s k v Q} hv h=>by
  rcases cx hv with ⟨rfl,rfl⟩|⟨i,t,rfl,rfl⟩
  ·exact xn h
  ·exact wpAny_pyHash_int h
 eqBool:=λhu hv h=>GQ hu hv h
 «strs»:=λk x t v h=>by
  rcases cx h with ⟨_,e⟩|⟨i,t,_,e⟩<;>cases e
open PySem.Spec PyProof.Rows
abbrev bo:=List (Option Int)
noncomputable def xI:Option Int->V
 |none =>.HU
 |some i =>.int i
abbrev eR:=bo×Ο×V
abbrev mJ(p:eR)(q:bo×Ο×Φ):Prop:=p.1=q.1/\p.2.1=q.2.1/\RelV p.2.2 q.2.2
def Hv(P:Program)(w:Å)(a:Ο)(kvs:List eR):Ó->Prop:=λh=>kvs.length<=Χ/\(a == æ)=Δ/\∃xs,Paired mJ kvs xs/\
 ∃o es ep,h.get? a=Α o/\o.ExactDict/\o.data=.dict es ep/\es.toList=xs.map (entryOfKey (İ (ir P w)))/\(xs.map (·.1)).Nodup
noncomputable def mO(P:Program)(w:Å)(a:Ο)(kvs:List eR):HO:=.ext (Hv P w a kvs)
def ID(P:Program)(w:Å)(H:Hp)(a:Ο)(kvs:List eR):Prop:=H a=Α (mO P w a kvs)/\∀x∈kvs,H x.2.1=Α (.tup (x.1.map xI))
theorem ID.same(h:ID P w H a kvs)(s:Hz H H'):ID P w H' a kvs:=⟨s _ _ h.1,λx b=>s _ _ (h.2 x b)⟩
noncomputable def cM(kvs:List eR)(k:bo):Option V:=(kvs.find? λx=>decide (x.1=k)).map (·.2.2)
noncomputable def wI(k:bo)(v:V)(x:eR):eR:=if x.1=k then (x.1,x.2.1,v) else x
noncomputable def gK(kvs:List eR)(k:bo)(b:Ο)(v:V):List eR:=if (cM kvs k).isSome then kvs.map (wI k v) else kvs++[(k,b,v)]
theorem kX:cM [] k=Β:=rfl
theorem cS:cM (x:: kvs) k=if x.1=k then Α x.2.2 else cM kvs k:=by
 unfold cM
 grind
theorem xQ:cM (a.map (wI k v)) k'=if k'=k then (cM a k).map (λ_=>v) else cM a k':=by
 induction a with
 |nil=>rw[NA,kX,kX];split<;>rfl
 | cons x a b =>
  rw[È,cS,b,cS,cS]
  unfold wI
  grind
theorem qh(h:cM a k=Β):cM (a++[(k,b,v)]) k'=if k'=k then Α v else cM a k':=by
 induction a with
 | nil =>
  rw[List.nil_append,cS,kX]
  grind
 | cons x a c =>
  rw[cS]at h
  by_cases d:x.1=k
  ·grind
  ·rw[Η d]at h
   rw[List.cons_append,cS,c h,cS]
   grind
theorem iV:cM (gK kvs k b v) k'=if k'=k then Α v else cM kvs k':=by
 unfold gK
 cases h:cM kvs k with
 |none=>rw[Η (by simp)];exact qh h
 | some u =>
  rw[Θ (by simp),xQ,h];rfl
theorem gJ:(gK kvs k b v).length<=kvs.length+1:=by
 unfold gK
 grind
theorem n0{F:bo->Ο->Prop}(h:∀x∈kvs,F x.1 x.2.1)(d:F k b):∀x∈gK kvs k b v,F x.1 x.2.1:=by
 intro x a
 unfold gK at a
 split at a
 ·obtain⟨y,c,rfl⟩:=Â.mp a
  unfold wI
  split
  ·exact h y c
  ·exact h y c
 ·rcases Á.mp a with q|q
  ·exact h x q
  ·rw[ϙ.mp q];exact d
theorem pR(r:Paired mJ kvs xs)(k:bo):IU (cM kvs k) ((vr xs k).map (·.2)):=by
 induction r with
 |nil=>exact ϥ
 | @cons p q _ _ h1 _ ih =>
  rw[cS]
  unfold vr at ih⊢
  rw[ć]
  by_cases e:p.1=k
  ·rw[Θ e,Ε (h1.1.symm.trans e)];exact h1.2.2
  grind
theorem jW(r:IU o u):o.isSome=u.isSome:=by
 cases o<;>cases u<;>first|rfl|exact r.elim
theorem wH(h:IU o u)(a:RelV d r):RelV (o.getD d) (u.getD r):=by
 cases o<;>cases u<;>first|exact a|exact h|exact h.elim
theorem DA(r:Paired mJ kvs xs)(a:RelV v u):Paired mJ (kvs.map (wI k v)) (xs.map (putAt k u)):=by
 induction r with
 |nil=>exact .nil
 | @cons p q _ _ h1 _ ih =>
  refine .cons ?_ ih
  unfold wI putAt
  by_cases e:p.1=k
  ·rw[Θ e,Θ (h1.1.symm.trans e)];exact⟨h1.1,h1.2.1,a⟩
  ·rw[Η e,Η (λz=>e (h1.1.trans z))];exact h1
theorem AR(r:Paired mJ kvs xs)(h:mJ p q):Paired mJ (kvs++[p]) (xs++[q]):=by
 induction r with
 |nil=>exact .cons h .nil
 |cons a _ b=>exact .cons a b
theorem D9(r:Paired mJ kvs xs)(a:RelV v u):Paired mJ (gK kvs k b v) (Yo xs k b u):=by
 have h:=jW (pR r k)
 rw[ĕ]at h
 unfold gK Yo
 rw[h]
 split
 ·exact DA r a
 ·exact AR r ⟨Κ,Κ,a⟩
section
variable {P:Program}{w:Å}{H:Hp}{h:Ó}{a b:Ο}{kvs:List eR}{k:bo}
theorem jF:∀{k:bo}{us:List Φ},τ (k.map xI) us->ItemsAre (ir P w) k us
 |[],_,.nil =>.nil
 |none:: _,_,.cons r t =>.cons (by have e:=r;subst e;rfl) (jF t)
 |some i:: _,_,.cons r t =>.cons (by obtain⟨c,e⟩:=(r);subst e;exact beq_self_eq_true i) (jF t)
theorem kI(ok:J0 P w H h)(e:H b=Α (.tup (k.map xI))):(İ (ir P w)).is h k b:=by
 obtain⟨_,c,r,o,d,⟨f,n,g⟩,_⟩:=ok _ _ e
 exact⟨o,_,n,d,f,g,jF r⟩
theorem kM(ok:J0 P w H h)(e:ID P w H a kvs):kvs.length<=Χ/\(a == æ)=Δ/\∃xs,Paired mJ kvs xs/\h.DictOfH (İ (ir P w)) a xs:=by
 obtain⟨e,g⟩:=e
 obtain⟨⟨z,i,xs,r,o,j,l,d,m,n,s,t⟩,_⟩:=ok _ _ e
 refine⟨z,i,_,r,o,j,l,d,m,n,s,?_,t⟩
 have all:∀{kvs:List eR}{xs:List (bo×Ο×Φ)},Paired mJ kvs xs->(∀x∈kvs,H x.2.1=Α (.tup (x.1.map xI)))->∀x∈xs,(İ (ir P w)).is h x.1 x.2.1:=by
  intro kvs xs r
  induction r with
  |nil=>intro _ x c;cases c
  | @cons p q _ _ d _ ih =>
   intro f x c
   rcases À.mp c with rfl|c
   ·have:=f p Ϧ
    rw[d.1,d.2.1]at this
    exact kI ok this
   ·exact ih (λy u=>f y (Ϯ _ u)) x c
 exact all r g
theorem og(d e:Ó)(p:Hv P w a kvs d)(st:∀o,d.get? a=Α o->e.get? a=Α o):Hv P w a kvs e:=by
 obtain⟨z,f,xs,r,o,g,i,q,c⟩:=p
 exact⟨z,f,_,r,o,g,i,st _ q,c⟩
theorem AT(c:æ<h.objs.size):Ig P w H (h.push {cls:=.type "dict",data:=.dict #[]}) h.objs.size (mO P w h.objs.size []):=
 ⟨⟨ϡ _,beq_eq_false_iff_ne.mpr (ϗ (ϳ c)),[],.nil,_,#[],0,ό _ Κ,⟨Κ,Κ,Κ⟩,Κ,Κ,á⟩,⟨_,ό _ Κ⟩,λ_ _=>og _ _⟩
end
def Ef(P:Program)(w:Å)(H:Hp)(a:Ο)(y:V)(r:Option V):Prop:=∃kvs k b,ID P w H a kvs/\y=.ref b/\H b=Α (.tup (k.map xI))/\r=cM kvs k
section
variable {X:Cx}{ν:List (Ο×Obj)}{σ:St}{H:Hp}{s:ύ}{a b:Ο}{y v d:V}{u r:Φ}{o:Option V}{A:ó}{E:Φ->ύ->Prop}
theorem He(I:ς X ν σ H s):æ<s.heap.objs.size:=
 YO (by decide) ((I.mod.glob.keeps I.bk).lt)
theorem ZH(i:A.units+1<ĵ)(I:ς X ν σ H s)(g:Ef X.prog X.w H a y o)(j:RelV y u)(h:∀f,ς X ν σ H f->Q (.bool o.isSome) f):
  Ϣ (ϣ X.prog X.w) A (compareOp .In u (.ref a)) Q E s:=by
 obtain⟨l,k,b,e,rfl,m,rfl⟩:=g
 cases (j)
 obtain⟨_,n,xs,c,p⟩:=kM I.HK e
 refine wpAny_in_heap (å i) (kI I.HK m) n p ?_
 have q:=jW (pR c k)
 rw[ĕ]at q
 rw[←q]
 exact h _ (I.tok _)
theorem G5(l:A.units+1<ĵ)(I:ς X ν σ H s)(g:Ef X.prog X.w H a y o)(m:RelV y u)(rd:RelV d r)(h:∀f i,ς X ν σ H i->RelV (o.getD d) f->Q f i):
  Ϣ (ϣ X.prog X.w) A (call (.builtin "dict.get") [.ref a,u,r]) Q E s:=by
 obtain⟨n,k,b,e,rfl,p,rfl⟩:=g
 cases (m)
 obtain⟨_,q,xs,c,j⟩:=kM I.HK e
 exact r4 slot_dict_get j.typeIs entry_dict_get (PySem.F.args_dict_get_3 _ _ _) (meetsH_dict_get_default (İ (ir X.prog X.w)) a b q r)
  ⟨å l,k,xs,kI I.HK p,j,h _ _ (I.tok _) (wH (pR c k) rd)⟩
theorem T8(j:A.units+1<ĵ)(I:ς X ν σ H s)(e:ID X.prog X.w H a kvs)(l:H b=Α (.tup (k.map xI)))(m:kvs.length<Χ)(n:RelV v r)
  (h:∀i,ς X ν σ (ο H a (mO X.prog X.w a (gK kvs k b v))) i->Q () i):Ϣ (ϣ X.prog X.w) A (setItem (.ref a) (.ref b) r) Q E s:=by
 obtain⟨z,p,xs,f,t⟩:=kM I.HK e
 have B:xs.length<=Χ:=by rw[←Paired.length f];exact z
 have C:(gK kvs k b v).length<=Χ:=Í gJ m
 refine W3 (hsz:=B) (å j) (kI I.HK l) t λP D F=>h _ ?_
 obtain⟨q,G,J,g,K,L,M,_,N⟩:=D
 exact I.write (x:=a) (e:=a) (by rw[e.1];exact ϥ) (.inl Κ) (λc q O z=>(F.2 c O).trans z) ⟨q,g⟩
  ⟨⟨C,p,_,D9 f n,q,G,J,g,K,L,M,N⟩,⟨q,g⟩,λ_ _=>og _ _⟩
theorem xr(I:ς X ν σ H s)(e:ID X.prog X.w H a kvs):s.TypeIs (.ref a) "dict"/\∀b,Ç a=.ref b->∃c,s.heap.get? b=Α c/\c.dict=Β:=by
 obtain⟨_,_,xs,_,f⟩:=kM I.HK e
 refine⟨f.typeIs,λb q=>?_⟩
 cases q
 obtain⟨c,_,_,g,h,_⟩:=f
 exact⟨c,g,h.2.1⟩
end
def xW(P:Program)(w:Å):TE:=λ_ H Q=>∀p,H p=Β->Q (.ref p) (ο H p (mO P w p []))
inductive Uao(P:Program)(w:Å)(Q:VK)(y:V)(x:V)(H2:Hp):Prop
 |mk (a o)(_:x=.ref a)(_:Ef P w H2 a y o)(_:Q (.bl o.isSome) H2)
def ZI(P:Program)(w:Å)(ty td:TE):TE:=λσ H Q=>ty σ H λy H1=>td σ H1 λx H2=>Uao P w Q y x H2
inductive Uap(P:Program)(w:Å)(D:mK)(σ:St)(v:V)(x:V)(y:V)(H3:Hp):Prop
 |mk (a kvs k b)(_:x=.ref a)(_:ID P w H3 a kvs)(_:y=.ref b)(_:H3 b=Α (.tup (k.map xI)))(_:kvs.length<Χ)(_:D.nx σ (ο H3 a (mO P w a (gK kvs k b v))))
def T9(P:Program)(w:Å)(td ty tv:TE):TS:=λD σ H=>tv σ H λv H1=>td σ H1 λx H2=>ty σ H2 λy H3=>Uap P w D σ v x y H3
inductive Uaq(P:Program)(w:Å)(t:TA)(σ:St)(Q:VK)(x:V)(H1:Hp):Prop
 |mk (a kvs)(_:x=.ref a)(_:ID P w H1 a kvs)(_:t σ H1 λxs H2=>∃y z o,xs=[y,z]/\Ef P w H2 a y o/\Q (o.getD z) H2)
def ES(P:Program)(w:Å)(td:TE)(t:TA):TE:=λσ H Q=>td σ H λx H1=>Uaq P w t σ Q x H1
section
theorem vt:PE X (.Dict [] [] pos) (xW X.prog X.w):=λb s c H Q I h =>
 wpAny_Dict_empty ⟨.ref s.heap.objs.size,_,I.laid (a:=s.heap.objs.size) (o:=mO X.prog X.w s.heap.objs.size []) (t':=s.toks) (λ_ _ q=>Ν _ q) (Ξ _) (AT (He I)),Κ,h _ (I.HK.fresh (Ξ _))⟩
theorem FD(d:X.A.units+1<ĵ)(j:PE X i ty)(l:PE X o td):PC X .In i o (ZI X.prog X.w ty td):=by
 intro b s c H Q I h
 refine aY (j b s c H _ I h) λF m ⟨y,n,p,q,r⟩=>aY (l b m c n _ p r) λu G t=>?_
 obtain⟨x,v,z,B,a,C,ex,g,D⟩:=t
 subst ex
 obtain rfl:u=Ç a:=B
 exact ZH d z g q λJ E=>⟨.bl C.isSome,v,E,Κ,D⟩
theorem vm(g:X.A.units+1<ĵ)(j:PE X o td)(l:PE X i ty)(m:PE X value tv)(n:ż value (Α (.Subscript o i pos')) pos.line X.env=pure Δ):
  PS X (.Assign [.Subscript o i pos'] value pos) (T9 X.prog X.w td ty tv):=by
 intro c s d H D I h
 refine S5 (aY (m c s d H _ I h) λr p ⟨v,q,t,z,B⟩=>aY (j c p d q _ t B) λu C ⟨x,E,F,G,J⟩=>aY (l c C d E _ F J) λK U L=>?_) n
 obtain⟨y,Y,M,N,a,O,k,b,ex,e,P,Q,R,S⟩:=L
 subst ex P
 obtain rfl:u=Ç a:=G
 obtain rfl:K=Ç b:=N
 exact T8 g M e Q R z λZ T=>⟨d,_,T,S⟩
theorem qP(p:X.A.units+1<ĵ)(q:PE X o td)(r:PA X (e:: es) t)
  (u:autoParam (ġ o "get" X.env (eval o X.env)=eval o X.env) η)
  (B:autoParam (((î Ip (ϟ (e:: es) X.env)).all (λx=>!x.1)&& (ů Ip (ħ [] X.env)).all (λx=>x.1.isSome)&& decide ((e:: es).length+([]:List k0).length+(if ([]:List k0).isEmpty then 0 else 1)<30))=Γ) η)
  (C:autoParam ((apos.endLine == Ip.line)=Γ) η) (D:autoParam (ϟ (e:: es) X.env=(Δ,eval e X.env):: ϟ es X.env) η) (E:autoParam ((î Ip (ϟ es X.env)).any (·.1)=Δ) η):
  PE X (.Call (.Attribute o "get" apos) (e:: es) [] Ip) (ES X.prog X.w td t):=by
 intro b s l H Q I h
 refine S4 u B C Κ (aY (q b s l H _ I h) λv G d=>?_)
 obtain⟨x,J,m,K,a,L,ex,M,N⟩:=d
 subst ex
 obtain rfl:v=Ç a:=K
 obtain⟨O,P⟩:=xr m M
 refine⟨_,_,plainAttrs_dict,slot_dict_get,PySem.F.type_dict_get,O,P,?_⟩
 have n:=r Ip b G l J _ m N
 rw[D]at n⊢
 refine ċ (by show(Δ||(î Ip (ϟ es X.env)).any (·.1))=Δ;rw[E]<;>rfl) (Ō ?_)
 refine aY n λus s2 d=>?_
 obtain⟨vs,R,S,c,y,z,ov,j,g,T⟩:=d
 subst j
 cases c with
 | cons U c=>cases c with
  | cons Y c=>cases c with
   |nil=>exact G5 p S g U Y λw' s4 Z L4=>⟨_,R,Z,L4,T⟩
end
structure B6(K:ϧ)(C:Ο)(m:Str)(f:Ο):Prop where
 reads:PySem.W.readsIn K C (.type "type")=Γ
 found:PySem.W.findCls K (.ref C) (.type "type") m=Α (.val (.ref f))
 spec:PySem.W.specialIn K (.ref C) "__getattribute__"=Α (Α (.builtin "type.__getattribute__"))
 kp:Ę K (.ref f)=Γ
def EX(C:Ο)(sp:Sp)(Jx:List V)(E:XK)(ta:TE)(t:TA):TE:=λσ H Q=>ta σ H λx H1=>x=.ref C/\t σ H1 λvs H2=>sp (vs++Jx) H2 Q E
section
theorem qQ(j:PE X o ta)(b:B6 X.K C m f)(F:HB X.prog X.w X.K X.mg X.μ CX k f fd ps sp)(l:Il k X.A)(n:Binds X.K fd ps ds)(v:τ Jx ds)(y:il CX X E)(z:PA X (e:: es) t)
  (B:autoParam (ϟ (e:: es) X.env=(Δ,eval e X.env):: ϟ es X.env) η) (D:autoParam ((î pos (ϟ es X.env)).any (·.1)=Δ) η)
  (G:eval (.Call (.Attribute o m apos) (e:: es) [] pos) X.env=(do
   let d ← eval o X.env
   kz apos.atName
   let (f,first) ← ŵ [d] (getMethod d m pl)
   callWith pos f first (î pos (ϟ (e:: es) X.env)) (ů pos (ħ [] X.env))):=by rfl):
  PE X (.Call (.Attribute o m apos) (e:: es) [] pos) (EX C sp Jx E ta t):=by
 intro a s g H Q I h
 refine PySem.W.methodCall_KW (pl:=pl) (aY (j a s g H _ I h) λu O J=>?_) G
 obtain⟨x,L,c,M,ex,q⟩:=J
 subst ex
 obtain rfl:u=Ç C:=M
 refine PySem.W.method_cls c.JI b.spec (PySem.W.cls_value c.JI b.reads b.found Κ ?_)
 refine PySem.W.callWith_K (first:=[]) (h₀:=X.μ) I.ok.mod.Ox b.kp (aY (z pos a _ g L _ (c.tok _) q) λus P ⟨R,S,i,r,N⟩=>⟨i.JI,?_⟩) B D
 exact pb F l n v y i r N
end
section
end
section
open PySem.W
end
section
end
end _L2
namespace PySem
open Sem (wp)
open AutoSeq1 (wpAny_loadPart')
theorem fM(l:Ο)(a:Array Φ)(n:Nat)(j:Option Ο)(m:Array (Option Φ)):
  Meets (Builtin.«enumerate.__new__» ⟨[.type "enumerate",.ref l],[]⟩) (λ_ R s=>s.heap.get? l=Α {cls:=.type "tuple",dict:=j,data:=.seq a n,slots:=m}/\
   R (.ok (.ret (.ref (s.heap.push {cls:=.type "tuple_iterator",data:=.fields #[.ref l,.int 0 0]}).objs.size)))
    {s with heap:=(s.heap.push {cls:=.type "tuple_iterator",data:=.fields #[.ref l,.int 0 0]}).push {cls:=.type "enumerate",data:=.fields #[.none,.bool Δ,.ref s.heap.objs.size,gg 0,.none,.none]}}):=
 .of_wp λi w A R s h=>by
  obtain⟨o,g,d,p,q⟩:=s;obtain⟨b,h⟩:=h
  have r:=sub_enumerate
  have e:Ó.IsTuple (ύ.heap ⟨o,g,d,p,q⟩) l a:=⟨_,b,Κ,n,Κ⟩
  wp_walk using c3 b
  refine wpAny_stack_any λst=>Ϙ ?_
  split
  ·rename_i c _ _ _ _ _
   cases (c == wd "enumerate")
   ·wp_walk using c3 b,ė e
    exact⟨_,Κ,h⟩
   ·wp_walk using c3 b,ė e
    exact⟨_,Κ,h⟩
  ·wp_walk using c3 b,ė e
   exact⟨_,Κ,h⟩
section
variable {prog:Program}{w:Å}{A:ó}{E:Φ->ύ->Prop}{s:ύ}
theorem fN(m:s.heap.IsTuple l items)
  (h:∀a,S9 a (s.heap.objs.size+1) s.heap.objs.size 0 .none->a.IsTupleIter s.heap.objs.size l 0->a.objs.size=s.heap.objs.size+2->
   (∀b o,s.heap.get? b=Α o->a.get? b=Α o)->Q (.ref (s.heap.objs.size+1)) {s with heap:=a}):
  Ϣ (ϣ prog w) A (call (.type "enumerate") [.ref l]) Q E s:=by
 obtain⟨⟨c,p,q,r⟩,t,d,n,e⟩:=m
 replace d:c=.type "tuple":=d
 replace e:q=.seq items n:=e
 subst d e
 refine callType_new F.called_enumerate (by decide) (F.typeCall_enumerate_1 _) (F.newCall_enumerate_1 _) (λf=>SA f _) F.entry_enumerate_new
  (fM l items n p r) ⟨t,?_⟩
 have g:(s.heap.push {cls:=.type "tuple_iterator",data:=.fields #[.ref l,.int 0 0]}).objs.size=s.heap.objs.size+1:=size_push ..
 rw[g]
 have j:S9 ((s.heap.push {cls:=.type "tuple_iterator",data:=.fields #[.ref l,.int 0 0]}).push
   {cls:=.type "enumerate",data:=.fields #[.none,.bool Δ,.ref s.heap.objs.size,gg 0,.none,.none]}) (s.heap.objs.size+1) s.heap.objs.size 0 .none:=by
  have:=ό (s.heap.push {cls:=.type "tuple_iterator",data:=.fields #[.ref l,.int 0 0]})
   (o:={cls:=.type "enumerate",data:=.fields #[.none,.bool Δ,.ref s.heap.objs.size,gg 0,.none,.none]}) Κ
  rw[g]at this;exact this
 refine⟨⟨_,j,Κ⟩,h _ j ⟨_,Ν _ (ό _ Κ),Κ,Κ⟩ (by rw[size_push,g]) λb o x=>Ν _ (Ν _ x)⟩
theorem i4(a:s.heap.IsTupleIter it l i)
  (f:s.heap.IsTuple l items) (g:items[i]?=Α x)
  (h:∀d,d.IsTupleIter it l (i+1)->Ŗ it s.heap d->Q x {s with heap:=d}):
  Ϣ (ϣ prog w) A (Ê (.ref it)) Q E s:=by
 obtain⟨o,c,j,b⟩:=id a
 obtain⟨p,m,_,q,n⟩:=f
 unfold Ê
 refine Μ (í (name:=ś "__next__") a.typeIs Ï
  (ď Ï a.typeIs Ģ ?_ (ę _)))
 show Ϣ _ _ (field (.ref it) 0 >>=_) _ _ s
 refine Μ (Ø c b (x:=.ref l) Κ ?_)
 rw[Η (show ¬((Ç l == ý)=Γ) from Ϟ)]
 refine Μ (Ø c b (x:=.int i 0) Κ ?_)
 refine Μ (à m n ?_)
 simp only[Τ,g]
 refine Μ (fx c b (by simp) (Ϙ ⟨x,Κ,Ϙ (h _ ?_ (ľ ..))⟩))
 exact⟨_,ň _ c (OY (Š b _)),(Ua ..).trans j,by
  rw[Š b];simp[gg]⟩
theorem iE(g:A.handled=Β)
  (b:s.heap.IsTupleIter it l i) (j:s.heap.IsTuple l items) (n:items[i]?=Β)
  (p:∀c e,Ó.ExtBut it s.heap c->(∃o,c.get? e=Α o/\o.cls=.type "StopIteration")->E (.ref e) {s with heap:=c}):
  Ϣ (ϣ prog w) A (Ê (.ref it)) Q E s:=by
 obtain⟨o,d,t,f⟩:=id b
 obtain⟨u,q,_,v,r⟩:=j
 unfold Ê
 refine Μ (í (name:=ś "__next__") b.typeIs Ï
  (ď Ï b.typeIs Ģ ?_ (ę _)))
 show Ϣ _ _ (field (.ref it) 0 >>=_) _ _ s
 refine Μ (Ø d f (x:=.ref l) Κ ?_)
 rw[Η (show ¬((Ç l == ý)=Γ) from Ϟ)]
 refine Μ (Ø d f (x:=.int i 0) Κ ?_)
 refine Μ (à q r ?_)
 simp only[Τ,n]
 refine Μ (oe (Μ (fx d f (by simp) ?_)))
 refine Μ ?_
 simp only[newExc,newTuple]
 refine Μ (ā ?_ (by size_fits))
 refine Μ (m:=gn _ _) (U9 (a:=ý) (by first|rfl|(simp only[gn];rfl)) ?_)
 refine ā ?_ (by size_fits)
 simp only[raiseNew]
 refine Μ (wpAny_handled ?_)
 first|rw[show A.in1.handled=Β from g]|rw[g]
 refine Μ (Ϙ (wpAny_throw ?_))
 exact p _ _ (((ľ ..).extBut.push _).push _) ⟨_,ό _ Κ,Κ⟩
end
theorem i7(f:A.handled=Β)(it l:Ο)(g:l≠it)(a:Array Φ):
  Draws prog w A it [it,l] a.size (λi v=>a[i]?=Α v) (λi h=>h.IsTupleIter it l i/\h.IsTuple l a) where
 live:=λ_ _ st=>let ⟨o,ho,_⟩:=st.1;⟨o,ho⟩
 frame:=λ_ _ _ st b=>⟨st.1.at λo e=>b it (by simp) o e,let ⟨o,ho,r⟩:=st.2;⟨o,b l (by simp) o ho,r⟩⟩
 item:=λi s Q E c st j=>by
  refine i4 st.1 st.2 (x:=a[i]) (by simp[c]) λm n d=>?_
  exact j _ m s.toks (by simp[c]) ⟨n,let ⟨o,ho,r⟩:=st.2;⟨o,d.extBut l o g ho,r⟩⟩ d
 done:=λs Q E st p=>iE f st.1 st.2 (by simp) p
end PySem
namespace _L2
open PySem PySem.Spec PyProof.Rows
section
variable {X:Cx}{ν:List (Ο×Obj)}{σ:St}{H:Hp}{s:ύ}
theorem ς.QQ{a b p:Ο}(I:ς X ν σ H s)(i:gw X ν H a)(j:gw X ν H b)(l:s.heap.objs.size<=p)
  (k:∀c o,c≠a->c≠b->s.heap.get? c=Α o->h'.get? c=Α o) (J:∃o,h'.get? a=Α o) (K:∃o,h'.get? b=Α o) (x:xs.length<=Χ) (r:τ xs us) (y:Je h' p us.toArray):
  ς X ν σ (ο H p (.tup xs)) {s with heap:=h',toks:=t'}:=by
 have L:=I.HK.fresh l
 have g:∀c u,H c=Α u->c≠p:=λc u q z=>by grind
 have lt:∀c o,s.heap.get? c=Α o->c≠p:=λc o q=>ϳ (Ϝ (lt_size q) l)
 have ne:∀c,c∉[a,b]->c≠a/\c≠b:=λc h=>by grind
 refine I.call (g':=s.gens) (d':=s.drawn) (ch:=[a,b]) ⟨λc o e n A f=>k c o (ne c f).1 (ne c f).2 e,λc o e n A f=>⟨o.slots,k c o (ne c f).1 (ne c f).2 e⟩,λc o e n f=>by rw[aj (lt c o e)];exact n,
  λc o e f=>⟨o,k c o (ne c f).1 (ne c f).2 e⟩,λc B q=>by rw[aj (g c _ q)];exact q,λc o u q=>by rw[aj (g c _ q)];exact q,λc M q=>⟨#[],by rw[aj (g c _ q),q];simp⟩⟩ (λc u q=>?_) I.bare λc h=>?_
 ·by_cases h:c=p
  ·subst h
   rw[ae]at q
   cases q
   exact⟨x,_,r,y⟩
  ·rw[aj h]at q
   refine(I.HK c u q).IZ (λd v N z=>?_) (λd z=>by rw[aj (g d _ z)];exact z) λd B z=>by rw[aj (g d _ z)];exact z
   have t:∀e,H e=Β->d≠e:=λe O w=>by
    grind
   exact k d v (t a i.1) (t b j.1) z
 ·have C:c=a∨c=b:=by grind
  rcases C with rfl|rfl
  ·obtain⟨_,D,_,E,F,G⟩:=i;grind
  ·obtain⟨_,D,_,E,F,G⟩:=j;grind
theorem ς.M7(I:ς X ν σ H s)(g:gw X ν H a)(h:gw X ν H b)
  (k:∀c o,c≠a->c≠b->s.heap.get? c=Α o->h'.get? c=Α o):ς X ν σ H {s with heap:=h',toks:=t'}:=by
 have ne:∀c,c∉[a,b]->c≠a/\c≠b:=λc l=>by grind
 refine I.call (g':=s.gens) (d':=s.drawn) (ch:=[a,b]) ⟨λc o e n m f=>k c o (ne c f).1 (ne c f).2 e,λc o e n m f=>⟨o.slots,k c o (ne c f).1 (ne c f).2 e⟩,λc o e n f=>n,
  λc o e f=>⟨o,k c o (ne c f).1 (ne c f).2 e⟩,λc p q=>q,λc o u q=>q,λc B q=>⟨#[],by rw[q];simp⟩⟩ (λc u q=>?_) I.bare λc l=>?_
 ·refine(I.HK c u q).IZ (λd v C z=>?_) (λd z=>z) λd p z=>z
  have j:∀e,H e=Β->d≠e:=λe D w=>by
   grind
  exact k d v (j a g.1) (j b h.1) z
 ·have r:c=a∨c=b:=by grind
  rcases r with rfl|rfl
  ·obtain⟨_,t,_,x,y,A⟩:=g;grind
  ·obtain⟨_,t,_,x,y,A⟩:=h;grind
theorem nZ{n i:Nat}{xs:List V}
  (D:Draws X.prog X.w X.A.in1 it fp n P Sx) (I:ς X ν σ H s) (m:S9 s.heap e it i a) (t:Sx i s.heap) (J:i<n) (K:e≠it) (d:e∉fp) (L:gw X ν H e) (M:gw X ν H it)
  (N:∀v,P i v->∃x,xs[i]?=Α x/\RelV x v):
  Ϣ (ϣ X.prog X.w) X.A (pyNext (.ref e)) (λr O=>∃u,r=Α u/\Ϣ (ϣ X.prog X.w) X.A (ş (.Tuple elts kk pos) (.ref e) u) (λ_ g=>∃p x,xs[i]?=Α x/\H p=Β/\u=.ref p/\
   ς X ν σ (ο H p (.tup [.int i,x])) g/\(∃a,S9 g.heap e it ((i+1:Nat):Int) a)/\Sx (i+1) g.heap/\p≠e/\p≠it) E O) E s:=by
 refine wpAny_pyNext_enum_itemD D m t J K d λx h' h R S T U Y Z=>⟨_,Κ,?_⟩
 refine wpAny_letOwnedTupleGo_enum S λB C j=>?_
 obtain⟨y,hy,ry⟩:=N x R
 have f:=lt_size m
 have l:it<s.heap.objs.size:=by obtain⟨_,z⟩:=D.live _ _ t;exact lt_size z
 have F:=D.frame _ _ _ T λb hb o z=>(j.2 b λq=>d (q▸hb)).trans z
 refine⟨_,y,hy,I.HK.fresh (Ξ _),Κ,?_,⟨x,by simpa using C⟩,F,ű f,ű l⟩
 refine ς.QQ (s:=s) (h':=B) (t':=h+1) I L M (Ξ _) (λc o G OR z=>(j.2 c G).trans (Z c o G OR z)) ⟨_,C⟩ (let ⟨o,z⟩:=D.live _ _ F;⟨o,z⟩) (by show 2<=Χ;decide) (us:=[.int i h,x]) (.cons ⟨h,Κ⟩ (.cons ry .nil)) ?_
 exact⟨_,(j.2 _ (ű f)).trans U,⟨Κ,_,Κ⟩,Κ⟩
end
noncomputable def Hs(sq:Hp->List V->Prop):It:=
 ⟨λi H=>∃xs x,sq H xs/\xs[i]?=Α x,λi H v H'=>∃p,H p=Β/\v=.ref p/\∀xs,sq H xs->∃x,xs[i]?=Α x/\H'=ο H p (.tup [.int i,x]),λi H=>∃xs,sq H xs/\xs.length=i⟩
theorem sG{K:ϧ}(a e it:Ο)(T:e≠it):mY P w K (.Tuple elts kk pos) (Hs λH=>HC K H a) [e,it] e (λi h=>(∃f,S9 h e it (i:Int) f)/\h.IsListIter it a i) where
 mem:=by simp
 obj:=λi h st b U=>by
  obtain⟨⟨f,g⟩,o,C,c,d⟩:=st
  grind
 keep:=λi h Y st k=>by
  obtain⟨⟨f,g⟩,j⟩:=st
  exact⟨⟨f,k e (by simp) _ g⟩,j.at λo z=>k it (by simp) o z⟩
 item:=by
  intro X D F G J i m s Z H E I l st L
  subst D F G
  obtain⟨xs,x,t,M⟩:=L
  obtain⟨n,B,p,hz⟩:=I.list t
  obtain⟨⟨f,g⟩,j⟩:=st
  have N:i<n.toArray.size:=by
   have:=(gQ0 M)
   have l2:=B.length
   simp;lia
  have hae:e≠a:=by
   rintro rfl
   obtain⟨o,C,Q,_⟩:=p.isList
   grind
  have O:a≠it:=by
   rintro rfl
   obtain⟨o,C,Q,_⟩:=p.isList
   obtain⟨o2,KJ,LJ,_⟩:=j
   grind
  refine aY (nZ (xs:=xs) (Draws.list (A:=X.A.in1) (I.ok.hd J) it a O n.toArray) I g ⟨j,p.isList⟩ N T (by grind) (l e (by simp)) (l it (by simp)) λv hv=>?_) λr s1 ⟨u,hr,R⟩=>⟨u,hr,aY R λ_ s2 ⟨q,y,hy,ZL,S,I2,PX,Kl,n1,n2⟩=>?_⟩
  ·obtain⟨u,S,ru⟩:=B.get M
   grind
  ·refine⟨.ref q,_,I2,S,⟨q,ZL,Κ,λzs O2=>⟨y,by rw[I.Jn O2 t];exact hy,Κ⟩⟩,⟨PX,Kl.1⟩,λb U=>?_⟩
   have LW:b=e∨b=it:=by grind
   rcases LW with rfl|rfl
   ·rw[aj (ϗ n1)];exact(l b (by simp)).1
   ·rw[aj (ϗ n2)];exact(l b (by simp)).1
 done:=by
  intro X D F G J i m s Z H E I l st L
  subst D F G
  obtain⟨xs,t,M⟩:=L
  obtain⟨n,B,p,hz⟩:=I.list t
  obtain⟨⟨f,g⟩,j⟩:=st
  have N:i=n.toArray.size:=by have l2:=B.length;simp;lia
  have O:a≠it:=by
   rintro rfl
   obtain⟨o,C,Q,_⟩:=p.isList
   obtain⟨o2,KJ,LJ,_⟩:=j
   grind
  refine S1 (Draws.list (A:=X.A.in1) (I.ok.hd J) it a O n.toArray) g (by rw[←N];exact⟨j,p.isList⟩) λY IF=>⟨Κ,?_⟩
  exact I.M7 (t':=s.toks) (l e (by simp)) (l it (by simp)) λc o R h2 z=>IF c o h2 z
 self:=λ_ _ _ _ _ st h=>by
  obtain⟨⟨f,g⟩,_⟩:=st
  exact Ŵ g h
theorem sF{K:ϧ}(a e it:Ο)(T:e≠it):mY P w K (.Tuple elts kk pos) (Hs λH=>HF K H a) [e,it] e (λi h=>(∃f,S9 h e it (i:Int) f)/\h.IsTupleIter it a i) where
 mem:=by simp
 obj:=λi h st b U=>by
  obtain⟨⟨f,g⟩,o,C,c,d⟩:=st
  grind
 keep:=λi h Y st k=>by
  obtain⟨⟨f,g⟩,m⟩:=st
  exact⟨⟨f,k e (by simp) _ g⟩,m.at λo z=>k it (by simp) o z⟩
 item:=by
  intro X D F G J i n s Z H E I j st L
  subst D F G
  obtain⟨xs,x,t,M⟩:=L
  obtain⟨l,B,p,hz⟩:=I.tuple t
  have pt:=p
  obtain⟨⟨f,g⟩,m⟩:=st
  have O:i<l.toArray.size:=by
   have:=(gQ0 M)
   have l2:=B.length
   simp;lia
  have hae:e≠a:=by
   rintro rfl
   obtain⟨o,C,Q,_⟩:=pt
   grind
  have N:a≠it:=by
   rintro rfl
   obtain⟨o,C,Q,_⟩:=pt
   obtain⟨o2,KJ,LJ,_⟩:=m
   grind
  refine aY (nZ (xs:=xs) (i7 (A:=X.A.in1) (I.ok.hd J) it a N l.toArray) I g ⟨m,pt⟩ O T (by grind) (j e (by simp)) (j it (by simp)) λv hv=>?_) λr s1 ⟨u,hr,R⟩=>⟨u,hr,aY R λ_ s2 ⟨q,y,hy,ZL,S,I2,PX,Kl,n1,n2⟩=>?_⟩
  ·obtain⟨u,S,ru⟩:=B.get M
   grind
  ·refine⟨.ref q,_,I2,S,⟨q,ZL,Κ,λzs O2=>⟨y,by rw[I.KH O2 t];exact hy,Κ⟩⟩,⟨PX,Kl.1⟩,λb U=>?_⟩
   have LW:b=e∨b=it:=by grind
   rcases LW with rfl|rfl
   ·rw[aj (ϗ n1)];exact(j b (by simp)).1
   ·rw[aj (ϗ n2)];exact(j b (by simp)).1
 done:=by
  intro X D F G J i n s Z H E I j st L
  subst D F G
  obtain⟨xs,t,M⟩:=L
  obtain⟨l,B,p,hz⟩:=I.tuple t
  have pt:s.heap.IsTuple a l.toArray:=p
  obtain⟨⟨f,g⟩,m⟩:=st
  have O:i=l.toArray.size:=by have l2:=B.length;simp;lia
  have N:a≠it:=by
   rintro rfl
   obtain⟨o,C,Q,_⟩:=pt
   obtain⟨o2,KJ,LJ,_⟩:=m
   grind
  refine S1 (i7 (A:=X.A.in1) (I.ok.hd J) it a N l.toArray) g (by grind) λY IF=>⟨Κ,?_⟩
  exact I.M7 (t':=s.toks) (j e (by simp)) (j it (by simp)) λc o R h2 z=>IF c o h2 z
 self:=λ_ _ _ _ _ st h=>by
  obtain⟨⟨f,g⟩,_⟩:=st
  exact Ŵ g h
section
def ZM(K:ϧ)(t:TA):TI:=λσ H R=>t σ H λvs H1=>∃a,vs=[.ref a]/\(∃xs,HC K H1 a xs)/\R (Hs λH=>HC K H a) H1
def ZN(K:ϧ)(t:TA):TI:=λσ H R=>t σ H λvs H1=>∃a,vs=[.ref a]/\(∃xs,HF K H1 a xs)/\R (Hs λH=>HF K H a) H1
theorem lC(v:Gl X "enumerate")(w:X.mg "enumerate"=Β)(x:PA X [a] t)(y:autoParam (ϟ [a] X.env=[(Δ,eval a X.env)]) η):PI X (.Tuple elts kk Kn) (.Call (.Name "enumerate" p) [a] [] pos) (ZM X.K t):=by
 intro c s m H R I h
 refine Ks (dj I v w boot_enumerate (ϭ (aY (x pos c s m H _ I h) λus d z=>?_) y Κ))
 obtain⟨L,n,i,A,B⟩:=z
 obtain⟨l,e,⟨xs,C⟩,q⟩:=B
 subst e
 cases A with
 | cons r D =>
  cases D
  cases r
  obtain⟨M,N,E,O⟩:=i.list C
  refine call_enumerate_list E.isList λo u j F G=>?_
  have J:=i.kept (t':=d.toks) G
  refine Ŵ (s:={d with heap:=o}) u ?_
  refine⟨_,_,_,_,n,Κ,J,sG l _ d.heap.objs.size (Nat.succ_ne_self _),⟨⟨_,u⟩,j⟩,λb P=>?_,q⟩
  have Q:b=d.heap.objs.size+1∨b=d.heap.objs.size:=by grind
  have g:d.heap.objs.size<=b:=by
   grind
  exact i.Lz g (i.HK.fresh g)
theorem gP(v:Gl X "enumerate")(w:X.mg "enumerate"=Β)(x:PA X [a] t)(y:autoParam (ϟ [a] X.env=[(Δ,eval a X.env)]) η):PI X (.Tuple elts kk Kn) (.Call (.Name "enumerate" p) [a] [] pos) (ZN X.K t):=by
 intro c s m H R I h
 refine Ks (dj I v w boot_enumerate (ϭ (aY (x pos c s m H _ I h) λus d z=>?_) y Κ))
 obtain⟨M,n,i,A,B⟩:=z
 obtain⟨l,e,⟨xs,C⟩,q⟩:=B
 subst e
 cases A with
 | cons r D =>
  cases D
  cases r
  obtain⟨E,N,F,O⟩:=i.tuple C
  refine fN (F) λo u j G J=>?_
  have L:=i.kept (t':=d.toks) J
  refine Ŵ (s:={d with heap:=o}) u ?_
  refine⟨_,_,_,_,n,Κ,L,sF l _ d.heap.objs.size (Nat.succ_ne_self _),⟨⟨_,u⟩,j⟩,λb P=>?_,q⟩
  have Q:b=d.heap.objs.size+1∨b=d.heap.objs.size:=by grind
  have g:d.heap.objs.size<=b:=by
   grind
  exact i.Lz g (i.HK.fresh g)
end
theorem fI{g:TG}{j:TS}{D:mK}(b:Nat->St->Hp->Prop)(o:b 0 a H)(r:∀i a H,i<=xs.length->b i a H->sq H xs)
  (s:∀i x p a H,xs[i]?=Α x->b i a H->H p=Β->g (.ref p) a (ο H p (.tup [.int i,x])) λc h=>j {D with nx:=b (i+1),ct:=b (i+1),bk:=D.nx} c h) (u:∀a H,b xs.length a H->D.nx a H):
  ∃W:Nat->Nat->St->Hp->Prop,(∃m,W 0 m a H)/\∀i m a H,W i m a H->
   ((Hs sq).stop i H/\D.nx a H)∨((Hs sq).go i H/\∃N:St->Hp->Prop,(∀d f,N d f->∃l,l<m/\W (i+1) l d f)/\∀x f,(Hs sq).Ni i H x f->g x a f λc h=>j {D with nx:=N,ct:=N,bk:=D.nx} c h):=by
 refine⟨λi m a H=>m=xs.length - i/\i<=xs.length/\b i a H,⟨xs.length,by simp,ϡ _,o⟩,?_⟩
 rintro i m a H ⟨rfl,v,p⟩
 have q:=r i a H v p
 by_cases n:i<xs.length
 ·refine .inr ⟨⟨xs,xs[i],q,by simp[n]⟩,b (i+1),λd f w=>⟨xs.length - (i+1),by lia,Κ,n,w⟩,λx f y=>?_⟩
  obtain⟨z,A,rfl,B⟩:=y
  obtain⟨C,E,e⟩:=B xs q
  subst e
  exact s i C z a H E p A
 ·have e:i=xs.length:=by lia
  subst e
  exact .inl ⟨⟨xs,q,Κ⟩,u a H p⟩
def JE(d:û)(m:Nat):Prop:=d.canLay0=Γ/\d.depth<=m
theorem JE.shaped(h:JE d m)(a:m<=64):Œ d=Γ:=by
 unfold Œ
 rw[h.1,Ε (Í h.2 a)];rfl
theorem cj(i:Int):JE (.int i) 0:=⟨by simp[Ź],by simp[eH]⟩
theorem oT:∀{ds:List û},(∀d∈ds,JE d m)->fb ds=Γ/\nI ds<=m
 |[],_=>⟨by simp[fb],by simp[nI]⟩
 | d:: r,h=>by
  obtain⟨a,b⟩:=oT (ds:=r) λz f=>h z (Ϯ _ f)
  obtain⟨c,e⟩:=h d Ϧ
  exact⟨by simp[fb,c,a],by simp only[nI];lia⟩
theorem iY(h:∀d∈ds,JE d m):JE (.list ds) (m+1):=by
 obtain⟨a,b⟩:=oT h
 exact⟨by simp[Ź,a],by simp only[eH];lia⟩
theorem cT(h:∀d∈ds,JE d m):JE (.tuple ds) (m+1):=by
 obtain⟨a,b⟩:=oT h
 exact⟨by simp[Ź,a],by simp only[eH];lia⟩
theorem neS{K:ϧ}(a:kx K H x d)(b:kx K H y d)(s:JE d 64)(q:Q (.bl Δ) H):F4 K x y H Q:=
 ⟨d,d,a,b,s.shaped (Ξ _),s.shaped (Ξ _),by rw[wh d s.1];exact q⟩
theorem eqS{K:ϧ}(a:kx K H x d)(b:kx K H y d)(s:JE d 64)(q:Q (.bl Γ) H):F5 K x y H Q:=
 ⟨d,d,a,b,s.shaped (Ξ _),s.shaped (Ξ _),by rw[wh d s.1];exact q⟩
theorem JE.le(h:JE d m)(l:m<=n):JE d n:=⟨h.1,Í h.2 l⟩
end _L2
namespace _L2
open PySem
theorem jz(p:Nat->Bool)(f:Nat->V)(w:n<Χ)
  (o:∀(i:Nat)(acc:List V)(N:List V->Hp->Prop),i<n->N (if p i then acc++[f i] else acc) H->g (.int (lo+i)) σ0 H λc a=>tt c a λb d=>if b=Γ then te c d λy q=>N (acc++[y]) q else N acc d)
  (r:∀D,H D=Β->Q (.ref D) (ο H D (.π (((Υ n).filter p).map f)))):
  dJ (B4 lo n) g tt te σ0 Q H:=by
 refine⟨λi m acc j=>m=n - i/\i<=n/\j=H/\acc=((Υ i).filter p).map f,⟨n,by simp,ϡ _,Κ,Κ⟩,?_⟩
 rintro i m acc j ⟨rfl,z,rfl,rfl⟩
 have s:(((Υ i).filter p).map f).length<Χ:=by
  grind
 refine⟨s,?_⟩
 by_cases l:i<n
 ·refine .inr ⟨l,λh a=>a=j/\h=((Υ (i+1)).filter p).map f,λh a t=>by obtain⟨u,v⟩:=t;exact⟨_,by lia,Κ,l,u,v⟩,λx a y=>?_⟩
  obtain⟨e,y⟩:=y
  subst e y
  refine o i _ (λh d=>d=a/\h=((Υ (i+1)).filter p).map f) l ⟨Κ,?_⟩
  rw[É,Ĥ]
  grind
 ·have e:i=n:=by lia
  subst e
  exact .inl ⟨Ξ _,r⟩
theorem ig(p:V->Bool)(f:V->V)(A:xs.length<Χ)(l:HC K H a xs)
  (r:∀(x:V)(acc:List V)(N:List V->Hp->Prop),x∈xs->N (if p x then acc++[f x] else acc) H->g x σ0 H λd c=>tt d c λb h=>if b=Γ then te d h λy s=>N (acc++[y]) s else N acc h)
  (t:∀D,H D=Β->Q (.ref D) (ο H D (.π ((xs.filter p).map f)))):
  dJ (B7 K a) g tt te σ0 Q H:=by
 refine⟨λi m acc n=>m=xs.length - i/\i<=xs.length/\n=H/\acc=((xs.take i).filter p).map f,⟨xs.length,by simp,ϡ _,Κ,Κ⟩,?_⟩
 rintro i m acc n ⟨rfl,B,rfl,rfl⟩
 have u:(((xs.take i).filter p).map f).length<Χ:=by
  grind
 refine⟨u,?_⟩
 by_cases o:i<xs.length
 ·refine .inr ⟨⟨xs,xs[i],l,by simp[o]⟩,λj c=>c=n/\j=((xs.take (i+1)).filter p).map f,λj c v=>by obtain⟨w,z⟩:=v;exact⟨_,by lia,Κ,o,w,z⟩,λx c y=>?_⟩
  obtain⟨e,y⟩:=y
  subst e
  have q:=y xs l
  refine r x _ (λj h=>h=c/\j=((xs.take (i+1)).filter p).map f) (Ψ q) ⟨Κ,?_⟩
  rw[Ì,q,Ĥ]
  grind
 ·have e:i=xs.length:=by lia
  subst e
  rw[Æ]
  exact .inl ⟨⟨xs,l,Ξ _⟩,t⟩
theorem jt(k:Int):∀a:List Int,AH (.int k) (a.map V.int)=decide (k∈a)
 |[]=>by simp[AH]
 | n:: r=>by
  have b:=jt k r
  unfold AH at b⊢
  rw[È,kl,b]
  show((n == k)||decide (k∈r))=decide (k∈n:: r)
  grind
theorem fJ:∀a:List Int,(a.map V.int).all iB=Γ
 |[]=>rfl
 |n:: r=>by rw[È,OL,fJ r];rfl
open PySem.Spec PyProof.Rows
section
inductive ZO(x:V)(vs:List V)(H:Hp)(Q:VK):Prop
 |mk (l:Ο)(ns:List Int)(k:Int)(_:x=.ref l)(_:vs=[.int k])(_:H l=Α (.π (ns.map V.int)))(_:k∈ns)(_:ns.length<=100000)(_:Q (.int (ns.idxOf k:Nat)) H)
theorem nK:XA X "list.index" ZO:=by
 intro D s σ H x vs v us Q I M N h
 obtain⟨l,a,k,rfl,rfl,O,P,G,q⟩:=h
 cases M
 obtain⟨u,rfl,R⟩:=N.one
 obtain⟨t,rfl⟩:=R
 obtain⟨z,b,n,r,hl,e⟩:=I.LR O
 have hi:=fZ r
 have g:b.length=a.length:=by rw[←r.length,Ρ]
 have o:=c0 P
 have d:∀m (c:m<b.toArray.size),∃t,b.toArray[m]=Ű (a[m]'(by simpa [g] using c)) t:=λm c=>by
  have A:m<b.length:=by simpa using c
  have S:(a.map V.int)[m]?=Α (V.int (a[m]'(by lia))):=by simp[show m<a.length by lia]
  obtain⟨w',J,T⟩:=r.get S
  obtain⟨f,rfl⟩:=T
  refine⟨f,?_⟩
  have:b[m]?=Α b[m]:=Λ A
  rw[this]at J
  simpa using ϋ J
 let U:Φ->Bool:=λy=>Ĉ k y
 refine Oj slot_list_index ⟨_,e,Κ⟩ PySem.F.entry_list_index (PySem.F.args_list_index_2 _ _)
  (SeqAt.list_indexAt l b.toArray n Β #[] (.int k t) U (a.idxOf k) (by simpa [g] using o) (by lia) ?_ ?_) ⟨e,λy Y=>?_,?_⟩
 ·obtain⟨f,j⟩:=d (a.idxOf k) (by simpa [g] using o)
  show Ĉ k (b.toArray[a.idxOf k]'(by simpa [g] using o))=Γ
  rw[j,List.getElem_idxOf]
  simp[Ĉ]
 ·intro m c B
  obtain⟨f,j⟩:=d m c
  show Ĉ k b.toArray[m]=Δ
  rw[j]
  have K:a[m]'(by simpa [g] using c)≠k:=λz=>by
   have:=List.not_of_lt_findIdx (p:=λx=>x == k) (xs:=a) (i:=m) B
   rw[z]at this
   simp at this
  simp only[Ĉ,beq_eq_false_iff_ne,ne_eq]
  first|exact K|exact λz=>K z.symm
 ·have c:y∈b:=by simpa using Y
  obtain⟨m,A,Z⟩:=ì c
  obtain⟨f,j⟩:=d m (by simpa using A)
  have ey:y=Ű (a[m]'(by lia)) f:=by rw[←Z];simpa using j
  subst ey
  intro L w E Q' C
  refine Iq ?_
  have:(a[m]'(by lia) == k)=Ĉ k (Ű (a[m]'(by lia)) f):=by simp[Ĉ,Bool.beq_comm]
  rw[this]
  exact C
 ·exact⟨.int (a.idxOf k:Nat),H,I.tok _,⟨_,Κ⟩,q⟩
inductive TH(K:ϧ)(xs:List V)(H:Hp)(Q:VK):Prop
 |mk (v:V)(t:Φ)(c:String)(b:Bool)(_:xs=[v,.ty c])(_:jS K H v t)(_:Ķ K t (.type c)=Α b)(_:Q (.bl b) H)
theorem j2:c5 X (.builtin "isinstance") (TH X.K):=by
 intro d s j H xs us Q I r h
 obtain⟨v,t,c,b,rfl,e,f,q⟩:=h
 cases r with
 | cons g a=>cases a with
  | cons a i =>
   cases i
   cases a
   exact xj I g e f λl=>⟨.bl b,H,I.tok _,Κ,q⟩
end
end _L2
namespace _L2
open PySem
section
inductive TK(t:TS)(D:mK)(σ:St)(H:Hp):Prop
 |mk (Ko:St->Hp->Prop)(_:t {D with nx:=Ko} σ H)(_:∀σ' H',Ko σ' H'->D.nx σ' H')
theorem vk(h:PS X st t):PS X st (TK t):=λa s c H D I ⟨g,q,k⟩ =>
 aY (h a s c H _ I q) λf i z=>by
  cases f with
  |next=>obtain⟨b,d,e,p⟩:=z;exact⟨b,d,e,k _ _ p⟩
  |brk=>exact z
  |cont=>exact z
  |ret u=>exact z
inductive EQ(t:TE)(σ:St)(H:Hp)(Q:VK):Prop
 |mk (Ko:V->Hp->Prop)(_:t σ H Ko)(_:∀v H',Ko v H'->Q v H')
theorem vq(h:PE X e t):PE X e (EQ t):=λa s c H Q I ⟨g,q,k⟩ =>
 aY (h a s c H _ I q) λu i d=>by obtain⟨v,b,f,r,p⟩:=d;exact⟨v,b,f,r,k v b p⟩
inductive EO(t:TT)(σ:St)(H:Hp)(Q:Bool->Hp->Prop):Prop
 |mk (Ko:Bool->Hp->Prop)(_:t σ H Ko)(_:∀b H',Ko b H'->Q b H')
theorem kE(h:PT X e t):PT X e (EO t):=λa s d H Q I ⟨i,q,k⟩ =>
 aY (h a s d H _ I q) λb j f=>by obtain⟨c,g,p⟩:=f;exact⟨c,g,k b c p⟩
end
open PySem.Spec PyProof.Rows
section
variable {κ:Type}[DecidableEq κ]
noncomputable def cC(kvs:List (κ×V))(k:κ):Option V:=(kvs.find? λkv=>decide (kv.1=k)).map (·.2)
noncomputable def cX(kvs:List (κ×V))(k:κ)(v:V):List (κ×V):=
 if (kvs.any λkv=>decide (kv.1=k))=Γ then kvs.map (λkv=>if kv.1=k then (kv.1,v) else kv) else kvs++[(k,v)]
theorem gy{k:κ}(e:p.1=k):cC (p:: r) k=Α p.2:=by simp[cC,ć,e]
theorem gA{k:κ}(e:¬p.1=k):cC (p:: r) k=cC r k:=by simp[cC,ć,e]
theorem iU(k:κ):∀a:List (κ×V),(a.any λb=>decide (b.1=k))=(cC a k).isSome
 |[]=>rfl
 | p:: r=>by
  rw[kl]
  by_cases e:p.1=k
  ·simp only[gy e,Ε e,Bool.true_or,Option.isSome_some]
  ·rw[gA e,Ζ e,ŭ];exact iU k r
theorem eO(a:List (κ×V))(k:κ)(v:V):(cX a k v).length<=a.length+1:=by
 unfold cX
 grind
theorem lB{k:κ}(v:V)(h:cC kvs k=Β):cX kvs k v=kvs++[(k,v)]:=by
 unfold cX
 rw[iU,h]
 exact Η (by decide)
theorem IU.Ja(r:IU o u):o.isSome=u.isSome:=by
 cases o with
 | none=>cases u with
  |none=>rfl
  |some _=>exact(r).elim
 | some _=>cases u with
  |none=>exact(r).elim
  |some _=>rfl
theorem IU.getD(r:IU o u)(rd:RelV d d'):RelV (o.getD d) (u.getD d'):=by
 cases o with
 | none=>cases u with
  |none=>exact rd
  |some _=>exact(r).elim
 | some _=>cases u with
  |none=>exact(r).elim
  |some _=>exact r
theorem KV.val(r:KV kvs vs)(k:κ):IU (cC kvs k) (rx vs k):=by
 unfold KV at r
 induction r with
 |nil=>exact ϥ
 | @cons p q ps qs h t ih =>
  obtain⟨c,d⟩:=h
  by_cases e:p.1=k
  ·have a:=c.symm.trans e
   have b:rx (q:: qs) k=Α q.2:=by simp[rx,ć,a]
   rw[gy e,b];exact d
  ·have a:¬q.1=k:=λz=>e (c.trans z)
   have b:rx (q:: qs) k=rx qs k:=by simp[rx,ć,a]
   rw[gA e,b];exact ih
theorem KV.any(r:KV kvs vs)(k:κ):(kvs.any λa=>decide (a.1=k))=vs.any λa=>decide (a.1=k):=by
 unfold KV at r
 induction r with
 |nil=>rfl
 |cons h t b=>rw[kl,kl,b,h.1]
theorem KV.QS(r:KV kvs vs)(k:κ)(b:RelV y u):
  KV (kvs.map λa=>if a.1=k then (a.1,y) else a) (vs.map λa=>if a.1=k then (a.1,u) else a):=by
 unfold KV at r⊢
 induction r with
 |nil=>exact .nil
 | @cons p q ps qs h t ih =>
  rw[È,È]
  refine .cons ?_ ih
  grind
theorem KV.put(r:KV kvs vs)(k:κ)(a:RelV y u):KV (cX kvs k y) (stored vs k u):=by
 unfold cX stored
 rw[r.any k]
 by_cases e:(vs.any λb=>decide (b.1=k))=Γ
 ·rw[Θ e,Θ e];exact r.QS k a
 ·rw[Η e,Η e];exact Paired.snoc r ⟨Κ,a⟩
theorem KV.keys{a:List (κ×Φ)}(r:KV kvs a):kvs.map (·.1)=a.map (·.1):=by
 unfold KV at r
 induction r with
 |nil=>rfl
 |cons h t b=>grind
theorem KV.length{a:List (κ×Φ)}(r:KV kvs a):kvs.length=a.length:=Paired.length r
end
theorem kf(r:RelV (kV k) u):(aN P w).is k u=Γ:=by
 cases k with
 |inl i=>obtain⟨t,e⟩:=(r);subst e;exact qZ P w i t
 |inr x=>obtain⟨t,e⟩:=(r);subst e;exact qY P w x t
theorem nR:∀{ks:List Key}{us:List Φ},τ (ks.map kV) us->ItemsAre (aN P w) ks us
 |[],_,r=>by rw[NA]at r;cases r;exact .nil
 | k:: ks,_,r=>by
  rw[È]at r
  cases r with
  |cons h t=>exact .cons (kf h) (nR t)
abbrev KT(H:Hp):List (List Key×V)->List (List Key×Ο×Φ)->Prop:=Paired λp q=>p.1=q.1/\H q.2.1=Α (.tup (p.1.map kV))/\RelV p.2 q.2.2
theorem KT.val(r:KT H kvs xs)(k:List Key):IU (cC kvs k) ((vr xs k).map (·.2)):=by
 induction r with
 |nil=>exact ϥ
 | @cons p q ps qs h t ih =>
  obtain⟨c,_,d⟩:=h
  by_cases e:p.1=k
  ·have a:=c.symm.trans e
   have b:vr (q:: qs) k=Α q.2:=by simp[vr,ć,a]
   rw[gy e,b];exact d
  ·have a:¬q.1=k:=λz=>e (c.trans z)
   have b:vr (q:: qs) k=vr qs k:=by simp[vr,ć,a]
   rw[gA e,b];exact ih
theorem KT.QS(r:KT H kvs xs)(k:List Key)(b:RelV y u):
  KT H (kvs.map λa=>if a.1=k then (a.1,y) else a) (xs.map (putAt k u)):=by
 induction r with
 |nil=>exact .nil
 | @cons p q ps qs h t ih =>
  rw[È,È]
  refine .cons ?_ ih
  obtain⟨c,d,e⟩:=h
  unfold putAt
  grind
theorem KT.put(r:KT H kvs xs)(k:List Key)(c:H b=Α (.tup (k.map kV)))(a:RelV y u):
  KT H (cX kvs k y) (Yo xs k b u):=by
 have e:(kvs.any λd=>decide (d.1=k))=(vr xs k).isSome:=by
  rw[iU,(r.val k).Ja,ĕ]
 unfold cX Yo
 rw[e]
 by_cases q:(vr xs k).isSome=Γ
 ·rw[Θ q,Θ q];exact r.QS k a
 ·rw[Η q,Η q];exact Paired.snoc r ⟨Κ,c,a⟩
theorem KT.keeps(r:KT H kvs xs)(c:∀b a,H b=Α (.tup a)->H' b=Α (.tup a)):KT H' kvs xs:=
 Paired.QD r λ_ _ z=>⟨z.1,c _ _ z.2.1,z.2.2⟩
section
theorem E3(ok:J0 P w H h)(e:Rd H a u):Ig P w H h a u:=e.ok ok
theorem jw(ok:J0 P w H h)(e:Rd H a (.dK kvs)):kvs.length<=Χ/\(a == æ)=Δ/\∃b,KV kvs b/\h.DictOf (aN P w) a b:=
 show Ig P w H h a (.dK kvs) from E3 ok e
theorem vZ(ok:J0 P w H h)(e:H a=Α (.dK kvs)):kvs.length<=Χ/\(a == æ)=Δ/\∃b,KV kvs b/\h.DictOf (aN P w) a b:=jw ok (.inl e)
theorem jL(ok:J0 P w H h)(e:H a=Α (.tup (ks.map kV))):(İ (aN P w)).is h ks a:=by
 obtain⟨_,b,r,o,c,⟨d,n,f⟩,_⟩:=(ok a _ e)
 exact⟨o,_,n,c,d,f,by simpa using nR r⟩
theorem mw(ok:J0 P w H h)(e:Rd H a (.dT kvs)):kvs.length<=Χ/\(a == æ)=Δ/\
  ∃xs,KT H kvs xs/\h.DictOfH (İ (aN P w)) a xs:=by
 obtain⟨z,y,xs,r,o,c,d,f,g,i,j,n⟩:=(E3 ok e)
 refine⟨z,y,_,r,o,c,d,f,g,i,j,λx b=>?_,n⟩
 have all:∀{l:List (List Key×V)}{m:List (List Key×Ο×Φ)},KT H l m->∀x∈m,(İ (aN P w)).is h x.1 x.2.1:=by
  intro l m q
  induction q with
  |nil=>intro x b;exact nomatch b
  | @cons p q ps qs hq t ih =>
   intro x b
   rcases À.mp b with e|b
   ·subst e
    exact jL ok (by rw[←hq.1];exact hq.2.1)
   ·exact ih x b
 exact all r x b
theorem TL(ok:J0 P w H h)(e:H a=Α (.dT kvs)):kvs.length<=Χ/\(a == æ)=Δ/\
  ∃xs,KT H kvs xs/\h.DictOfH (İ (aN P w)) a xs:=mw ok (.inl e)
end
def II(H:Hp)(a:Ο)(y:V)(r:Option V):Prop:=
 (∃kvs k,Rd H a (.dK kvs)/\y=kV k/\r=cC kvs k)∨∃kvs k b,Rd H a (.dT kvs)/\y=.ref b/\H b=Α (.tup (k.map kV))/\r=cC kvs k
def L8(H:Hp)(a:Ο)(y v:V)(H':Hp):Prop:=
 (∃kvs k,H a=Α (.dK kvs)/\y=kV k/\kvs.length<Χ/\H'=ο H a (.dK (cX kvs k v)))∨
 ∃kvs k b,H a=Α (.dT kvs)/\y=.ref b/\H b=Α (.tup (k.map kV))/\kvs.length<Χ/\H'=ο H a (.dT (cX kvs k v))
theorem II.k{k:Key}(e:H a=Α (.dK kvs)):II H a (kV k) (cC kvs k):=.inl ⟨kvs,k,.inl e,Κ,Κ⟩
theorem L8.k{k:Key}(e:H a=Α (.dK kvs))(b:kvs.length<Χ):L8 H a (kV k) v (ο H a (.dK (cX kvs k v))):=.inl ⟨kvs,k,e,Κ,b,Κ⟩
section
variable {X:Cx}{ν:List (Ο×Obj)}{σ:St}{H:Hp}{s:ύ}{a:Ο}{y v:V}{u r:Φ}{o:Option V}{A:ó}{E:Φ->ύ->Prop}
theorem ς.big(I:ς X ν σ H s):æ<s.heap.objs.size:=by
 have h:=(I.mod.glob.keeps I.bk).lt
 exact YO (by decide) h
theorem xv(x:A.units+1<ĵ)(I:ς X ν σ H s)(g:II H a y (Α v))(q:RelV y u)(h:∀d t,ς X ν σ H t->RelV v d->Q d t):
  Ϣ (ϣ X.prog X.w) A (getItem (.ref a) u) Q E s:=by
 rcases g with ⟨f,k,e,i,l⟩|⟨f,k,b,e,i,B,l⟩
 ·subst i
  obtain⟨z,C,D,c,j⟩:=jw I.HK e
  obtain⟨d,m,n⟩:=IU.some_of (v:=v) (o:=rx D k) (by rw[l];exact c.val k)
  exact wpAny_getItem_of (kf q) j.mapOf m (h d _ (I.tok _) n)
 ·subst i
  cases (q)
  obtain⟨z,C,xs,c,j⟩:=mw I.HK e
  obtain⟨d,m,n⟩:=IU.some_of (v:=v) (o:=(vr xs k).map (·.2)) (by rw[l];exact c.val k)
  obtain⟨p,F,G⟩:=Option.map_eq_some_iff.mp m
  refine wpAny_getItem_heap (å x) (jL I.HK B) j F ?_
  rw[G]
  exact h d _ (I.tok _) n
theorem ZP(p:A.units+1<ĵ)(I:ς X ν σ H s)(g:II H a y o)(m:RelV y u)(h:∀n,ς X ν σ H n->Q (.bool o.isSome) n):
  Ϣ (ϣ X.prog X.w) A (compareOp .In u (.ref a)) Q E s:=by
 rcases g with ⟨d,k,e,f,l⟩|⟨d,k,b,e,f,t,l⟩
 ·subst f
  obtain⟨z,i,x,c,j⟩:=jw I.HK e
  refine wpAny_in_of (kf m) i j.mapOf ?_
  rw[←(c.val k).Ja,←l]
  exact h _ (I.tok _)
 ·subst f
  cases (m)
  obtain⟨z,i,xs,c,j⟩:=mw I.HK e
  refine wpAny_in_heap (å p) (jL I.HK t) i j ?_
  have q:=(c.val k).Ja
  rw[ĕ]at q
  rw[←q,←l]
  exact h _ (I.tok _)
theorem DC(p:A.units+1<ĵ)(I:ς X ν σ H s)(g:II H a y o)(m:RelV y u)(h:∀n,ς X ν σ H n->Q (.bool (!o.isSome)) n):
  Ϣ (ϣ X.prog X.w) A (compareOp .NotIn u (.ref a)) Q E s:=by
 rcases g with ⟨d,k,e,f,l⟩|⟨d,k,b,e,f,t,l⟩
 ·subst f
  obtain⟨z,i,x,c,j⟩:=jw I.HK e
  refine wpAny_notIn_of (kf m) i j.mapOf ?_
  rw[←(c.val k).Ja,←l]
  exact h _ (I.tok _)
 ·subst f
  cases (m)
  obtain⟨z,i,xs,c,j⟩:=mw I.HK e
  refine wpAny_notIn_heap (å p) (jL I.HK t) i j ?_
  have q:=(c.val k).Ja
  rw[ĕ]at q
  rw[←q,←l]
  exact h _ (I.tok _)
theorem kN(I:ς X ν σ H s)(d:SJ (H a))(f:Ŗ a s.heap h')(g:∃q,h'.get? a=Α q)(new:Ig X.prog X.w (ο H a ob) h' a ob):
  ς X ν σ (ο H a ob) {s with heap:=h',toks:=t'}:=
 I.write (x:=a) (e:=a) d (.inl Κ) (λb q h z=>(f.2 b h).trans z) g new
theorem ub(z:kvs.length<=Χ)(c:(a == æ)=Δ)(b:KV kvs vs)(d:h'.DictOf (aN P w) a vs):
  Ig P w H' h' a (.dK kvs):=⟨z,c,vs,b,d⟩
theorem xt(M:A.units+1<ĵ)(I:ς X ν σ H s)(g:L8 H a y v H')(D:RelV y u)(F:RelV v r)(h:∀G,ς X ν σ H' G->Q () G):
  Ϣ (ϣ X.prog X.w) A (setItem (.ref a) u r) Q E s:=by
 rcases g with ⟨d,k,e,m,l,n⟩|⟨d,k,b,e,m,J,l,n⟩
 ·subst m n
  obtain⟨z,p,N,f,t⟩:=vZ I.HK e
  have x:N.length<=Χ:=by rw[←f.length];exact z
  have B:(cX d k v).length<=Χ:=by have:=eO d k v;lia
  refine wpAny_setItem_pairs (hsz:=x) (kf D) t λK i C=>h _ ?_
  have O:∃q,K.get? a=Α q:=let ⟨q,_,_,j,_⟩:=i;⟨q,j⟩
  exact kN I (by rw[e];exact ϥ) C O (ub B p (f.put k F) i)
 ·subst m n
  cases (D)
  obtain⟨z,p,xs,f,t⟩:=TL I.HK e
  have x:xs.length<=Χ:=by rw[←Paired.length f];exact z
  have B:(cX d k v).length<=Χ:=by have:=eO d k v;lia
  refine W3 (hsz:=x) (å M) (jL I.HK J) t λK i C=>h _ ?_
  obtain⟨q,P,R,j,S,T,U,_,Y⟩:=i
  refine kN I (by rw[e];exact ϥ) C ⟨q,j⟩ ⟨B,p,_,(f.put k J F).keeps λc Z L=>?_,q,P,R,j,S,T,U,Y⟩
  rw[aj (bc L e (λz=>nomatch z))]
  exact L
end
section
variable {X:Cx}{ν:List (Ο×Obj)}{σ:St}{H:Hp}{s:ύ}{a:Ο}{kvs:List (Key×V)}{k:Key}{u:Φ}{A:ó}{E:Φ->ύ->Prop}
theorem TN(I:ς X ν σ H s)(e:Rd H a (.dK kvs))(h:∀t c,ς X ν σ H c->Q (.int kvs.length t) c):Ϣ (ϣ X.prog X.w) A (call (.builtin "len") [.ref a]) Q E s:=by
 obtain⟨z,d,g,b,f⟩:=jw I.HK e
 refine call_len_dict d f (by rw[←b.length];rw[ϊ]at z;lia) ?_
 rw[←b.length]
 exact h _ _ (I.tok _)
end
def TQ(i:Expr):Prop:=∀ov iv,JS i Δ ov iv=operate [ov,iv] (getItem ov iv)
theorem BI{T j:String}
  (l:Oc (.type T) "__getitem__"=pure (Α (.builtin j))) (m:TQ slice)
  (h:Ϣ (ϣ prog w) A (eval value env) (λo c=>Ϣ (ϣ prog w) A (eval slice env) (λi a=>a.TypeIs o T/\Ϣ (ϣ prog w) A (getItem o i) Q E a) E c) E s):
  Ϣ (ϣ prog w) A (eval (.Subscript value slice pos) env) Q E s:=by
 refine XJ (ú h (λo c e=>ú e (λi a b=>?_) λ_ _ x=>x) λ_ _ x=>x)
 obtain⟨g,b⟩:=b
 unfold subscriptTail
 refine Μ ?_
 rw[getitemInPython_of_ne g.not_modules]
 refine Μ (Ğ g l ?_)
 have fin:Ϣ (ϣ prog w) A (JS slice Δ o i) (λr d=>Ϣ (ϣ prog w) A (letTemporaryGo value o r >>=λ_=>pure r) Q E d) E a:=by
  rw[m o i]
  exact wpAny_operating (ú b (λr d f=>Μ (wpAny_letTemporaryGo (Ϙ f))) λ_ _ x=>x)
 first
  |exact Ϙ (Μ fin)
  |exact Μ (Ϙ (Μ fin))
  |exact Μ fin
theorem rO{f:St}(I:ς X ν f H s)(g:II H a y o):s.TypeIs (.ref a) "dict":=by
 rcases g with ⟨c,k,e,_,_⟩|⟨c,k,b,e,_,_,_⟩
 ·obtain⟨_,_,h,_,d⟩:=jw I.HK e
  exact d.typeIs
 ·obtain⟨_,_,xs,_,d⟩:=mw I.HK e
  exact d.typeIs
inductive Uar(Q:VK)(x:V)(y:V)(H2:Hp):Prop
 |mk (a v)(_:x=.ref a)(_:II H2 a y (Α v))(_:Q v H2)
def TU(td ty:TE):TE:=λσ H Q=>td σ H λx H1=>ty σ H1 λy H2=>Uar Q x y H2
inductive Uas(Q:VK)(y:V)(x:V)(H2:Hp):Prop
 |mk (a o)(_:x=.ref a)(_:II H2 a y o)(_:Q (.bl o.isSome) H2)
def ZQ(ty td:TE):TE:=λσ H Q=>ty σ H λy H1=>td σ H1 λx H2=>Uas Q y x H2
inductive Uat(Q:VK)(y:V)(x:V)(H2:Hp):Prop
 |mk (a o)(_:x=.ref a)(_:II H2 a y o)(_:Q (.bl (!o.isSome)) H2)
def BF(ty td:TE):TE:=λσ H Q=>ty σ H λy H1=>td σ H1 λx H2=>Uat Q y x H2
inductive Uau(D:mK)(σ:St)(v:V)(x:V)(y:V)(H3:Hp):Prop
 |mk (a H4)(_:x=.ref a)(_:L8 H3 a y v H4)(_:D.nx σ H4)
def TV(td ty tv:TE):TS:=λD σ H=>tv σ H λv H1=>td σ H1 λx H2=>ty σ H2 λy H3=>Uau D σ v x y H3
section
theorem jk(f:X.A.units+1<ĵ)(j:PE X o td)(l:PE X i ty)(m:TQ i):PE X (.Subscript o i pos) (TU td ty):=by
 intro b s c H Q I h
 refine BI PySem.F.slot_dict_getitem.lookup m (aY (j b s c H _ I h) λu n ⟨x,p,q,r,t⟩=>aY (l b n c p _ q t) λG J w=>?_)
 obtain⟨y,z,d,B,a,v,ex,g,C⟩:=w
 subst ex
 obtain rfl:u=Ç a:=r
 exact⟨rO d g,xv f d g B λK L D E=>⟨v,z,D,E,C⟩⟩
theorem zy(d:X.A.units+1<ĵ)(f:PE X i ty)(j:PE X o td):PC X .In i o (ZQ ty td):=by
 intro b s c H Q I h
 refine aY (f b s c H _ I h) λD l ⟨y,m,n,p,q⟩=>aY (j b l c m _ n q) λu E r=>?_
 obtain⟨x,t,v,w,a,z,ex,g,B⟩:=r
 subst ex
 obtain rfl:u=Ç a:=w
 exact ZP d v g p λF C=>⟨.bl z.isSome,t,C,Κ,B⟩
theorem fz(d:X.A.units+1<ĵ)(f:PE X i ty)(j:PE X o td):PC X .NotIn i o (BF ty td):=by
 intro b s c H Q I h
 refine aY (f b s c H _ I h) λC l ⟨y,m,n,p,q⟩=>aY (j b l c m _ n q) λu D r=>?_
 obtain⟨x,t,v,w,a,ov,ex,g,z⟩:=r
 subst ex
 obtain rfl:u=Ç a:=w
 exact DC d v g p λF B=>⟨.bl (!ov.isSome),t,B,Κ,z⟩
theorem kF(d:X.A.units+1<ĵ)(f:PE X o td)(j:PE X i ty)(l:PE X value tv)(m:ż value (Α (.Subscript o i pos')) pos.line X.env=pure Δ):
  PS X (.Assign [.Subscript o i pos'] value pos) (TV td ty tv):=by
 intro b s c H D I h
 refine S5 (aY (l b s c H _ I h) λr n ⟨v,p,q,t,w⟩=>aY (f b n c p _ q w) λu z ⟨x,B,C,E,F⟩=>aY (j b z c B _ C F) λO P G=>?_) m
 obtain⟨y,Q,J,K,a,L,ex,g,M⟩:=G
 subst ex
 obtain rfl:u=Ç a:=E
 exact xt d J g K t λR N=>⟨c,L,N,M⟩
end
theorem rN(h:Ó)(a:æ<h.objs.size):Ig P w H (h.push {cls:=.type "dict",data:=.dict #[]}) h.objs.size (.dK []):=
 ⟨ϡ _,beq_eq_false_iff_ne.mpr (ϗ (ϳ a)),[],.nil,Ó.DictOf.new h⟩
def EU:TE:=λ_ H Q=>∀p,H p=Β->Q (.ref p) (ο H p (.dK []))
section
theorem lD:PE X (.Dict [] [] pos) EU:=λb s c H Q I h =>
 wpAny_Dict_empty ⟨.ref s.heap.objs.size,_,I.laid (a:=s.heap.objs.size) (o:=.dK []) (t':=s.toks) (λ_ _ q=>Ν _ q) (Ξ _) (rN s.heap I.big),Κ,h _ (I.HK.fresh (Ξ _))⟩
end
def sI:List (TE×TE)->St->Hp->(List (V×V)->Hp->Prop)->Prop
 |[],_,H,Q=>Q [] H
 |(tk,tv):: r,σ,H,Q=>tk σ H λx H1=>tv σ H1 λy H2=>sI r σ H2 λps H3=>Q ((x,y):: ps) H3
abbrev VV:List (V×V)->List (Φ×Φ)->Prop:=Paired λp q=>RelV p.1 q.1/\RelV p.2 q.2
def XE(X:Cx)(pos:Pos)(keys:List (Option Expr))(values:List Expr)(OS:List (TE×TE)):Prop:=
 ∀(ν:List (Ο×Obj))(s:ύ)(σ:St)(H:Hp)(Q:List (V×V)->Hp->Prop),ς X ν σ H s->sI OS σ H Q->
  Ϣ (ϣ X.prog X.w) X.A (evalPairs (pairTrees keys values X.env pos)) (λvs s'=>∃ps H',ς X ν σ H' s'/\VV ps vs/\Q ps H') X.xe s
theorem Cp:XE X pos [] [] []:=λa s b H Q I h=>pairTrees_nil_walk ⟨[],H,I,.nil,h⟩
theorem zt(d:PE X k tk)(e:PE X v tv)(f:XE X pos ks vs OS):
  XE X pos (Α k:: ks) (v:: vs) ((tk,tv):: OS):=λa s b H Q I h =>
 pairTrees_cons_walk (aY (d a s b H _ I h) λu g ⟨x,i,j,l,m⟩=>aY (e a g b i _ j m) λC n ⟨y,o,p,q,r⟩ =>
  aY (f a n b o _ p r) λD E t=>by obtain⟨w,z,A,c,B⟩:=t;exact⟨_,z,A,.cons ⟨l,q⟩ c,B⟩)
noncomputable def gZ(kvs more:List (Key×V)):List (Key×V):=more.foldl (λacc kv=>cX acc kv.1 kv.2) kvs
theorem KV.merge:∀{more:List (Key×V)}{c:List (Key×Φ)}{a:List (Key×V)}{b:List (Key×Φ)},KV more c->KV a b->KV (gZ a more) (merged b c):=by
 intro more c a b r
 unfold KV at r
 induction r generalizing a b with
 |nil=>intro q;exact q
 | @cons p q ps qs h t ih =>
  intro d
  have e:KV (cX a p.1 p.2) (stored b q.1 q.2):=by
   have:=d.put p.1 h.2
   rw[←h.1];exact this
  exact ih e
theorem iA:∀(more a:List (Key×V)),(gZ a more).length<=a.length+more.length
 |[],a=>by show a.length<=a.length+0;lia
 | p:: r,a=>by
  have b:=iA r (cX a p.1 p.2)
  have c:=eO a p.1 p.2
  show(gZ (cX a p.1 p.2) r).length<=_
  grind
theorem m5:∀{d:List (Key×V)}{f:List (Φ×Φ)},VV (d.map λg=>(kV g.1,g.2)) f->∃e,Carries (aN P w) f e/\KV d e
 |[],_,r=>by rw[NA]at r;cases r;exact⟨[],ϥ,.nil⟩
 | p:: d,_,r=>by
  rw[È]at r
  cases r with
  | @cons a b as bs h t =>
   obtain⟨e,c,q⟩:=m5 (P:=P) (w:=w) t
   obtain⟨j,i⟩:=b
   exact⟨(p.1,i):: e,⟨kf h.1,Κ,c⟩,.cons ⟨Κ,h.2⟩ q⟩
def TX(OS:List (TE×TE)):TE:=λσ H Q=>∀p,H p=Β->sI OS σ (ο H p (.dK [])) λps H2=>H2 p=Α (.dK [])/\∃kvs:List (Key×V),ps=kvs.map (λkv=>(kV kv.1,kv.2))/\kvs.length<=15/\Q (.ref p) (ο H2 p (.dK (gZ [] kvs)))
theorem Cw(h:XE X pos keys values OS)(m:keys.all (·.isSome)=Γ)(n:keys.length=values.length)(p:keys≠[])
  (f:keys.length<=15):PE X (.Dict keys values pos) (TX OS):=by
 intro b s r H Q I q
 have t:=I.HK.fresh (Ξ s.heap.objs.size)
 have u:=I.laid (a:=s.heap.objs.size) (o:=.dK []) (h':=s.heap.push {cls:=.type "dict",data:=.dict #[]}) (t':=s.toks) (λ_ _ q=>Ν _ q) (Ξ _) (rN s.heap I.big)
 refine wpAny_Dict_walk (knd:=aN X.prog X.w) m n p f (aY (h b _ r _ _ u (q _ t)) λL M v=>?_)
 obtain⟨N,O,j,g,e,d,x,lk,y⟩:=v
 subst x
 obtain⟨A,c,B⟩:=m5 (P:=X.prog) (w:=X.w) g
 obtain⟨z,C,R,D,E⟩:=vZ j.HK e
 cases D
 refine⟨A,c,E,λh' l F=>⟨.ref s.heap.objs.size,_,?_,Κ,y⟩⟩
 have G:(gZ [] d).length<=Χ:=by
  have J:=iA d []
  rw[List.length_nil]at J
  rw[ϊ];lia
 have K:∃q,h'.get? s.heap.objs.size=Α q:=let ⟨q,_,_,hq,_⟩:=l;⟨q,hq⟩
 exact kN j (by rw[e];exact ϥ) F K (ub G C (B.merge .nil) l)
structure M1(X:Cx)(o:Expr)(m:Str)(apos:Pos)(e:Expr)(Ip:Pos):Prop where
 μ:ġ o m X.env (eval o X.env)=eval o X.env
 few:((î Ip (ϟ [e] X.env)).all (λx=>!x.1)&& (ů Ip (ħ [] X.env)).all (λx=>x.1.isSome)
  && decide (([e]:List Expr).length+([]:List k0).length+(if ([]:List k0).isEmpty then 0 else 1)<30))=Γ
 line:(apos.endLine == Ip.line)=Γ
 trees:î Ip (ϟ [e] X.env)=[(Δ,eval e X.env)]
structure M2(X:Cx)(o:Expr)(m:Str)(apos:Pos)(e f:Expr)(Ip:Pos):Prop where
 μ:ġ o m X.env (eval o X.env)=eval o X.env
 few:((î Ip (ϟ [e,f] X.env)).all (λx=>!x.1)&& (ů Ip (ħ [] X.env)).all (λx=>x.1.isSome)
  && decide (([e,f]:List Expr).length+([]:List k0).length+(if ([]:List k0).isEmpty then 0 else 1)<30))=Γ
 line:(apos.endLine == Ip.line)=Γ
 trees:î Ip (ϟ [e,f] X.env)=[(Δ,eval e X.env),(Δ,eval f X.env)]
def ZR(H:Hp)(a:Ο):Prop:=(∃kvs,Rd H a (.dK kvs))∨∃kvs,Rd H a (.dT kvs)
theorem AF{l:St}(I:ς X ν l H s)(d:ZR H a):
  s.TypeIs (.ref a) "dict"/\(∀b,Ç a=.ref b->∃c,s.heap.get? b=Α c/\c.dict=Β)/\(a == æ)=Δ:=by
 rcases d with ⟨g,e⟩|⟨g,e⟩
 ·obtain⟨_,h,m,_,f⟩:=jw I.HK e
  refine⟨f.typeIs,λb q=>?_,h⟩
  cases q
  obtain⟨c,_,_,i,j,_⟩:=f
  exact⟨c,i,j.2.1⟩
 ·obtain⟨_,h,xs,_,f⟩:=mw I.HK e
  refine⟨f.typeIs,λb q=>?_,h⟩
  cases q
  obtain⟨c,_,_,i,j,_⟩:=f
  exact⟨c,i,j.2.1⟩
section
variable {X:Cx}{ν:List (Ο×Obj)}{σ:St}{H:Hp}{s:ύ}{a:Ο}{y d:V}{u r:Φ}{o:Option V}{A:ó}{E:Φ->ύ->Prop}
theorem GS(t:A.units+1<ĵ)(I:ς X ν σ H s)(g:II H a y o)(n:RelV y u)(h:∀p q,ς X ν σ H q->RelV (o.getD .HU) p->Q p q):
  Ϣ (ϣ X.prog X.w) A (call (.builtin "dict.get") [.ref a,u]) Q E s:=by
 rcases g with ⟨i,k,e,j,l⟩|⟨i,k,b,e,j,v,l⟩
 ·subst j
  obtain⟨z,m,x,c,f⟩:=jw I.HK e
  refine r4 slot_dict_get f.typeIs entry_dict_get (PySem.F.args_dict_get_2 _ _) (meets_dict_get (aN X.prog X.w) a (kf n) m) ⟨_,f.mapOf,h _ _ (I.tok _) ?_⟩
  rw[l]
  exact(c.val k).getD Κ
 ·subst j
  cases (n)
  obtain⟨z,m,xs,c,f⟩:=mw I.HK e
  refine r4 slot_dict_get f.typeIs entry_dict_get (PySem.F.args_dict_get_2 _ _) (meetsH_dict_get (İ (aN X.prog X.w)) a b m) ⟨å t,k,xs,jL I.HK v,f,h _ _ (I.tok _) ?_⟩
  rw[l]
  exact(c.val k).getD Κ
end
inductive Uav(ty:TE)(σ:St)(Q:VK)(x:V)(H1:Hp):Prop
 |mk (a)(_:x=.ref a)(_:ZR H1 a)(_:ty σ H1 λy H2=>∃o,II H2 a y o/\Q (o.getD .HU) H2)
def EV(td ty:TE):TE:=λσ H Q=>td σ H λx H1=>Uav ty σ Q x H1
section
theorem zw(j:X.A.units+1<ĵ)(l:PE X o td)(n:PE X e ty)(m:M1 X o "get" apos e Ip):PE X (.Call (.Attribute o "get" apos) [e] [] Ip) (EV td ty):=by
 intro b s c H Q I h
 refine Yh m.μ m.few m.line plainAttrs_dict slot_dict_get PySem.F.type_dict_get (aY (l b s c H _ I h) λu p q=>?_)
 obtain⟨x,r,i,t,a,ex,d,v⟩:=q
 subst ex
 obtain rfl:u=Ç a:=t
 obtain⟨w,z,_⟩:=AF i d
 refine⟨w,z,?_⟩
 rw[m.trees]
 refine ċ Κ (Ō (Ċ (aY (n b p c r _ i v) λK L ⟨y,B,C,D,M,g,E⟩=>ļ ?_)))
 exact GS j C g D λN O G J=>⟨_,B,G,J,E⟩
end
section
end
section
end
section
theorem xA:c5 X (.builtin "len") (λxs H Q=>∃a b,xs=[V.ref a]/\H a=Α (.dK b)/\Q (.int b.length) H):=by
 intro c s g H xs us Q I r h
 obtain⟨a,b,rfl,d,q⟩:=h
 obtain⟨u,rfl,e⟩:=i8 r
 cases e
 exact TN I (.inl d) λt i f=>⟨.int b.length,H,f,⟨t,Κ⟩,q⟩
end
section
variable {κ:Type}[DecidableEq κ]
end
theorem vL(h:(aN P w).is k u=Γ):RelV (kV k) u:=by
 rcases bD (h) with ⟨i,t,rfl,rfl⟩|⟨x,t,rfl,rfl⟩
 ·exact⟨t,Κ⟩
 ·exact⟨t,Κ⟩
def DcO(P:Program)(w:Å)(o:Obj)(kvs:List (Key×V))(ep:Nat):Prop:=∃vs es,KV kvs vs/\o.ExactDict/\o.data=.dict es ep/\KeysOf (aN P w) es/\Pairs (aN P w) es.toList vs/\(vs.map (·.1)).Nodup
noncomputable def Sh(a:Ο)(o:Obj)(kvs:List (Key×V)):It:=
 ⟨λi H=>H a=Α (.Jm o (.dK kvs))/\i<kvs.length,λi H x H'=>H'=H/\∃k,(kvs.map (·.1))[i]?=Α k/\x=kV k,λi H=>H a=Α (.Jm o (.dK kvs))/\i=kvs.length⟩
theorem ς.PZ{b:St}(I:ς X ν b H s)(c:H a=Α (.Jm o u)):s.heap.get? a=Α o:=(I.HK a _ c).1
theorem wA{K:ϧ}(a it:Ο)(o:Obj)(l:List (Key×V))(p:Nat)(T:DcO P w o l p):mY P w K tg (Sh a o l) [it] it (λi h=>h.IsKeyIter it a i l.length p) where
 mem:=by simp
 obj:=λi h st b m=>by
  have e:b=it:=by grind
  subst e
  obtain⟨q,e,c,d⟩:=st
  grind
 keep:=λi h r st k=>by
  obtain⟨q,e,c,d⟩:=st
  exact⟨q,k it (by simp) q e,c,d⟩
 item:=by
  intro X u x y U i g s Y H E I t st z
  subst u x y
  obtain⟨A,hi⟩:=z
  obtain⟨j,B,f,C,D,F,G,J⟩:=T
  obtain⟨L,M,f2,N,O,Q⟩:=t it (by simp)
  have Z:=f.length
  have hv:j[i]?=Α (j[i]'(by lia)):=Λ (by lia)
  have st:s.heap.IsKeyIter it a i j.length p:=by grind
  refine wpAny_pyNext_dict_item (knd:=aN X.prog X.w) (k:=(j[i]'(by lia)).1) (v:=(j[i]'(by lia)).2) st ⟨o,B,I.PZ A,C,D,F,G,J⟩ hv λR r hk S sb=>?_
  rw[←Z]at S
  have I1:=I.turned (t':=s.toks) (λb o m e=>(sb.2 b m).trans e) L M N O Q
  obtain⟨q,e,c,d⟩:=id S
  exact⟨R,Κ,vU (s:={s with heap:=r}) e c d (by decide) ⟨_,H,I1,vL hk,⟨Κ,_,by rw[f.keys,ώ,hv];rfl,Κ⟩,S,λb m=>(t b m).1⟩⟩
 done:=by
  intro X u x y U i g s Y H E I t st z
  subst u x y
  obtain⟨A,rfl⟩:=z
  obtain⟨j,B,f,C,D,F,G,J⟩:=T
  obtain⟨L,M,f2,N,O,Q⟩:=t it (by simp)
  have Z:=f.length
  have st:s.heap.IsKeyIter it a j.length j.length p:=by grind
  exact wpAny_pyNext_dict_end (knd:=aN X.prog X.w) (I.ok.hd U) st ⟨o,B,I.PZ A,C,D,F,G,J⟩ (Ë (Ξ _)) λr eb=>⟨Κ,I.turned (t':=s.toks) (λb o m e=>eb b o m e) L M N O Q⟩
 self:=λ_ _ _ _ _ st h=>wpAny_pyIter_keyiter st h
theorem uF:∀{xs:List V}{us:List Φ},xs.length=us.length->(∀(i:Nat)(x:V)(u:Φ),xs[i]?=Α x->us[i]?=Α u->RelV x u)->τ xs us:=by
 intro xs;induction xs with
 |nil=>intro us a h;cases us with|nil=>exact .nil|cons=>cases a
 |cons x xs b=>intro us a h;cases us with|nil=>cases a|cons u us=>exact .cons (h 0 x u rfl rfl) (b (by simpa using a) λi x u c d=>h (i+1) x u c d)
section
inductive Uaw(R:It->Hp->Prop)(x:V)(H1:Hp):Prop
 |mk (a kvs)(_:x=.ref a)(_:H1 a=Α (.dK kvs))(_:∀o,R (Sh a o kvs) (ο H1 a (.Jm o (.dK kvs))))
def TY(tl:TE):TI:=λσ H R=>tl σ H λx H1=>Uaw R x H1
theorem kG(G:PE X l tl):PI X tg l (TY tl):=by
 intro c s A H R I h
 refine aY (G c s A H _ I h) λv d J=>?_
 obtain⟨x,K,B,L,M⟩:=J
 obtain⟨a,g,e,C,q⟩:=M
 subst e
 cases L
 obtain⟨z,D,E,f,o,j,F,i,m,n,p,r,t⟩:=vZ B.HK C
 have y:ς X c A (ο K a (.Jm o (.dK g))) d:=B.write (x:=a) (e:=a) (h':=d.heap) (t':=d.toks) (by rw[C];trivial) (.inl Κ) (λb u _ q=>q) ⟨_,i⟩ ⟨i,z,D,E,f,o,j,F,i,m,n,p,r,t⟩
 refine wpAny_pyIter_dict (knd:=aN X.prog X.w) D ⟨o,j,i,m,n,p,r,t⟩ ?_
 refine⟨_,_,_,_,_,Κ,y.kept (t':=d.toks) λb o e=>Ν _ e,wA a _ o g F ⟨E,j,f,m,n,p,r,t⟩,⟨_,ό _ Κ,Κ,by rw[f.length];rfl⟩,λb N=>?_,q o⟩
 have e:b=d.heap.objs.size:=by simpa using N
 subst e
 exact y.Lz (Ξ _) (y.HK.fresh (Ξ _))
theorem rG{g:TG}{l:TS}{D:mK}(c:Nat->St->Hp->Prop)(s:c 0 b H)(t:∀i b H,i<=kvs.length->c i b H->H a=Α (.Jm o (.dK kvs)))
  (u:∀i k b H,(kvs.map (·.1))[i]?=Α k->c i b H->g (kV k) b H λd j=>l {D with nx:=c (i+1),ct:=c (i+1),bk:=D.nx} d j) (w:∀b H,c kvs.length b H->D.nx b H):
  ∃W:Nat->Nat->St->Hp->Prop,(∃m,W 0 m b H)/\∀i m b H,W i m b H->
   ((Sh a o kvs).stop i H/\D.nx b H)∨((Sh a o kvs).go i H/\∃N:St->Hp->Prop,(∀f h,N f h->∃n,n<m/\W (i+1) n f h)/\∀x h,(Sh a o kvs).Ni i H x h->g x b h λd j=>l {D with nx:=N,ct:=N,bk:=D.nx} d j):=by
 refine⟨λi m b H=>m=kvs.length - i/\i<=kvs.length/\c i b H,⟨kvs.length,by simp,ϡ _,s⟩,?_⟩
 rintro i m b H ⟨rfl,z,p⟩
 have q:=t i b H z p
 by_cases r:i<kvs.length
 ·refine .inr ⟨⟨q,r⟩,c (i+1),λf h A=>⟨kvs.length - (i+1),by lia,Κ,r,A⟩,λx h y=>?_⟩
  obtain⟨e,k,B,ex⟩:=y
  subst e ex
  exact u i k b _ B p
 ·have e:i=kvs.length:=by lia
  subst e
  exact .inl ⟨⟨q,Κ⟩,w b H p⟩
theorem m7(A:X.calm=Γ):c5 X (.type "list") (λxs H Q=>∃a kvs,xs=[.ref a]/\Rd H a (.dK kvs)/\∀l,H l=Β->Q (.ref l) (ο H l (.π (kvs.map λp=>kV p.1)))):=by
 intro t s Z H xs us Q I r h
 obtain⟨a,kvs,rfl,B,q⟩:=h
 obtain⟨u,rfl,C⟩:=r.one
 cases C
 obtain⟨z,D,v,e,o,E,ep,F,G,J,K,L,M⟩:=jw I.HK B
 have N:s.heap.DictAt (aN X.prog X.w) a v ep:=⟨o,E,F,G,J,K,L,M⟩
 refine PySem.W.kdl_call (PySem.W.kdl_dict (knd:=aN X.prog X.w) (kvs:=v) (ep:=ep) D) (I.ok.hd A) N (by rw[←e.length];exact z) λh' O acc c keep P it=>?_
 have R:τ (kvs.map λp=>kV p.1) acc.toList:=by
  refine uF (by rw[Ρ,e.length];exact it.1.symm) λi x u g S=>?_
  obtain⟨k,y,T,n⟩:=it.2 i u (by simpa using S)
  have f:(kvs.map (·.1))[i]?=Α k:=by rw[e.keys,ώ,T];rfl
  have U:x=kV k:=by
   rw[ώ]at g f
   cases j:kvs[i]? with
   |none=>rw[j]at f;cases f
   | some p =>
    rw[j]at g f
    have f:p.1=k:=ϋ f
    have g:kV p.1=x:=ϋ g
    rw[←g,f]
  rw[U]
  exact vL n
 refine⟨.ref _,_,I.laid (a:=s.heap.objs.size) (o:=.π (kvs.map λp=>kV p.1)) (t':=O) (λb q Y=>keep b q Y) (Ξ _) ⟨by rw[Ρ];exact z,acc.toList,c,R,by simpa using P⟩,Κ,q _ (I.HK.fresh (Ξ _))⟩
end
section
end
end _L2
open PySem
namespace _L2
structure Ca(P:Program)(w:Å)(K:ϧ)(mg:Str->Option Φ)(μ:Ó)(n:Str)(k:Nat)(ps:List Str)(sp:Sp):Prop where
 h:∃f d,mg n=Α (.ref f)/\Ę K (.ref f)=Γ/\Binds K d ps []/\HB P w K mg μ aK k f d ps sp
structure Me(P:Program)(w:Å)(K:ϧ)(mg:Str->Option Φ)(μ:Ó)(C:Ο)(n:Str)(k:Nat)(ps:List Str)(sp:Sp):Prop where
 h:∃f d,By K C n f/\Binds K d ps []/\HB P w K mg μ aK k f d ps sp
section
theorem bF(F:Ca X.prog X.w X.K X.mg X.μ x k ps sp)(i:Il j X.A)(l:PA X (e:: es) t)(h:autoParam (k<=j) θ)(n:autoParam (Gl X x) η)
  (q:autoParam ((x == ("__debug__":Str))=Δ) θ) (r:autoParam (ϟ (e:: es) X.env=(Δ,eval e X.env):: ϟ es X.env) η) (g:autoParam ((î pos (ϟ es X.env)).any (·.1)=Δ) η):
  PE X (.Call (.Name x p) (e:: es) [] pos) (Eo sp [] E0 t):=by
 obtain⟨f,d,a,b,c,G⟩:=F.h
 exact iq G (i.mono h) n a b c .nil cU l q r g
theorem cE(l:PE X o ta)(c:Km X.K C)(F:Me X.prog X.w X.K X.mg X.μ C m k ps sp)(n:Il j X.A)(q:PA X (e:: es) t)(h:autoParam (k<=j) θ)
  (r:autoParam (ϟ (e:: es) X.env=(Δ,eval e X.env):: ϟ es X.env) η) (g:autoParam ((î pos (ϟ es X.env)).any (·.1)=Δ) η)
  (s:eval (.Call (.Attribute o m apos) (e:: es) [] pos) X.env=(do
   let i ← eval o X.env
   kz apos.atName
   let (f,first) ← ŵ [i] (getMethod i m pl)
   callWith pos f first (î pos (ϟ (e:: es) X.env)) (ů pos (ħ [] X.env))):=by rfl):
  PE X (.Call (.Attribute o m apos) (e:: es) [] pos) (uG C m sp [] E0 ta t):=by
 obtain⟨f,d,a,b,G⟩:=F.h
 exact Cu l c a G (n.mono h) b .nil cU q r g s
theorem ji(i:PE X o ta)(c:Km X.K C)(F:Me X.prog X.w X.K X.mg X.μ C m k ps sp)(l:Il j X.A)(h:autoParam (k<=j) θ)
  (n:eval (.Call (.Attribute o m apos) [] [] pos) X.env=(do
   let g ← eval o X.env
   kz apos.atName
   let (f,first) ← ŵ [g] (getMethod g m pl)
   callWith pos f first (î pos (ϟ [] X.env)) (ů pos (ħ [] X.env))):=by rfl):
  PE X (.Call (.Attribute o m apos) [] [] pos) (uG C m sp [] E0 ta BD):=by
 obtain⟨f,d,a,b,G⟩:=F.h
 exact zu i c a G (l.mono h) b .nil cU n
end
theorem bM(kind:autoParam (sc.kind=.function) η)(b:autoParam (sc.isCoroutine=Δ) η)(gen:autoParam (sc.isGenerator=Δ) η)(c:autoParam (N.Nodup) ξ)(pre:autoParam (N.take P.length=P) η)
  (a:autoParam (∀x∈P,sc.names.lookup x=Α .local∨sc.names.lookup x=Α .cell) ξ) (d:autoParam (∀y∈sc.names,y.2≠.free) ξ):aq N P sc:=⟨kind,b,gen,c,pre,a,d⟩
theorem cf(e:H a=Α o)(n:H b=Β)(u:HO):ο H b u a=Α o:=by rw[aj (ai e n)];exact e
theorem aI(n:a≠b)(e:H a=o)(u:HO):ο H b u a=o:=by rw[aj n];exact e
theorem aX(H:Hp)(b:Ο)(o:HO):ο H b o b=Α o:=ae
theorem Hz.put(h:Hz H H')(n:H a=Β):Hz H (ο H' a o):=λb u e=>by rw[aj (ai e n)];exact h _ _ e
section
variable {X:Cx}{x:Str}{op:CmpOp}{r:R2}{p pos pos':Pos}{a b e:Expr}{ta tb te:TE}{f:Str}
theorem bG(i:Nat)(c:X.N.Nodup)(d:PE X e te)(g:X.N[i]?=Α x:=by exact Κ)(h:Hr X.env.scope x:=by exact kS Κ)(j:autoParam (ż e (Α (.Name x pos')) pos.line X.env=pure Δ) η)
  (l:autoParam (X.fn x=Γ∨X.env.scope.names.lookup x=Α .local) ζ):PS X (.Assign [.Name x pos'] e pos) (BG te (cr i)):=fR c g h d j l
theorem b9(i:Nat)(c:X.N.Nodup)(d:X.N[i]?=Α x:=by exact Κ)(g:Hr X.env.scope x:=by exact kS Κ)
  (h:autoParam (X.fn x=Γ∨X.env.scope.names.lookup x=Α .local) ζ):PG X (.Name x pos) (cr i):=jj c d g h
theorem be(c:JQ X r)(d:PE X a ta)(g:PE X b tb)(h:wx b:=by exact λ_ _=>rfl):PE X (.Subscript a b pos) (ER r ta tb):=Tu c d g h
theorem bJ(c:eB X (compareOp op) r)(d:PE X a ta)(g:PE X b tb)(h:Ġ op b=Δ:=by first|exact tL _|with_unfolding_all rfl):PT X (.Compare a [op] [b] pos) (El (ER r ta tb)):=Co c d g h
theorem vn(c:eB X (compareOp op) r)(d:PE X a ta)(g:PE X b tb)(h:Ġ op b=Δ:=by first|exact tL _|with_unfolding_all rfl):PE X (.Compare a [op] [b] pos) (ER r ta tb):=vv c d g h
theorem aR(c:PE X e ta)(d:ġ e f X.env (eval e X.env)=eval e X.env:=by exact Κ):PE X (.Attribute e f pos) (oK X.K ta f):=FB c d
theorem gq(h:X.mg "len"=Β)(i:PE X e te)(j:Gl X "len":=by exact Κ)(he:autoParam (ϟ [e] X.env=(Δ,eval e X.env):: ϟ [] X.env) η)(hpl:autoParam ((î pos (ϟ [] X.env)).any (·.1)=Δ) η):
  PE X (.Call (.Name "len" p) [e] [] pos) (Zt (λxs H Q=>∃p g,xs=[.ref p]/\(HC X.K H p g∨HF X.K H p g)/\Q (.int g.length) H) (Em te BD)):=
 aH dg j h PySem.boot_len (aa i ad he) (he:=he) (hpl:=hpl)
theorem eI(c:PI X tg iter wi)(d:PG X tg g)(h:LN X body t)(i:PassesOwn (ϣ X.prog X.w) X.A X.env X.xe:=by exact ñ)(j:X.calm=Γ:=by exact Κ)
  (l:autoParam (∀x,Ŷ iter X.env x=pure x) ψ):PS X (.For tg iter body [] pos) (Td wi g t):=F7 i j c d h l
end
open PySem.Spec PyProof.Rows
structure MS(K:ϧ)(x qual:Str)(st:ϩ)(f:Ο)(fd:Đ):Prop where
 ex:∃(oc:Φ)(od:Option Ο)(dV kV doc pm:Φ)(an:Option Ο)(cdv ct:Φ)(M4:Array (Option Φ)),
  fd=oo x qual (bX st) (aB st) (ag st) dV kV doc pm an cdv ct/\K.lookup f=Α ⟨oc,od,.func fd,M4⟩/\ot K cdv qual=Γ
 kp:Ę K (.ref f)=Γ
section
variable {P:Program}{w:Å}{K:ϧ}{mg:Str->Option Φ}{μ:Ó}
theorem MS.ok{st:ϩ}(F:MS K x qual st f fd)(S:aq N ps (ag st))
  (d:∀(b:Φ)(A:ó)(a:List Env)(s:ύ)(H:Hp)(c:List V)(Q:VK)(E:XK),Il k (A.deeper (hW qual (ag st) s.heap.objs.size f b))->sp c H Q E->
   ∃t,LN (ud aK P w K mg μ N qual (ag st) f b A a s H E).Sb (aB st) t/\t {nx:=λ_ e=>Q .HU e,rt:=Q} (start N c) H)(len:∀c H Q E,sp c H Q E->c.length=ps.length:=by intro _ _ _ _ h;repeat first|(subst_vars;rfl)|obtain⟨_,h⟩:=h):HB P w K mg μ aK (k+1) f fd ps sp:=by
 obtain⟨m,n,dV,kV,g,o,an,b,p,r,rfl,lk,i⟩:=F.ex
 refine ED lk i S len λA a s H c Q E j l=>?_
 obtain⟨t,h,q⟩:=d b A a s H c Q E j l
 exact⟨t,h.Sb,q⟩
end
theorem rD:∀{a:List Int}{us:List Φ},τ (a.map V.int) us->b6 us a
 |[],_,.nil =>.nil
 | n:: a,_,.cons r t=>by
  obtain⟨b,e⟩:=(r)
  subst e
  exact .cons n b (rD t)
theorem rW(e:X.calm=Γ):c5 X (.builtin "sum") (λxs H Q=>∃(p:Ο)(a:List Int),xs=[.ref p]/\HC X.K H p (a.map V.int)/\Q (.int a.sum) H):=by
 intro b s v H xs us Q I r h
 obtain⟨p,a,rfl,f,q⟩:=h
 obtain⟨u,rfl,g⟩:=i8 r
 cases g
 obtain⟨i,j,l,w⟩:=I.list f
 have c:=rD j
 obtain⟨xs,d⟩:=c.allInts.items
 have m:=d▸l.isList
 refine sum_intListG (I.ok.hd e) m λx y z n=>?_
 have o:a=xs.toList.map (·.1):=by
  rw[←nums_intItems,←d]
  exact(c.numsOf).symm
 have t:preSum (numAt xs) xs.size=a.sum:=by
  rw[preSum_eq,Ħ (by simp),o]
 rw[t]
 exact⟨.int a.sum,H,I.kept n,⟨_,Κ⟩,q⟩
inductive Ci(K:ϧ)(x:V)(y:V)(H:Hp)(Q:VK):Prop
 |mk (p:Ο)(vs:List V)(d:û)(ds:List û)(_:y=.ref p)(_:kx K H x d)(_:HC K H p vs)(_:ku K H vs ds)(_:JE d 8)(_:(∀z∈ds,JE z 8))(_:Q (.bl (!(ds.any λy=>į y d))) H)
theorem nA(n:X.A.units+64<ĵ):eB X (compareOp .NotIn) (Ci X.K):=by
 intro a s o H x y v u Q I c e h
 obtain⟨p,r,d,t,rfl,f,g,i,b,j,q⟩:=h
 obtain⟨as,l⟩:=I.den (.π g i) e
 obtain⟨bs,m⟩:=I.den f c
 refine SeqAt.notIn_list_reads l m (oT j).1 b.1 ?_ ⟨.bl _,H,I,Κ,q⟩
 have:=b.2
 grind
inductive TZ(K:ϧ)(x:V)(y:V)(H:Hp)(Q:VK):Prop
 |mk (a b xs ys)(_:x=.ref a)(_:y=.ref b)(_:HF K H a xs)(_:HF K H b ys)(_:ys≠[])(_:xs.length+ys.length<=Χ)(_:(xs=[]->Q (.ref b) H)/\(xs≠[]->∀p,H p=Β->Q (.ref p) (ο H p (.tup (xs++ys)))))
theorem C2:eB X (binaryOp .Add) (TZ X.K):=by
 intro c s w H x y v u Q I g i h
 obtain⟨a,b,xs,A,rfl,rfl,j,l,B,C,D,E⟩:=h
 by_cases e:xs=[]
 ·cases g
  cases i
  obtain⟨m,F,G,_⟩:=I.tuple j
  obtain⟨J,U,L,_⟩:=I.tuple l
  have M:=F.Kg.mpr e
  obtain⟨⟨N,O,data,P⟩,o,p,n,q⟩:=id G
  obtain⟨⟨Y,R,f,S⟩,r,t,T,d⟩:=id L
  simp only at p q t d
  subst p q t d
  exact S8 ⟨_,o,Κ⟩ ⟨_,r,Κ⟩ IK PM slot_tuple_add entry_tuple_add (args_tuple_add_2 _ _)
   (tuple_addW0 a b m.toArray J.toArray n T O R P S (by simp[M])) ⟨o,r,⟨.ref b,H,I,Κ,D e⟩⟩
 ·exact C0 c s w H _ _ v u Q I g i ⟨a,b,xs,A,Κ,Κ,j,l,e,C,λz=>Ι z B,λ_=>E e⟩
section
end
section
variable {X:Cx}{ν:List (Ο×Obj)}{σ:St}{H:Hp}{s:ύ}{a:Ο}{o:Obj}{u:HO}
theorem ς.ZT(I:ς X ν σ H s)(y:H a=Α (.Jm o u))(A:∀g h,X.H₀ a≠Α (.Jm g h)):ς X ν σ (ο H a u) s:=by
 have no:∀b,H b=Β->b≠a:=λb e z=>by grind
 have j:∀b x,H b=Α x->(∀g h,x≠.Jm g h)->b≠a:=λb x e n z=>by grind
 refine⟨I.ok,I.os,I.bare,⟨I.μ.keep,I.μ.slot,λb B q n C=>?_,I.μ.there,λb xs q=>?_,λb g h q=>?_,λb D q=>?_⟩,I.loc,I.cell,?_,λx c l=>?_,λp E=>?_,λb x q=>?_,I.len⟩
 ·have z:=I.μ.free b B q n C
  rw[aj (no b z)];exact z
 ·have z:=I.μ.K4 b xs q
  rw[aj (j b _ z (λ_ _ w=>by cases w))];exact z
 ·have z:=I.μ.Kk b g h q
  rw[aj (λw=>A g h (by grind))];exact z
 ·obtain⟨m,z⟩:=I.μ.KS b D q
  exact⟨m,by rw[aj (j b _ z (λ_ _ w=>by cases w))];exact z⟩
 ·rw[aj (no _ I.free)];exact I.free
 ·rw[aj (no _ (I.IC x c l))];exact I.IC x c l
 ·obtain⟨F,r,G⟩:=I.pin p E
  exact⟨F,by rw[aj (no _ r)];exact r,G⟩
 ·have i:∀d c,H d=Α (.own c)->(ο H a u) d=Α (.own c):=λd c z=>by rw[aj (j d _ z (λ_ _ w=>by cases w))];exact z
  have tup:∀d f,H d=Α (.tup f)->(ο H a u) d=Α (.tup f):=λd f z=>by rw[aj (j d _ z (λ_ _ w=>by cases w))];exact z
  by_cases t:b=a
  ·subst t
   rw[ae]at q
   cases q
   exact(I.HK b _ y).2.IZ (λd v _ z=>z) (λd z=>i d b z) λd f z=>tup d f z
  ·rw[aj t]at q
   exact(I.HK b _ q).IZ (λd v _ z=>z) (λd z=>i d b z) λd f z=>tup d f z
end
def Thw(H₀ H:Hp)(G:Hp->Prop):Prop:=∃a o u,H a=Α (.Jm o u)/\(∀o' u',H₀ a≠Α (.Jm o' u'))/\G (ο H a u)
section
theorem vo(h:PE X e t):PE X e (λc H Q=>t c H λv d=>Thw X.H₀ d (Q v)):=λb s c H Q I q =>
 aY (h b s c H _ I q) λu l f=>by obtain⟨v,d,g,r,a,o,x,i,j,k⟩:=f;exact⟨v,_,g.ZT i j,r,k⟩
end
section
end
section
end
section
end
theorem vD:Oc (.type "list_reverseiterator") "__len__"=pure Β:=by rw[typeLookup_type,TR];kernel_rfl
theorem rj:Oc (.type "list_reverseiterator") "__length_hint__"=pure (Α (.builtin "list_reverseiterator.__length_hint__")):=by rw[typeLookup_type,TR];kernel_rfl
section
variable {prog:Program}{w:Å}{A:ó}{E:Φ->ύ->Prop}{s:ύ}{I:Ο}{fp wr:List Ο}{G:Array VG->Array VG->Prop}{n:Nat}{P:Nat->Φ->Prop}{St:Nat->ύ->Prop}
theorem rT(W:XB prog w A.in1 I fp wr G n P St)(e:∀i s,St i s->s.TypeIs (.ref I) "list_reverseiterator")(st:St 0 s)(a:∀b∈fp,b<s.heap.objs.size)(l:I∈fp)
  (k:∀c acc,PySem.Moved wr G s c->s.heap.objs.size<c.heap.objs.size->xi P acc n->Q acc.toList c) (few:n<=Χ):Ϣ (ϣ prog w) A (collect (.ref I)) Q E s:=by
 have g:=λz=>ı _ (a _ z)
 have m:s.heap.objs.size≠I:=λz=>g (z▸l)
 unfold collect
 refine Μ (wpAny_runValue (en F.entry_proto_collect ?_))
 rw[ź F.plain_proto_collect]
 refine Μ (ā (Ϙ ⟨nF Wo _,en F.entry_list_iadd ?_⟩))
 rw[ź Wo]
 have d:=W.frame 0 s (s.heap.push {cls:=.type "list",data:=.seq ([]:List Φ).toArray}) s.toks st (Ξ _) λb _ o z=>Ν _ z
 have p:(s.heap.push {cls:=.type "list",data:=.seq ([]:List Φ).toArray}).get? s.heap.objs.size=Α {cls:=.type "list",data:=.seq ([]:List Φ).toArray}:=ό _ Κ
 have no:ĝ (.ref s.heap.objs.size) (.ref I)=Δ:=by simp[ĝ,m]
 show Ϣ _ A.in1 (Ć (.ref s.heap.objs.size) (.ref I) (.ref s.heap.objs.size)) _ _ _
 unfold Ć
 refine Μ (Sy (e 0 _ d) ?_)
 rw[Η (by simp[no])]
 refine Μ (W.self 0 _ _ _ d (Μ (Ŕ ?_)))
 unfold e8
 refine Μ (Ğ (e 0 _ d) vD ?_)
 refine Μ (Ğ (e 0 _ d) rj ?_)
 generalize f:("list_reverseiterator.__length_hint__":String)=h
 (fail_if_success (clear f h))
 wp_delta
 rw[show splitId h=Α ("list_reverseiterator","__length_hint__") from by subst f;decide +kernel]
 subst f
 refine Μ (Ia (b:=Γ) (e 0 _ d) (by rw[isSubtype_type];kernel_rfl) (Ϙ ?_))
 rw[Η (by decide)]
 refine Ϙ ⟨nF Uc _,Ve W few _ g _ n 0 _ _ _ Κ (ϡ _) d p (xi.nil P) λc q u r j t=>?_⟩
 refine Μ (wpAny_load j (Ϙ (k c q (PySem.Moved.drop_new (o:={cls:=.type "list",data:=.seq ([]:List Φ).toArray}) (tk:=s.toks) r (Ξ _)) (lt_size j) t)))
theorem m6(W:XB prog w A.in1.in1.in1 I fp wr G n P St)(f:∀i s,St i s->s.TypeIs (.ref I) "list_reverseiterator")(st:St 0 s)(d:∀b∈fp,b<s.heap.objs.size)(h:I∈fp)
  (k:∀e acc,PySem.Moved wr G s e->s.heap.objs.size<e.heap.objs.size->xi P acc n->Q (.ref e.heap.objs.size) {e with heap:=e.heap.push {cls:=.type "tuple",data:=.seq acc}}) (few:n<=Χ):Ϣ (ϣ prog w) A (call (.type "tuple") [.ref I]) Q E s:=by
 refine callType_codes (Q₁:=λc a=>a.TypeIs c "tuple"/\Q c a) MA (F.typeCall_tuple_1 _) F.entry_object_init ?_ λc a z=>⟨z.1,SA c _,object_init_meets MA.init.lookup MA.made (by decide) prog w A.in1 _ a ⟨z.1,Κ,z.2⟩⟩
 refine codeAny_of_tree ?_
 refine Μ (U9 (F.newCall_tuple_1 _) (Ϙ ⟨nF Wk _,en F.entry_tuple_new ?_⟩))
 rw[ź Wk]
 have m:=sub_tuple_self
 have o:=init_tuple_lookup
 have p:=madeHere_tuple
 have j:=f 0 s st
 wp_walk using Sy j,rT (few:=few) W f st d h
 intro e acc l gr it
 show Ϣ _ _ (gV acc.toList.toArray >>=λv=>ret v) _ _ _
 unfold gV
 rw[ON]
 exact Μ (ā (Ϙ ⟨⟨_,ό _ Κ,Κ⟩,k e acc l gr it⟩) (show acc.size<=Χ by rw[it.1];exact few))
end
theorem kW:∀{xs:List V}{us:List Φ},xs.length=us.length->(∀(i:Nat)(x:V)(u:Φ),xs[i]?=Α x->us[i]?=Α u->RelV x u)->τ xs us
 |[],[],_,_ =>.nil
 |x:: xs,u:: us,hl,h =>.cons (h 0 x u Κ Κ) (kW (by simpa using hl) λi x u a b=>h (i+1) x u a b)
section
inductive Uax(K:ϧ)(Q:VK)(vs:List V)(H1:Hp):Prop
 |mk (l xs)(_:vs=[.ref l])(_:HC K H1 l xs)(_:∀t,H1 t=Β->Q (.ref t) (ο H1 t (.tup xs.reverse)))
def BB(K:ϧ)(ta:TA):TE:=λσ H Q=>ta σ H λvs H1=>Uax K Q vs H1
theorem wL(J:X.calm=Γ)(L:Gl X "tuple")(M:X.mg "tuple"=Β)(N:Gl X "reversed")(O:X.mg "reversed"=Β)(P:PA X [a] ta)(R:autoParam (ϟ [a] X.env=[(Δ,eval a X.env)]) η)
  (B:autoParam (ϟ [.Call (.Name "reversed" p2) [a] [] KY] X.env=[(Δ,eval (.Call (.Name "reversed" p2) [a] [] KY) X.env)]) η):PE X (.Call (.Name "tuple" p1) [.Call (.Name "reversed" p2) [a] [] KY] [] QV) (BB X.K ta):=by
 intro f s S H Q I h
 refine Ks (dj I L M PySem.Pv.boot_tuple (ϭ ?_ B Κ))
 rw[B]
 refine Ċ ?_
 refine Ks (dj I N O (show Ă "reversed"=Α (.type "reversed") by decide +kernel) (ϭ (aY (P KY f s S H _ I h) λus c T=>?_) R Κ))
 obtain⟨vs,H1,m,U,Y⟩:=T
 obtain⟨l,xs,e,Z,q⟩:=Y
 subst e
 cases U with
 | cons r rr =>
  cases rr
  cases r
  obtain⟨g,C,t,D⟩:=m.list Z
  have v:g.toArray.size=xs.length:=by rw[ô];exact C.length.symm
  refine X8 t.isList (ļ ?_)
  have E:l<c.heap.objs.size:=by obtain⟨o,ho,_⟩:=t.isList;exact lt_size ho
  have Ij:=ϳ E
  have W:=(Walks.listRev (prog:=X.prog) (w:=X.w) (A:=X.A.in1.in1.in1) (m.ok.hd J) c.heap.objs.size l Ij g.toArray).toS
  refine m6 (s:={c with heap:=c.heap.push (Oh l ((g.toArray.size:Int) - 1))}) W (λi s z=>z.2.1.typeIs) ⟨ϡ _,⟨_,ό _ Κ,Κ,by simp[Oh]⟩,t.isList.at λo e=>Ν _ e⟩ (λb hb=>?_) (by simp) (λs' acc n gr it=>?_) (by rw[v];exact D)
  ·have LW:b=c.heap.objs.size∨b=l:=by simpa using hb
   rw[size_push]
   rcases LW with rfl|rfl
   ·exact ê _
   ·exact Ř E
  ·obtain⟨h',g',d',Ub,QG⟩:=s'
   have e1:=n.gens
   have p:=n.drawn
   have e3:=n.os
   subst e1 p e3
   have keep:=λb o e=>n.heap b o (by simp only[ϙ];exact ϳ (lt_size e)) (Ν _ e)
   have hv:τ xs.reverse acc.toList:=by
    refine kW (by rw[Ò,←v];exact it.1.symm) λi x u y hu=>?_
    have hi:i<xs.length:=by have:=(gQ0 y);rw[Ò]at this;exact this
    have G:=it.2 i u (by simpa using hu)
    rw[v]at G
    rw[õ hi]at y
    have Ud:g[xs.length - 1 - i]?=Α u:=by simpa using G
    obtain⟨u2,p,r2⟩:=C.get y
    rw[Ud]at p
    cases p
    exact r2
   have j:c.heap.objs.size<=h'.objs.size:=by
    have z:=gr
    rw[size_push]at z
    exact zz (Nat.lt_of_succ_lt z)
   refine⟨.ref h'.objs.size,_,m.laid (a:=h'.objs.size) (o:=.tup xs.reverse) (t':=Ub) (h':=h'.push {cls:=.type "tuple",data:=.seq acc}) (λb u e=>Ν _ (keep b u e)) j ⟨by rw[Ò];exact D,acc.toList,hv,?_⟩,Κ,q _ (m.HK.fresh j)⟩
   rw[ON]
   exact⟨_,ό _ Κ,⟨Κ,_,Κ⟩,Κ⟩
end
section
inductive Uay(ty:TE)(tx:TE)(σ:St)(Q:VK)(x:V)(H1:Hp):Prop
 |mk (a)(_:x=.ref a)(_:ZR H1 a)(_:ty σ H1 λy H2=>tx σ H2 λz H3=>∃kvs k,H3 a=Α (.dK kvs)/\y=kV k/\kvs.length<Χ/\ (∀v,cC kvs k=Α v->Q v H3)/\(cC kvs k=Β->Q z (ο H3 a (.dK (cX kvs k z)))))
def Ue(td ty tx:TE):TE:=λσ H Q=>td σ H λx H1=>Uay ty tx σ Q x H1
theorem Cv(E:PE X o td)(G:PE X e ty)(J:PE X f tx)(m:M2 X o "setdefault" apos e f Ip):PE X (.Call (.Attribute o "setdefault" apos) [e,f] [] Ip) (Ue td ty tx):=by
 intro b s j H Q I h
 refine Yh m.μ m.few m.line plainAttrs_dict PySem.F.slot_dict_setdefault PySem.F.type_dict_setdefault (aY (E b s j H _ I h) λu K L=>?_)
 obtain⟨x,M,r,N,a,ex,d,O⟩:=L
 subst ex
 obtain rfl:u=Ç a:=N
 obtain⟨P,R,_⟩:=AF r d
 refine⟨P,R,?_⟩
 rw[m.trees]
 refine ċ Κ (Ō (Ċ (aY (G b K j M _ r O) λiv S ⟨y,T,U,Y,Z⟩ =>
  Ċ (aY (J b S j T _ U Z) λfv s3 ⟨z,H3,l,t,c,k,A,ey,hl,q3,q4⟩=>ļ ?_))))
 subst ey
 obtain⟨z',B,vs,i,C⟩:=vZ l.HK A
 have g:=i.val k
 refine r4 PySem.F.slot_dict_setdefault C.typeIs PySem.F.entry_dict_setdefault (PySem.F.args_dict_setdefault_3 _ _ _) (kt_meets_setdefault (aN X.prog X.w) a (kf Y) B _) ⟨vs,C,by rw[←i.length];exact z',λv hv=>?_,λhn h' D hs=>?_⟩
 ·rw[hv]at g
  cases e:cC c k with
  |none=>rw[e]at g;exact g.elim
  |some n=>rw[e]at g;exact⟨n,_,l.tok _,g,q3 n e⟩
 ·have e:cC c k=Β:=by
   rw[hn]at g
   cases e:cC c k with
   |none=>rfl
   |some n=>rw[e]at g;exact g.elim
  have p:∃q,h'.get? a=Α q:=let ⟨q,_,_,hq,_⟩:=D;⟨q,hq⟩
  have hp:(cX c k z).length<=Χ:=by have:=eO c k z;lia
  exact⟨z,_,kN l (by rw[A];exact ϥ) hs p (ub hp B (i.put k t) D),t,q4 e⟩
end
section
variable {X:Cx}{ν:List (Ο×Obj)}{σ:St}{H:Hp}{s:ύ}
theorem ς.NG{ch:List Ο}{p:Ο}(I:ς X ν σ H s)(h:∀c∈ch,gw X ν H c)(i:s.heap.objs.size<=p)
  (k:∀c o,c∉ch->s.heap.get? c=Α o->h'.get? c=Α o) (l:xs.length<=Χ) (r:τ xs us) (m:Je h' p us.toArray):
  ς X ν σ (ο H p (.tup xs)) {s with heap:=h',toks:=t'}:=by
 have y:=I.HK.fresh i
 have f:∀c u,H c=Α u->c≠p:=λc u q z=>by grind
 have lt:∀c o,s.heap.get? c=Α o->c≠p:=λc o q=>ϳ (Ϝ (lt_size q) i)
 refine I.call (g':=s.gens) (d':=s.drawn) (ch:=ch) ⟨λc o e n t a=>k c o a e,λc o e n t a=>⟨o.slots,k c o a e⟩,λc o e n a=>by rw[aj (lt c o e)];exact n,
  λc o e a=>⟨o,k c o a e⟩,λc x q=>by rw[aj (f c _ q)];exact q,λc o u q=>by rw[aj (f c _ q)];exact q,λc A q=>⟨#[],by rw[aj (f c _ q),q];simp⟩⟩ (λc u q=>?_) I.bare λc g=>?_
 ·by_cases g:c=p
  ·subst g
   rw[ae]at q
   cases q
   exact⟨l,_,r,m⟩
  ·rw[aj g]at q
   refine(I.HK c u q).IZ (λd v B z=>?_) (λd z=>by rw[aj (f d _ z)];exact z) λd x z=>by rw[aj (f d _ z)];exact z
   have C:d∉ch:=λw=>by
    have D:=(h d w).1
    grind
   grind
 ·obtain⟨E,F,_,G,J,K⟩:=h c g
  grind
theorem ς.M9{ch:List Ο}(I:ς X ν σ H s)(f:∀c∈ch,gw X ν H c)(k:∀c o,c∉ch->s.heap.get? c=Α o->h'.get? c=Α o):ς X ν σ H {s with heap:=h',toks:=t'}:=by
 refine I.call (g':=s.gens) (d':=s.drawn) (ch:=ch) ⟨λc o e n h a=>k c o a e,λc o e n h a=>⟨o.slots,k c o a e⟩,λc o e n a=>n,
  λc o e a=>⟨o,k c o a e⟩,λc i q=>q,λc o u q=>q,λc l q=>⟨#[],by rw[q];simp⟩⟩ (λc u q=>?_) I.bare λc j=>?_
 ·refine(I.HK c u q).IZ (λd v m z=>?_) (λd z=>z) λd i z=>z
  have p:d∉ch:=λw=>by
   have r:=(f d w).1
   grind
  grind
 ·obtain⟨t,x,_,y,A,B⟩:=f c j
  grind
end
noncomputable def Itz(K:ϧ)(a b:Ο):It:=
 ⟨λi H=>∃xs ys x y,HC K H a xs/\HC K H b ys/\xs[i]?=Α x/\ys[i]?=Α y,
  λi H v H'=>∃p,H p=Β/\v=.ref p/\∀xs ys,HC K H a xs->HC K H b ys->∃x y,xs[i]?=Α x/\ys[i]?=Α y/\H'=ο H p (.tup [x,y]),
  λi H=>∃xs ys,HC K H a xs/\HC K H b ys/\(xs[i]?=Β∨ys[i]?=Β)⟩
def EG(z ti to i1 i2 a b:Ο)(i:Nat)(h:Ó):Prop:=et h z ti to .none/\ĥ h ti (.ref i1) (.ref i2)/\(∃x y,ĥ h to x y)/\h.IsListIter i1 a i/\h.IsListIter i2 b i
theorem mZ(t:EG z ti to i1 i2 a b i h)(E:ti≠to)(F:i1≠i2)(G:h.IsList a xs)(H:h.IsList b ys):v7 z ti to i1 i2 a b:=by
 obtain⟨d,D,⟨x,y,j⟩,⟨I,l,r,J⟩,K,v,w,L⟩:=t
 obtain⟨M,A,ca,N⟩:=G
 obtain⟨O,B,C,P⟩:=H
 have c:∀{p q:Ο}{o u:Obj}{s t:String},h.get? p=Α o->h.get? q=Α u->o.cls=.type s->u.cls=.type t->s≠t->p≠q:=λe f g k n m=>by
  grind
 exact⟨c D d Κ Κ (by decide),c j d Κ Κ (by decide),c l d r Κ (by decide),c v d w Κ (by decide),E,c D l Κ r (by decide),c D v Κ w (by decide),c j l Κ r (by decide),c j v Κ w (by decide),F,
  c A d ca Κ (by decide),c A j ca Κ (by decide),c A l ca r (by decide),c A v ca w (by decide),c B d C Κ (by decide),c B j C Κ (by decide),c B l C r (by decide),c B v C w (by decide)⟩
theorem xS{K:ϧ}(a b z j to l m:Ο)(S:j≠to)(T:l≠m):mY P w K (.Tuple elts kk pos) (Itz K a b) [z,j,to,l,m] z (EG z j to l m a b) where
 mem:=by simp
 obj:=λi h st c n=>by
  obtain⟨f,g,⟨x,y,p⟩,⟨o1,e1,c1,d1⟩,o2,e2,c2,d2⟩:=st
  have N6:c=z∨c=j∨c=to∨c=l∨c=m:=by simpa using n
  grind
 keep:=λi h h' st k=>by
  obtain⟨f,g,⟨x,y,p⟩,r,t⟩:=st
  exact⟨k z (by simp) _ f,k j (by simp) _ g,⟨x,y,k to (by simp) _ p⟩,r.at λo q=>k l (by simp) o q,t.at λo q=>k m (by simp) o q⟩
 item:=by
  intro X J L M n i d s U H E I D st N
  subst J L M
  obtain⟨xs,ys,x,y,F,G,Y,Z⟩:=N
  obtain⟨LX,O,u,Qa⟩:=I.list F
  obtain⟨Ji,Q,v,QW⟩:=I.list G
  obtain⟨u1,L9,ZV⟩:=O.get Y
  obtain⟨u2,Ud,ZW⟩:=Q.get Z
  have A:=mZ st S T u.isList v.isList
  obtain⟨f,g,⟨v1,v2,p⟩,r,t⟩:=st
  refine wpAny_pyNext_zip_item A f g p r t u.isList v.isList (x:=u1) (y:=u2) (by grind) (by grind) λh' a1 a2 a3 a4 a5 a6 hk=>⟨_,Κ,?_⟩
  refine OT a1 λR b1 b2=>?_
  have HS:∀c o,s.heap.get? c=Α o->c≠s.heap.objs.size:=λc o q=>ϳ (lt_size q)
  have nz:=ϗ (HS _ _ f)
  have B:∀c o,c≠z->h'.get? c=Α o->R.get? c=Α o:=λc o q e=>(b2.2 c q).trans e
  have I2:ς X d U (ο H s.heap.objs.size (.tup [x,y])) {s with heap:=R}:=by
   refine ς.NG (s:=s) (h':=R) (t':=s.toks) (us:=[u1,u2]) I D (Ξ _) (λc o hn q=>?_) (by show 2<=Χ;decide) (.cons ZV (.cons ZW .nil)) ⟨_,B _ _ nz a5,⟨Κ,_,Κ⟩,Κ⟩
   grind
  refine⟨.ref s.heap.objs.size,_,I2,Κ,⟨_,I.HK.fresh (Ξ _),Κ,λzs ws g1 g2=>⟨x,y,by rw[I.Jn g1 F];exact Y,by rw[I.Jn g2 G];exact Z,Κ⟩⟩,⟨b1,B _ _ A.TIz (hk _ _ A.TIz A.TITO A.TIi1 A.TIi2 g),⟨_,_,B _ _ A.TOz a2⟩,a3.at λo q=>B _ o A.i1z q,a4.at λo q=>B _ o A.i2z q⟩,λc n=>?_⟩
  have hl:c≠s.heap.objs.size:=by
   have N6:c=z∨c=j∨c=to∨c=l∨c=m:=by grind
   obtain⟨o1,e1,_⟩:=r
   obtain⟨o2,e2,_⟩:=t
   grind
  rw[aj hl]
  exact(D c n).1
 done:=by
  intro X J L M n i d s U H E I D st N
  subst J L M
  obtain⟨xs,ys,F,G,IW⟩:=N
  obtain⟨LX,O,u,Qa⟩:=I.list F
  obtain⟨Ji,Q,v,QW⟩:=I.list G
  have A:=mZ st S T u.isList v.isList
  obtain⟨f,g,⟨v1,v2,p⟩,r,t⟩:=st
  have he:LX.toArray[i]?=Β∨Ji.toArray[i]?=Β:=by
   rcases IW with q|q
   ·exact .inl (by simpa using O.none_of q)
   ·exact .inr (by simpa using Q.none_of q)
  refine wpAny_pyNext_zip_end (I.ok.hd n) A f g p r t u.isList v.isList he λh' hk=>⟨Κ,?_⟩
  refine I.M9 (t':=s.toks) D λc o hn q=>?_
  grind
 self:=λ_ _ _ _ _ st h=>Ż st.1 h
section
inductive Uaz(K:ϧ)(R:It->Hp->Prop)(vs:List V)(H1:Hp):Prop
 |mk (a b)(_:vs=[.ref a,.ref b])(_:(∃xs,HC K H1 a xs))(_:(∃ys,HC K H1 b ys))(_:R (Itz K a b) H1)
def ZX(K:ϧ)(t:TA):TI:=λσ H R=>t σ H λvs H1=>Uaz K R vs H1
theorem F9(n:Gl X "zip")(o:X.mg "zip"=Β)(r:PA X [e1,e2] t)(w:autoParam (ϟ [e1,e2] X.env=(Δ,eval e1 X.env):: ϟ [e2] X.env) η)(y:autoParam (((î pos (ϟ [e2] X.env)).any λx=>x.fst)=Δ) η):PI X (.Tuple elts kk Kn) (.Call (.Name "zip" p) [e1,e2] [] pos) (ZX X.K t):=by
 intro b s i H R I h
 refine Ks (dj I n o (show Ă "zip"=Α (.type "zip") by decide +kernel) (ϭ (aY (r pos b s i H _ I h) λus a z=>?_) w y))
 obtain⟨Y,j,d,A,B⟩:=z
 obtain⟨C,D,e,⟨xs,E⟩,⟨Z,F⟩,q⟩:=B
 subst e
 obtain⟨u,v,rfl,G,J⟩:=A.two
 cases G
 cases J
 obtain⟨LX,OU,L,Qa⟩:=d.list E
 obtain⟨Ji,OV,M,QW⟩:=d.list F
 refine call_zip_2 L.isList M.isList λl m N O P Q a6 S=>?_
 have T:=d.kept (t':=a.toks) S
 refine Ż (s:={a with heap:=l}) m ?_
 refine⟨_,_,_,_,j,Κ,T,xS C D _ (a.heap.objs.size+2) (a.heap.objs.size+3) a.heap.objs.size (a.heap.objs.size+1) (ϳ (ê _)) (ϳ (ê _)),⟨m,N,⟨_,_,O⟩,P,Q⟩,λc U=>?_,q⟩
 have g:a.heap.objs.size<=c:=by
  have N6:c=a.heap.objs.size+4∨c=a.heap.objs.size+2∨c=a.heap.objs.size+3∨c=a.heap.objs.size∨c=a.heap.objs.size+1:=by simpa using U
  grind
 exact d.Lz g (d.HK.fresh g)
end
section
theorem x8(o:X.calm=Γ):c5 X (.builtin "min") (λxs H Q=>∃(p:Ο)(a:List Int),xs=[.ref p]/\HC X.K H p (a.map V.int)/\a≠[]/\∀m,m∈a->(∀z∈a,m<=z)->Q (.int m) H):=by
 intro f s L H xs us Q I r h
 obtain⟨p,a,rfl,w,x,q⟩:=h
 obtain⟨u,rfl,y⟩:=r.one
 cases y
 obtain⟨g,A,B,M⟩:=I.list w
 have i:=fZ A
 obtain⟨b,l⟩:=i.allInts.items
 have e:b.toList.map (·.1)=a:=by
  have:=i.numsOf
  rw[show g=g.toArray.toList from Κ,l,nums_intItems]at this
  exact this
 have c:b.size=a.length:=by rw[←e];simp
 have C:0<b.size:=by
  rw[c]
  exact Ē.mpr x
 have n:=B.isList
 rw[l]at n
 refine min_intList (I.ok.hd o) n C λv N D E F=>?_
 obtain⟨t,rfl⟩:=intItems_at E
 obtain⟨O,G⟩:=argBest_lt (numAt b) (b.size - 1)
 refine⟨.int _,H,I.kept (t':=D) F,⟨t,Κ⟩,q _ ?_ λz d=>?_⟩
 ·rw[numAt_eq,e]
  exact getD_mem (by lia)
 ·rw[←e]at d
  obtain⟨j,J,rfl⟩:=mem_getD d
  rw[Ρ,Array.length_toList]at J
  rw[←numAt_eq]
  exact G j (by lia)
end
section
variable {prog:Program}{w:Å}{A:ó}{E:Φ->ύ->Prop}{s:ύ}{I:Ο}{fp wr:List Ο}{G:Array VG->Array VG->Prop}{n:Nat}{P:Nat->Φ->Prop}{St:Nat->ύ->Prop}
theorem tZ(W:XB prog w A.in1 I fp wr G n P St)(g:∀i s,St i s->s.TypeIs (.ref I) "list_reverseiterator")(S:Ο)(res:Φ)(d:Nat)(st:St 0 s)(l:S∉fp)(o:I∈fp)
  (p:s.heap.get? S=Α {cls:=.type "list",data:=.seq #[] d})
  (k:∀a acc c,PySem.Moved (S:: wr) G s a->a.heap.get? S=Α {cls:=.type "list",dict:=Β,data:=.seq acc c,slots:=#[]}->xi P acc n->R (.ok (.ret res)) a) (few:n<=Χ):
  Ϣ (ϣ prog w) A.in1 (Ć (.ref S) (.ref I) res)
   (λfin a=>match fin with|.done f=>R (.ok f) a|.again h=>h.quiet=Γ/\Ũ (ϣ prog w) A h R a) (λe a=>R (.error e) a) s:=by
 have q:S≠I:=λz=>l (z▸o)
 have no:ĝ (.ref S) (.ref I)=Δ:=by simp[ĝ,q]
 unfold Ć
 refine Μ (Sy (g 0 _ st) ?_)
 rw[Η (by simp[no])]
 refine Μ (W.self 0 _ _ _ st (Μ (Ŕ ?_)))
 unfold e8
 refine Μ (Ğ (g 0 _ st) vD ?_)
 refine Μ (Ğ (g 0 _ st) rj ?_)
 generalize j:("list_reverseiterator.__length_hint__":String)=m
 (fail_if_success (clear j m))
 wp_delta
 rw[show splitId m=Α ("list_reverseiterator","__length_hint__") from by subst j;decide +kernel]
 subst j
 refine Μ (Ia (b:=Γ) (g 0 _ st) (by rw[isSubtype_type];kernel_rfl) (Ϙ ?_))
 rw[Η (by decide)]
 exact Ϙ ⟨nF Uc _,Ve W few _ l _ n 0 _ _ _ Κ (ϡ _) st p (xi.nil P) λa r h t u v=>k a r h t u v⟩
theorem AG(W:XB prog w A.in1 I fp wr G n P St)(q:∀i s,St i s->s.TypeIs (.ref I) "list_reverseiterator")(S:Ο)(st:St 0 s)(p:S∉fp)(r:I∈fp)
  (l:s.heap.get? S=Α {cls:=.type "list",data:=.seq #[]})
  (k:∀a acc c,PySem.Moved (S:: wr) G s a->a.heap.get? S=Α {cls:=.type "list",dict:=Β,data:=.seq acc c,slots:=#[]}->xi P acc n->R (.ok (.ret .none)) a) (few:n<=Χ):
  Ϣ (ϣ prog w) A.in1 (Builtin.«list.__init__» ⟨[.ref S,.ref I],[]⟩)
   (λfin a=>match fin with|.done f=>R (.ok f) a|.again j=>j.quiet=Γ/\Ũ (ϣ prog w) A j R a) (λe a=>R (.error e) a) s:=by
 refine Μ ?_
 unfold Builtin.List.listItems
 refine Μ (à l Κ (Ϙ ?_))
 refine Μ (wpAny_updateSeq l Κ ?_)
 have t:=ň (Ÿ (λ_=>(#[]:Array Φ))) l Κ
 have d:∀b o,b≠S->s.heap.get? b=Α o->(s.heap.update S (Ÿ (λ_=>(#[]:Array Φ)))).get? b=Α o:=λb o g e=>(ŷ _ _ (ϗ g)).trans e
 refine Μ (JR ?_)
 refine tZ W q S .none _ (W.frame 0 s _ s.toks st (Ξ _) λb g o e=>d b o (λh=>p (h▸g)) e) p r t (λa u j v x y=>?_) few
 exact k a u j (PySem.Moved.trans W.gtrans ((PySem.Moved.refl W.grefl).then_heap (Ξ _) λb o g e=>d b o (λh=>g (h▸Ϧ)) e) v) x y
theorem mW(W:XB prog w A.in1.in1 I fp wr G n P St)(m:∀i s,St i s->s.TypeIs (.ref I) "list_reverseiterator")(st:St 0 s)(d:∀b∈fp,b<s.heap.objs.size)(p:I∈fp)
  (k:∀f acc c,PySem.Moved (s.heap.objs.size:: wr) G {s with heap:=s.heap.push {cls:=.type "list",data:=.seq #[]}} f->
   f.heap.get? s.heap.objs.size=Α {cls:=.type "list",dict:=Β,data:=.seq acc c,slots:=#[]}->xi P acc n->Q (.ref s.heap.objs.size) f) (few:n<=Χ):
  Ϣ (ϣ prog w) A (call (.type "list") [.ref I]) Q E s:=by
 have q:=λz=>ı _ (d _ z)
 refine callType_codes (Q₁:=λh a=>h=.ref s.heap.objs.size/\a={s with heap:=s.heap.push {cls:=.type "list",data:=.seq #[]}}) F.called_list (F.typeCall_list_1 _) F.entry_list_init (code_list_new _ ⟨Κ,Κ⟩) λh a j=>?_
 obtain⟨rfl,rfl⟩:=j
 have l:(s.heap.push {cls:=.type "list",data:=.seq #[]}).get? s.heap.objs.size=Α {cls:=.type "list",data:=.seq #[]}:=ό _ Κ
 exact⟨⟨_,l,Κ⟩,F.args_list_init_2 _ _,AG W m _ (W.frame 0 s _ s.toks st (Ξ _) λb _ o e=>Ν _ e) q p l (λf r t u v x=>⟨Κ,k f r t u v x⟩) few⟩
end
section
inductive Uba(K:ϧ)(Q:VK)(vs:List V)(H1:Hp):Prop
 |mk (l xs)(_:vs=[.ref l])(_:HC K H1 l xs)(_:∀t,H1 t=Β->Q (.ref t) (ο H1 t (.π xs.reverse)))
def BE(K:ϧ)(ta:TA):TE:=λσ H Q=>ta σ H λvs H1=>Uba K Q vs H1
theorem wM(M:X.calm=Γ)(N:Gl X "list")(O:X.mg "list"=Β)(P:Gl X "reversed")(R:X.mg "reversed"=Β)(S:PA X [a] ta)(T:autoParam (ϟ [a] X.env=[(Δ,eval a X.env)]) η)
  (D:autoParam (ϟ [.Call (.Name "reversed" p2) [a] [] KY] X.env=[(Δ,eval (.Call (.Name "reversed" p2) [a] [] KY) X.env)]) η):PE X (.Call (.Name "list" p1) [.Call (.Name "reversed" p2) [a] [] KY] [] QV) (BE X.K ta):=by
 intro g s U H Q I h
 refine Ks (dj I N O PySem.Pv.boot_list (ϭ ?_ D Κ))
 rw[D]
 refine Ċ ?_
 refine Ks (dj I P R (show Ă "reversed"=Α (.type "reversed") by decide +kernel) (ϭ (aY (S KY g s U H _ I h) λus d Y=>?_) T Κ))
 obtain⟨vs,H1,m,Z,q1⟩:=Y
 obtain⟨l,xs,e,hq,q⟩:=q1
 subst e
 obtain⟨u,rfl,ru⟩:=Z.one
 cases ru
 obtain⟨f,E,t,F⟩:=m.list hq
 have v:f.toArray.size=xs.length:=by rw[ô];exact E.length.symm
 refine X8 t.isList (ļ ?_)
 have G:l<d.heap.objs.size:=by obtain⟨o,ho,_⟩:=t.isList;exact lt_size ho
 have Ij:=ϳ G
 have W:=(Walks.listRev (prog:=X.prog) (w:=X.w) (A:=X.A.in1.in1) (m.ok.hd M) d.heap.objs.size l Ij f.toArray).toS
 have y:(d.heap.push (Oh l ((f.toArray.size:Int) - 1))).objs.size=d.heap.objs.size+1:=size_push ..
 refine mW (s:={d with heap:=d.heap.push (Oh l ((f.toArray.size:Int) - 1))}) W (λi s z=>z.2.1.typeIs) ⟨ϡ _,⟨_,ό _ Κ,Κ,by simp[Oh]⟩,t.isList.at λo e=>Ν _ e⟩ (λb n=>?_) (by simp) (λs' acc c p NJ it=>?_) (by rw[v];exact F)
 ·have LW:b=d.heap.objs.size∨b=l:=by simpa using n
  rw[y]
  rcases LW with rfl|rfl
  ·exact ê _
  ·exact Ř G
 ·obtain⟨h',g',d',Ub,QG⟩:=s'
  have e1:=p.gens
  have r:=p.drawn
  have e3:=p.os
  subst e1 r e3
  have keep:∀b o,d.heap.get? b=Α o->h'.get? b=Α o:=λb o e=>by
   have n:=lt_size e
   refine p.heap b o ?_ (Ν _ (Ν _ e))
   rw[y]
   simp only[À,Ñ,or_false,not_or]
   exact⟨ϳ (Ř n),ϳ n⟩
  have hv:τ xs.reverse acc.toList:=by
   refine kW (by rw[Ò,←v];exact it.1.symm) λi x u C hu=>?_
   have hi:i<xs.length:=by have:=(gQ0 C);rw[Ò]at this;exact this
   have L:=it.2 i u (by simpa using hu)
   rw[v]at L
   rw[õ hi]at C
   have Ud:f[xs.length - 1 - i]?=Α u:=by simpa using L
   obtain⟨u2,r,r2⟩:=E.get C
   rw[Ud]at r
   cases r
   exact r2
  have j:d.heap.objs.size<=(d.heap.push (Oh l ((f.toArray.size:Int) - 1))).objs.size:=by rw[y];exact Nat.le_succ _
  exact⟨.ref _,_,m.laid (a:=(d.heap.push (Oh l ((f.toArray.size:Int) - 1))).objs.size) (o:=.π xs.reverse) (t':=Ub) (h':=h') keep j ⟨by rw[Ò];exact F,acc.toList,c,hv,by simpa using NJ⟩,Κ,q _ (m.HK.fresh j)⟩
end
end _L2
namespace _L2
open PySem
section
end
open PySem.Spec PyProof.Rows
section
end
section
end
section
end
section
end
section
end
end _L2
namespace _Lk
abbrev Dn:=List (Nat×Nat)
abbrev Ld:=List Dn
noncomputable def ks(d:Dn):List Nat:=d.map (·.1)
noncomputable def mF(l g:Nat)(d:Dn):Dn:=if l∈ks d then d else d++[(l,g)]
noncomputable def eE(l g:Nat)(L:Ld)(w:Nat):Ld:=L.set w (mF l g (L.getD w []))
noncomputable def fH(on:Nat->Nat->List Nat)(l:Nat)(L:Ld)(g:Nat):Ld:=(on g l).foldl (eE l g) L
noncomputable def ke(on:Nat->Nat->List Nat)(gs:Nat->List Nat)(L:Ld)(l:Nat):Ld:=(gs l).foldl (fH on l) L
noncomputable def eW(on:Nat->Nat->List Nat)(gs:Nat->List Nat)(n:Nat):Ld:=(Υ n).foldl (ke on gs) (Ϗ n [])
theorem jm:∀(n:Nat)(l:List Nat),l.Nodup->(∀x∈l,x<n)->l.length<=n
 | 0,l,_,h=>by
  cases l with
  |nil=>grind
  |cons x l=>exact Ι (h x Ϧ) (Ņ _)
 | n+1,l,hn,h=>by
  by_cases a:n∈l
  ·have e:=K7 a
   have:=jm n (l.erase n) (hn.erase n) λx b=>by
    grind
   lia
  ·have:=jm n l hn λx b=>by
    grind
   lia
theorem v8{l:List Nat}(b:l.Nodup)(h:∀x∈l,x<n)(c:n<=l.length):∀x,x<n->x∈l:=by
 intro x d
 by_cases a:x∈l
 ·exact a
 ·have:=jm n (x:: l) (è.mpr ⟨a,b⟩) λy e=>by
   grind
  grind
structure Im(on:Nat->Nat->List Nat)(gs:Nat->List Nat)(n:Nat)(L:Ld):Prop where
 len:L.length=n
 nd:∀w,(ks (L.getD w [])).Nodup
 of:∀w,∀x∈L.getD w [],x.1<n/\x.2∈gs x.1/\w∈on x.2 x.1
theorem Jq(L:Ld)(w v:Nat)(d:Dn):(L.set w d).getD v []=if w=v/\w<L.length then d else L.getD v []:=by
 grind
theorem DO(h:(ks d).Nodup):(ks (mF l g d)).Nodup:=by
 unfold mF
 split
 ·exact h
 ·next hn =>
  unfold ks at*
  rw[Ϥ,Ĵ]
  refine⟨h,by simp,λy b c a=>?_⟩
  have a:c=l:=by simpa using a
  intro z
  rw[z,a]at b
  exact hn b
theorem Bn(h:x∈mF l g d):x∈d∨x=(l,g):=by
 unfold mF at h
 grind
theorem Bo:l∈ks (mF l g d):=by
 unfold mF
 split
 ·assumption
 ·unfold ks;simp
theorem xD(h:z∈ks d):z∈ks (mF l g d):=by
 unfold mF
 split
 ·exact h
 ·unfold ks at*
  grind
theorem Im.add(h:Im on gs n L)(b:l<n)(c:g∈gs l)(d:w∈on g l):Im on gs n (eE l g L w) where
 len:=by unfold eE;rw[ī];exact h.len
 nd:=λv=>by
  unfold eE
  rw[Jq]
  split
  ·exact DO (h.nd w)
  ·exact h.nd v
 of:=λv x a=>by
  unfold eE at a
  rw[Jq]at a
  split at a
  ·next e =>
   rcases Bn a with a|f
   ·rw[←e.1];exact h.of w x a
   ·rw[f,←e.1];exact⟨b,c,d⟩
  ·exact h.of v x a
theorem Im.ι(b:l<n)(c:g∈gs l):∀(a:List Nat){L:Ld},Im on gs n L->(∀z∈a,z∈on g l)->Im on gs n (a.foldl (eE l g) L)
 |[],_,h,_=>h
 |z:: a,L,h,hw=>Im.ι b c a (h.add b c (hw z Ϧ)) λy d=>hw y (Ϯ _ d)
theorem Im.Ih(c:l<n):∀(a:List Nat){L:Ld},Im on gs n L->(∀z∈a,z∈gs l)->Im on gs n (a.foldl (fH on l) L)
 |[],_,h,_=>h
 |z:: a,L,h,hw=>Im.Ih c a (Im.ι c (hw z Ϧ) _ h λy b=>b) λy b=>hw y (Ϯ _ b)
theorem Im.all:∀(a:List Nat){L:Ld},Im on gs n L->(∀z∈a,z<n)->Im on gs n (a.foldl (ke on gs) L)
 |[],_,h,_=>h
 |z:: a,L,h,hw=>Im.all a (Im.Ih (hw z Ϧ) _ h λy b=>b) λy b=>hw y (Ϯ _ b)
theorem l8(m w:Nat):(Ϗ m ([]:Dn)).getD w []=[]:=by
 rw[Ω,ĸ]
 split<;>rfl
theorem Im.init:Im on gs n (Ϗ n []) where
 len:=é
 nd:=λw=>by rw[l8];exact á
 of:=λw x a=>by rw[l8]at a;cases a
theorem jq:Im on gs n (eW on gs n):=Im.all _ Im.init λz a=>Ϩ.mp a
theorem Im.few(h:Im on gs n L)(w:Nat):(L.getD w []).length<=n:=by
 have:=jm n (ks (L.getD w [])) (h.nd w) λx a=>by
  obtain⟨y,b,rfl⟩:=Â.mp a
  exact(h.of w y b).1
 unfold ks at this
 rwa [Ρ]at this
theorem Bl(h:z∈ks (L.getD v [])):z∈ks ((eE l g L w).getD v []):=by
 unfold eE
 rw[Jq]
 split
 ·next e=>rw[←e.1]at h;exact xD h
 ·exact h
theorem jM:∀(a:List Nat){L:Ld},z∈ks (L.getD v [])->z∈ks ((a.foldl (eE l g) L).getD v [])
 |[],_,h=>h
 |_:: a,_,h=>jM a (Bl h)
theorem jJ:∀(a:List Nat){L:Ld},z∈ks (L.getD v [])->z∈ks ((a.foldl (fH on l) L).getD v [])
 |[],_,h=>h
 |_:: a,_,h=>jJ a (jM _ h)
theorem sf:∀(a:List Nat){L:Ld},z∈ks (L.getD v [])->z∈ks ((a.foldl (ke on gs) L).getD v [])
 |[],_,h=>h
 |_:: a,_,h=>sf a (jJ _ h)
theorem sh(l g:Nat)(L:Ld)(w:Nat):(eE l g L w).length=L.length:=by unfold eE;grind
theorem md:∀(a:List Nat)(L:Ld),(a.foldl (eE l g) L).length=L.length
 |[],_=>rfl
 |w:: a,L=>by rw[OK,md a,sh]
theorem r6:∀(a:List Nat)(L:Ld),(a.foldl (fH on l) L).length=L.length
 |[],_=>rfl
 |q:: a,L=>by rw[OK,r6 a];exact md _ _
theorem rF:∀(a:List Nat){L:Ld},w∈a->w<L.length->l∈ks ((a.foldl (eE l g) L).getD w [])
 | z:: a,L,h,hw=>by
  rcases À.mp h with e|h
  ·subst e
   refine jM a ?_
   unfold eE
   rw[Jq,Θ ⟨Κ,hw⟩]
   exact Bo
  ·exact rF a h (by rw[sh];exact hw)
theorem r8(b:w∈on g l):∀(a:List Nat){L:Ld},g∈a->w<L.length->l∈ks ((a.foldl (fH on l) L).getD w [])
 | z:: a,L,h,hl=>by
  rcases À.mp h with e|h
  ·subst e
   exact jJ a (rF _ b hl)
  ·exact r8 b a h (by show w<(fH on l L z).length;unfold fH;rw[md];exact hl)
theorem wo(b:w∈on g l)(c:g∈gs l):∀(a:List Nat){L:Ld},l∈a->w<L.length->l∈ks ((a.foldl (ke on gs) L).getD w [])
 | z:: a,L,h,hl=>by
  rcases À.mp h with e|h
  ·subst e
   exact sf a (r8 b _ c hl)
  ·exact wo b c a h (by show w<(ke on gs L z).length;unfold ke;rw[r6];exact hl)
theorem xc(a:l<n)(b:g∈gs l)(c:w∈on g l)(d:w<n):l∈ks ((eW on gs n).getD w []):=
 wo c b _ (Ϩ.mpr a) (by rw[é];exact d)
noncomputable def eQ(L:Ld)(a:Dn)(l:Nat):Bool:=!decide (l∈ks a)&& (ks (L.getD l [])).all λk=>decide (k∈ks a)
noncomputable def b5(L:Ld)(a:Dn):List Nat:=(Υ L.length).filter (eQ L a)
noncomputable def fL(a:Dn)(fs:List Nat)(m:Nat):Dn:=a++fs.map λl=>(l,m)
noncomputable def mS(L:Ld):Nat->Dn->Nat->Dn
 |0,a,_=>a
 |f+1,a,m=>if b5 L a=[] then a else mS L f (fL a (b5 L a) m) (m+1)
noncomputable def i6(L:Ld):Dn:=mS L (L.length+1) [] 0
theorem qV(h:b5 L a=[]):∀f,mS L f a m=a
 |0=>rfl
 |f+1=>by rw[mS,Θ h]
theorem nH(h:b5 L a≠[]):mS L (f+1) a m=mS L f (fL a (b5 L a) m) (m+1):=by rw[mS,Η h]
theorem IJ:l∈b5 L a↔l<L.length/\l∉ks a/\∀k∈ks (L.getD l []),k∈ks a:=by
 unfold b5 eQ
 rw[Ϫ,Ϩ]
 simp only[Ù,Ľ,decide_eq_false_iff_not,ù,decide_eq_true_eq]
theorem vX(L:Ld)(a:Dn):(b5 L a).Nodup:=Č _ Wb
theorem jr(a:Dn)(fs:List Nat)(m:Nat):ks (fL a fs m)=ks a++fs:=by
 unfold ks fL
 rw[Ϥ,Ú]
 congr 1
 exact(đ (λx _=>rfl)).trans (List.map_id _)
structure Jb(L:Ld)(a:Dn)(m:Nat):Prop where
 nd:(ks a).Nodup
 lt:∀x∈ks a,x<L.length
 bd:∀x∈a,x.2<m
 few:m<=a.length
 low:∀x∈a,∀k∈ks (L.getD x.1 []),∃y∈a,y.1=k/\y.2<x.2
 top:∀x∈a,x.2=0∨∃y∈a,y.1∈ks (L.getD x.1 [])/\y.2+1=x.2
 cl:0<m->∀l,l<L.length->(∀k∈ks (L.getD l []),∃y∈a,y.1=k/\y.2+1<m)->l∈ks a
theorem Jb.nil(L:Ld):Jb L [] 0:=⟨á,(λx h=>by cases h),(λx h=>by cases h),Ξ _,(λx h=>by cases h),(λx h=>by cases h),λh=>Ι h (ı _)⟩
theorem Jb.len(h:Jb L a m):a.length<=L.length:=by
 have:=jm _ _ h.nd h.lt
 unfold ks at this
 rwa [Ρ]at this
theorem iO(h:k∈ks a):∃y∈a,y.1=k:=Â.mp h
theorem tS(h:y∈a):y.1∈ks a:=Â.mpr ⟨y,h,Κ⟩
theorem I0:x∈fL a fs m↔x∈a∨(x.1∈fs/\x.2=m):=by
 unfold fL
 grind
theorem Jb.step(h:Jb L a m)(r:b5 L a≠[]):Jb L (fL a (b5 L a) m) (m+1) where
 nd:=by
  rw[jr,Ĵ]
  refine⟨h.nd,vX L a,λx b y c e=>?_⟩
  subst e
  exact(IJ.mp c).2.1 b
 lt:=λx b=>by
  rw[jr]at b
  rcases Á.mp b with b|b
  ·exact h.lt x b
  ·exact(IJ.mp b).1
 bd:=λx b=>by
  rcases I0.mp b with b|⟨_,b⟩
  ·exact Ř (h.bd x b)
  ·lia
 few:=by
  unfold fL
  rw[ϛ,Ρ]
  have:=h.few
  have:=Ē.mpr r
  lia
 low:=λx b k d=>by
  rcases I0.mp b with b|⟨f,g⟩
  ·obtain⟨y,c,i,j⟩:=h.low x b k d
   exact⟨y,I0.mpr (.inl c),i,j⟩
  ·obtain⟨y,c,e⟩:=iO ((IJ.mp f).2.2 k d)
   exact⟨y,I0.mpr (.inl c),e,by rw[g];exact h.bd y c⟩
 top:=λx b=>by
  rcases I0.mp b with b|⟨f,g⟩
  ·rcases h.top x b with e|⟨y,c,i,j⟩
   ·exact .inl e
   ·exact .inr ⟨y,I0.mpr (.inl c),i,j⟩
  ·rcases Nat.eq_zero_or_pos m with e|o
   ·grind
   ·obtain⟨s,t,u⟩:=IJ.mp f
    refine Þ λv=>t (h.cl o x.1 s λk d=>?_)
    obtain⟨y,c,e⟩:=iO (u k d)
    refine⟨y,c,e,?_⟩
    have A:=h.bd y c
    rcases ă (y.2+1) m with q|w
    ·exact q
    ·exact Ι (.inr ⟨y,I0.mpr (.inl c),by grind,by lia⟩) v
 cl:=λ_ l z d=>by
  rw[jr]
  by_cases o:l∈ks a
  ·grind
  ·refine Ô _ (IJ.mpr ⟨z,o,λk p=>?_⟩)
   obtain⟨y,c,e,q⟩:=d k p
   rcases I0.mp c with c|⟨_,g⟩
   ·rw[←e];exact tS c
   ·lia
theorem Ae:∀(f:Nat){a:Dn}{m:Nat},Jb L a m->L.length+1<=f+a.length->∃b,Jb L (mS L f a m) b/\b5 L (mS L f a m)=[]
 | 0,a,m,h,hf=>by
  have:=h.len
  lia
 | f+1,a,m,h,hf=>by
  by_cases e:b5 L a=[]
  ·rw[qV e]
   exact⟨m,h,e⟩
  ·rw[nH e]
   refine Ae f (h.step e) ?_
   unfold fL
   rw[ϛ,Ρ]
   have:=Ē.mpr e
   lia
theorem p9(L:Ld):∃m,Jb L (i6 L) m/\b5 L (i6 L)=[]:=Ae _ (Jb.nil L) (by simp)
noncomputable def fO(d:Dn)(l:Nat):Option Nat:=(d.find? λx=>decide (x.1=l)).map (·.2)
theorem oG(h:fO d l=Α g):(l,g)∈d:=by
 unfold fO at h
 cases e:d.find? λx=>decide (x.1=l) with
 |none=>grind
 | some y =>
  grind
theorem fj(h:l∈ks d):∃g,fO d l=Α g:=by
 unfold fO
 obtain⟨y,a,e⟩:=iO h
 cases b:d.find? λx=>decide (x.1=l) with
 | none =>
  grind
 |some z=>exact⟨_,Κ⟩
theorem tM(h:(ks d).Nodup)(a:x∈d):fO d x.1=Α x.2:=by
 obtain⟨g,e⟩:=fj (tS a)
 have f:=oG e
 obtain⟨i,l,b⟩:=ì f
 obtain⟨j,m,c⟩:=ì a
 have o:(ks d)[i]?=Α x.1:=by unfold ks;rw[ώ,Λ l,b];rfl
 have p:(ks d)[j]?=Α x.1:=by unfold ks;rw[ώ,Λ m,c];rfl
 obtain⟨s,q⟩:=ϝ.mp o
 obtain⟨t,r⟩:=ϝ.mp p
 have:i=j:=(Ŝ h).mp (q.trans r.symm)
 subst this
 rw[e,←c,b]
noncomputable def numsOf(a:Dn)(n:Nat):List Nat:=(Υ n).map λl=>(fO a l).getD 0
structure mH(on:Nat->Nat->List Nat)(gs:Nat->List Nat)(n:Nat)(N:List Nat):Prop where
 len:N.length=n
 up:∀l g w,l<n->w<n->g∈gs l->w∈on g l->N.getD l 0<N.getD w 0
 top:∀w,w<n->N.getD w 0=0∨∃l g,l<n/\g∈gs l/\w∈on g l/\N.getD l 0+1=N.getD w 0
 bd:∀w,w<n->N.getD w 0<n
theorem wX(h:l<n):(numsOf a n).getD l 0=(fO a l).getD 0:=by
 unfold numsOf
 rw[Ω,ώ,QK h];rfl
theorem Dh(D:(i6 (eW on gs n)).length=n):mH on gs n (numsOf (i6 (eW on gs n)) n):=by
 have t:Im on gs n (eW on gs n):=jq
 have E:∀{l g w:Nat},l<n->g∈gs l->w∈on g l->w<n->l∈ks ((eW on gs n).getD w []):=xc
 obtain⟨m,h,_⟩:=p9 (eW on gs n)
 generalize eW on gs n=L at t E D h
 generalize i6 L=a at D h
 have H:=t.len
 have full:∀x,x<n->x∈ks a:=v8 h.nd (λx v=>by rw[←H];exact h.lt x v) (by unfold ks;rw[Ρ];lia)
 have b:∀l,l<n->∃y∈a,y.1=l/\(numsOf a n).getD l 0=y.2:=λl j=>by
  obtain⟨y,c,e⟩:=iO (full l j)
  refine⟨y,c,e,?_⟩
  rw[wX j,←e,tM h.nd c];rfl
 have d:∀{y z:Nat×Nat},y∈a->z∈a->y.1=z.1->y.2=z.2:=λ{y z} c f e=>by
  have p:=tM h.nd c
  have q:=tM h.nd f
  rw[e]at p
  rw[p]at q
  exact ϋ q
 refine⟨by unfold numsOf;rw[Ρ,ě],λl g w j i I J=>?_,λw i=>?_,λw i=>?_⟩
 ·obtain⟨y,c,p,q⟩:=b l j
  obtain⟨z,f,r,o⟩:=b w i
  rw[q,o]
  obtain⟨u,A,s,B⟩:=h.low z f l (by rw[r];exact E j I J i)
  rw[d c A (by rw[p,s])]
  exact B
 ·obtain⟨z,f,r,o⟩:=b w i
  rw[o]
  rcases h.top z f with e|⟨y,c,s,B⟩
  ·exact .inl e
  ·rw[r]at s
   obtain⟨x,v,ex⟩:=iO s
   obtain⟨C,F,G⟩:=t.of w x v
   rw[ex]at C F G
   obtain⟨u,A,K,M⟩:=b y.1 C
   refine .inr ⟨y.1,x.2,C,F,G,?_⟩
   rw[M,d A c K];exact B
 ·obtain⟨z,f,r,o⟩:=b w i
  rw[o]
  have:=h.bd z f
  have:=h.few
  lia
noncomputable def lN:List Nat->Nat
 |[]=>0
 |[x]=>x
 |x:: y:: t=>min x (lN (y:: t))
theorem lM:∀{l:List Nat},l≠[]->lN l∈l
 |[],h=>Ι Κ h
 |[x],_=>ϙ.mpr Κ
 | x:: y:: t,_=>by
  show min x (lN (y:: t))∈_
  rcases Nat.le_total x (lN (y:: t)) with h|h
  ·grind
  ·rw[Tp h];exact Ϯ _ (lM (List.cons_ne_nil _ _))
theorem vA:∀{l:List Nat}{z:Nat},z∈l->lN l<=z
 |[x],z,h=>by rw[ϙ.mp h];exact Ξ _
 | x:: y:: t,z,h=>by
  rcases À.mp h with e|h
  ·rw[e];exact Nat.min_le_left ..
  ·exact Í (Nat.min_le_right ..) (vA h)
theorem Dk(a:m∈l)(h:∀z∈l,m<=z):m=lN l:=by
 have b:=vA a
 have c:=h _ (lM (Ru a))
 lia
noncomputable def ik(L:Ld)(a:Dn)(l:Nat):List Nat:=(ks (L.getD l [])).filter λk=>!decide (k∈ks a)
noncomputable def eP(L:Ld)(a:Dn):List Nat:=(Υ L.length).filter λl=>!decide (l∈ks a)
noncomputable def ng(L:Ld)(a:Dn):Nat->List Nat->Nat->List Nat
 |0,wk,l=>wk.drop (wk.idxOf l)
 |f+1,wk,l=>if l∈wk then wk.drop (wk.idxOf l) else ng L a f (wk++[l]) (lN (ik L a l))
noncomputable def iS(L:Ld)(a:Dn):List Nat:=ng L a (L.length+1) [] ((eP L a).headD 0)
structure LY(L:Ld)(a:Dn)(wk:List Nat)(l:Nat):Prop where
 nd:wk.Nodup
 lt:∀x∈wk,x<L.length/\x∉ks a
 cur:l<L.length/\l∉ks a
 nx:∀i x y,wk[i]?=Α x->wk[i+1]?=Α y->y∈ks (L.getD x [])
 last:∀x,wk.getLast?=Α x->l∈ks (L.getD x [])
theorem se(f:b5 L a=[])(b:l<L.length)(c:l∉ks a):ik L a l≠[]:=by
 intro h
 have g:=IJ.mpr ⟨b,c,λk d=>by
  refine Þ λe=>?_
  have:k∈ik L a l:=Ϫ.mpr ⟨d,by grind⟩
  grind⟩
 grind
theorem LY.step(f:∀w,∀x∈ks (L.getD w []),x<L.length)(h:LY L a wk l)(g:b5 L a=[])(q:l∉wk):LY L a (wk++[l]) (lN (ik L a l)):=by
 have j:=lM (se g h.cur.1 h.cur.2)
 obtain⟨m,r⟩:=Ϫ.mp j
 refine⟨?_,λx b=>?_,⟨f _ _ m,by grind⟩,λi x y b c=>?_,λx b=>?_⟩
 ·rw[Ĵ]
  refine⟨h.nd,by simp,λx b y c e=>?_⟩
  grind
 ·rcases Á.mp b with b|b
  ·exact h.lt x b
  ·rw[ϙ.mp b];exact h.cur
 ·have o:=(_L2.gQ0 c)
  rw[ϛ,Ã]at o
  rw[Ϛ (by lia)]at b
  rcases ă (i+1) wk.length with d|d
  ·rw[Ϛ d]at c
   exact h.nx i x y b c
  ·rw[ä d]at c
   have p:i+1 - wk.length=0:=by lia
   rw[p]at c
   have c:=ϋ c
   subst c
   refine h.last x ?_
   grind
 grind
structure Ug(L:Ld)(r:List Nat):Prop where
 ne:r≠[]
 nd:r.Nodup
 lt:∀x∈r,x<L.length
 nx:∀i x y,r[i]?=Α x->r[i+1]?=Α y->y∈ks (L.getD x [])
 cl:∀x y,r.getLast?=Α x->r.head?=Α y->y∈ks (L.getD x [])
theorem GT(h:LY L a wk l)(d:l∈wk):Ug L (wk.drop (wk.idxOf l)):=by
 have f:=c0 d
 have e:wk[wk.idxOf l]?=Α l:=by grind
 refine⟨λz=>?_,List.Pairwise.sublist (List.drop_sublist _ _) h.nd,λx b=>(h.lt x (ew b)).1,λi x y b c=>?_,λx y b c=>?_⟩
 ·have:=congrArg p0 z
  grind
 ·rw[č]at b c
  exact h.nx _ x y b (by grind)
 ·rw[List.head?_drop,e]at c
  cases c
  rw[List.getLast?_drop,Η (by lia)]at b
  exact h.last x b
theorem Ki(c:∀w,∀x∈ks (L.getD w []),x<L.length)(d:b5 L a=[]):∀(f:Nat){b:List Nat}{l:Nat},LY L a b l->L.length+1<=f+b.length->Ug L (ng L a f b l)
 | 0,b,l,h,hl=>by
  have:=jm _ _ h.nd λx e=>(h.lt x e).1
  lia
 | f+1,b,l,h,hl=>by
  rw[ng]
  split
  ·exact GT h (by assumption)
  ·exact Ki c d f (h.step c d (by assumption)) (by grind)
theorem vH(f:a.length<L.length):eP L a≠[]:=by
 intro h
 have c:∀x,x<L.length->x∈ks a:=λx b=>by
  refine Þ λg=>?_
  have:x∈eP L a:=Ϫ.mpr ⟨Ϩ.mpr b,by grind⟩
  grind
 have d:∀m,(∀x,x<m->x∈ks a)->m<=(ks a).length:=λm e=>by
  have:=(Wb (n:=m)).length_le_of_subset (λx b=>e x (Ϩ.mp b))
  grind
 have:=d _ c
 unfold ks at this
 grind
theorem uE(c:∀w,∀x∈ks (L.getD w []),x<L.length)(d:b5 L a=[])(f:a.length<L.length):Ug L (iS L a):=by
 unfold iS
 refine Ki c d _ ?_ (by simp)
 have g:=vH f
 cases e:eP L a with
 |nil=>exact Ι e g
 | cons x t =>
  have b:x∈eP L a:=by rw[e];exact Ϧ
  obtain⟨h,j⟩:=Ϫ.mp b
  exact⟨á,(λy l=>by cases l),⟨Ϩ.mp h,by simpa using j⟩,(λi x y b=>by simp at b),λx b=>by simp at b⟩
noncomputable def nv(r:List Nat):List Nat:=r.drop 1++r.take 1
noncomputable def je(L:Ld)(r:List Nat):List (Nat×Nat):=(r.zip (nv r)).map λp=>(p.1,(fO (L.getD p.2 []) p.1).getD 0)
theorem pc(r:List Nat):(nv r).length=r.length:=by
 unfold nv
 grind
theorem Ug.fwd(h:Ug L r):∀(i x y:Nat),r.reverse[i]?=Α x->(nv r.reverse)[i]?=Α y->x∈ks (L.getD y []):=by
 intro i x y b a
 have c:i<r.length:=by have:=(_L2.gQ0 b);rwa [Ò]at this
 unfold nv at a
 rcases ă (i+1) r.length with d|d
 ·rw[Ϛ (by rw[ø,Ò];lia),č,õ (by lia)]at a
  rw[õ c]at b
  exact h.nx (r.length - 1 - (1+i)) y x a (by rw[←b];congr 1;lia)
 ·have e:i=r.length - 1:=by lia
  rw[ä (by rw[ø,Ò];lia),ø,Ò]at a
  have f:i - (r.length - 1)=0:=by lia
  rw[f,RG,Θ (by lia),õ (by lia)]at a
  rw[õ c]at b
  refine h.cl y x ?_ ?_
  ·rw[Ť,←a];congr 1
  ·rw[NB,←b];congr 1;lia
end _Lk
namespace _L2
open PySem PySem.Spec PyProof.Rows
theorem v5{H:Hp}(h:H a=Β)(e:H b=Α o):a≠b:=λz=>by grind
section
theorem gi(a:s.heap.IsTupleIter it l i)
  (f:s.heap.IsTuple l items) (g:items[i]?=Α x)
  (h:∀d,d.IsTupleIter it l (i+1)->Ŗ it s.heap d->Q x {s with heap:=d}):
  Ϣ (ϣ prog w) A (Ê (.ref it)) Q E s:=by
 obtain⟨o,c,j,b⟩:=id a
 obtain⟨p,m,_,q,n⟩:=f
 unfold Ê
 refine Μ (í (name:=ś "__next__") a.typeIs Ï
  (ď Ï a.typeIs Ģ ?_ (ę _)))
 show Ϣ _ _ (field (.ref it) 0 >>=_) _ _ s
 refine Μ (Ø c b (x:=.ref l) Κ ?_)
 rw[Η (show ¬((Ç l == ý)=Γ) from Ϟ)]
 refine Μ (Ø c b (x:=.int i 0) Κ ?_)
 refine Μ (à m n ?_)
 simp only[Τ,g]
 refine Μ (fx c b (by simp) (Ϙ ⟨x,Κ,Ϙ (h _ ?_ (ľ ..))⟩))
 exact⟨_,ň _ c (OY (Š b _)),(Ua ..).trans j,by
  rw[Š b];simp[gg]⟩
theorem lI(g:A.handled=Β)
  (b:s.heap.IsTupleIter it l i) (j:s.heap.IsTuple l items) (n:items[i]?=Β)
  (p:∀c e,Ó.ExtBut it s.heap c->(∃o,c.get? e=Α o/\o.cls=.type "StopIteration")->E (.ref e) {s with heap:=c}):
  Ϣ (ϣ prog w) A (Ê (.ref it)) Q E s:=by
 obtain⟨o,d,t,f⟩:=id b
 obtain⟨u,q,_,v,r⟩:=j
 unfold Ê
 refine Μ (í (name:=ś "__next__") b.typeIs Ï
  (ď Ï b.typeIs Ģ ?_ (ę _)))
 show Ϣ _ _ (field (.ref it) 0 >>=_) _ _ s
 refine Μ (Ø d f (x:=.ref l) Κ ?_)
 rw[Η (show ¬((Ç l == ý)=Γ) from Ϟ)]
 refine Μ (Ø d f (x:=.int i 0) Κ ?_)
 refine Μ (à q r ?_)
 simp only[Τ,n]
 refine Μ (oe (Μ (fx d f (by simp) ?_)))
 refine Μ ?_
 simp only[newExc,newTuple]
 refine Μ (ā ?_ (by size_fits))
 refine Μ (m:=gn _ _) (U9 (a:=ý) (by first|rfl|(simp only[gn];rfl)) ?_)
 refine ā ?_ (by size_fits)
 simp only[raiseNew]
 refine Μ (wpAny_handled ?_)
 first|rw[show A.in1.handled=Β from g]|rw[g]
 refine Μ (Ϙ (wpAny_throw ?_))
 exact p _ _ (((ľ ..).extBut.push _).push _) ⟨_,ό _ Κ,Κ⟩
theorem kO{z TI TO g h p q:Ο}{Q:Φ->ύ->Prop}(D:v7 z TI TO g h p q)
  (r:et s.heap z TI TO .none) (QX:ĥ s.heap TI (.ref g) (.ref h)) (QY:ĥ s.heap TO a b)
  (h1:s.heap.IsTupleIter g p k1) (h2:s.heap.IsListIter h q k2) (JL:s.heap.IsTuple p xs) (J5:s.heap.IsList q ys) (hx:xs[k1]?=Α x) (hy:ys[k2]?=Α y)
  (hQ:∀i,et i z TI TO (gg s.heap.objs.size)->ĥ i TO x y->i.IsTupleIter g p (k1+1)->i.IsListIter h q (k2+1)->ĥ i s.heap.objs.size x y->i.objs.size=s.heap.objs.size+1->
   (∀c o,c≠z->c≠TO->c≠g->c≠h->s.heap.get? c=Α o->i.get? c=Α o)->Q (.ref s.heap.objs.size) {s with heap:=i}):
  Ϣ (ϣ prog w) A (Builtin.«zip.__next__» ⟨[.ref z],[]⟩) (λfin s'=>∃v,fin=.done (.ret v)/\Q v s') E s:=by
 show Ϣ _ _ (field (.ref z) 2 >>=_) _ _ _
 refine Μ (Ø r Κ (x:=.bool Δ) Κ ?_)
 refine Μ (Ø r Κ (x:=.ref TI) Κ ?_)
 refine Μ (à QX Κ ?_)
 refine Μ ?_
 unfold Ţ
 refine Μ (Ø r Κ (x:=.none) Κ (Ϙ ?_))
 simp only[if_true]
 refine Μ (oe ?_)
 refine Μ (Ø r Κ (x:=.ref TO) Κ ?_)
 refine Μ (Ė r (by simp) λt N j=>?_)
 replace N:et t z TI TO .ellipsis:=N
 refine Μ ?_
 simp only[List.zipIdx_cons,List.zipIdx_nil,O7,Y8]
 refine Μ (Μ (n7 ?_))
 refine Μ (gi (h1.extBut j.extBut D.i1z) (JL.extBut j.extBut D.l1z) hx λu Qb m=>Ϙ ?_)
 have Kr:=m.extBut _ _ D.TOi1 (j.extBut _ _ D.TOz QY)
 refine Μ (à Kr Κ ?_)
 refine Μ (fe Kr λB O n=>?_)
 replace O:ĥ B TO x b:=O
 refine Μ (JR (Ϙ ?_))
 refine Μ (Μ (n7 ?_))
 refine Μ (wpAny_nextOf_list_item (((h2.extBut j.extBut D.i2z).extBut m.extBut D.i12.symm).extBut n.extBut D.TOi2.symm)
  (((J5.extBut j.extBut D.l2z).extBut m.extBut D.l2i1).extBut n.extBut D.l2TO) hy λC Uh F=>Ϙ ?_)
 have NK:=F.extBut _ _ D.TOi2 O
 refine Μ (à NK Κ ?_)
 refine Μ (fe NK λd G H=>?_)
 replace G:ĥ d TO x y:=G
 refine Μ (JR (Ϙ (Ϙ ?_)))
 refine Μ (à G Κ ?_)
 refine Μ (wpAny_newTuple ?_)
 have I:d.objs.size=s.heap.objs.size:=by rw[H.1,F.1,n.1,m.1,j.1]
 have Qc:=H.extBut _ _ D.TOz.symm (F.extBut _ _ D.i2z.symm (n.extBut _ _ D.TOz.symm (m.extBut _ _ D.i1z.symm N)))
 have Ui:∀c o,c≠z->c≠TO->c≠g->c≠h->s.heap.get? c=Α o->d.get? c=Α o:=λc o l L P R e =>
  H.extBut _ _ L (F.extBut _ _ R (n.extBut _ _ L (m.extBut _ _ P (j.extBut _ _ l e))))
 have Qd:=((Qb.extBut n.extBut D.TOi1.symm).extBut F.extBut D.i12).extBut H.extBut D.TOi1.symm
 have Qe:=Uh.extBut H.extBut D.TOi2.symm
 have Uj:=lt_size Qc
 have S:=lt_size G
 have T:g<d.objs.size:=by obtain⟨_,e,_⟩:=Qd;exact lt_size e
 have U:h<d.objs.size:=by obtain⟨_,e,_⟩:=Qe;exact lt_size e
 refine Μ ?_
 unfold Builtin.SmallTypes.ownedTupleHandOut
 have Uk:et (d.push {cls:=.type "tuple",data:=.seq #[x,y]}) z TI TO .ellipsis:=Ν _ Qc
 refine Μ (Ė Uk (by simp) λJ X Y=>?_)
 replace X:et J z TI TO (gg d.objs.size):=X
 refine Ė X (by simp) λf M Z=>?_
 replace M:et f z TI TO (gg d.objs.size):=M
 have up:∀c o,c≠z->d.get? c=Α o->f.get? c=Α o:=λc o l e=>Z.extBut _ _ l (Y.extBut _ _ l (Ν _ e))
 have Qf:=Z.extBut _ _ (ű Uj) (Y.extBut _ _ (ű Uj) (ό _ Κ))
 have K:f.objs.size=d.objs.size+1:=by rw[Z.1,Y.1,size_push]
 rw[I]at M Qf K
 refine Ϙ ⟨_,Κ,?_⟩
 rw[I]
 exact hQ f M (up _ _ D.TOz G) (Qd.at λo e=>up _ o D.i1z e) (Qe.at λo e=>up _ o D.i2z e) Qf K λc o l L P R e=>up c o l (Ui c o l L P R e)
theorem mQ{z TI TO n p B C:Ο}(J:A.handled=Β)(D:v7 z TI TO n p B C)
  (q:et s.heap z TI TO .none) (T:ĥ s.heap TI (.ref n) (.ref p)) (U:ĥ s.heap TO a b)
  (K:s.heap.IsTupleIter n B k1) (X:s.heap.IsListIter p C k2) (L:s.heap.IsTuple B xs) (Y:s.heap.IsList C ys) (IW:xs[k1]?=Β∨ys[k2]?=Β)
  (M:∀F e,(∀c o,c≠z->c≠TO->c≠n->c≠p->s.heap.get? c=Α o->F.get? c=Α o)->(∃o,F.get? e=Α o/\o.cls=.type "StopIteration")->E (.ref e) {s with heap:=F}):
  Ϣ (ϣ prog w) A (Builtin.«zip.__next__» ⟨[.ref z],[]⟩) Q E s:=by
 show Ϣ _ _ (field (.ref z) 2 >>=_) _ _ _
 refine Μ (Ø q Κ (x:=.bool Δ) Κ ?_)
 refine Μ (Ø q Κ (x:=.ref TI) Κ ?_)
 refine Μ (à T Κ ?_)
 refine Μ ?_
 unfold Ţ
 refine Μ (Ø q Κ (x:=.none) Κ (Ϙ ?_))
 simp only[if_true]
 refine Μ (oe ?_)
 refine Μ (Ø q Κ (x:=.ref TO) Κ ?_)
 refine Μ (Ė q (by simp) λr y f=>?_)
 replace y:et r z TI TO .ellipsis:=y
 refine Μ ?_
 simp only[List.zipIdx_cons,List.zipIdx_nil,O7,Y8]
 refine Μ (Μ (n7 ?_))
 cases O:xs[k1]? with
 | none =>
  refine Μ (lI J (K.extBut f.extBut D.i1z) (L.extBut f.extBut D.l1z) O λd e g G=>?_)
  obtain⟨H,i,j⟩:=G
  have Z:=g _ _ D.i1z.symm y
  have l:e≠z:=λx=>by grind
  refine Ė Z (by simp) λh _ m=>M h e (λc o t _ I _ x=>m.extBut _ _ t (g _ _ I (f.extBut _ _ t x))) ⟨H,m.extBut _ _ l i,j⟩
 | some x =>
  have hy:ys[k2]?=Β:=by grind
  refine Μ (gi (K.extBut f.extBut D.i1z) (L.extBut f.extBut D.l1z) O λd Qb g=>Ϙ ?_)
  have P:=g.extBut _ _ D.TOi1 (f.extBut _ _ D.TOz U)
  refine Μ (à P Κ ?_)
  refine Μ (fe P λh KZ m=>?_)
  refine Μ (JR (Ϙ ?_))
  refine Μ (Μ (n7 ?_))
  refine Μ (wpAny_nextOf_list_end J (((X.extBut f.extBut D.i2z).extBut g.extBut D.i12.symm).extBut m.extBut D.TOi2.symm)
   (((Y.extBut f.extBut D.l2z).extBut g.extBut D.l2i1).extBut m.extBut D.l2TO) hy λu e R G=>?_)
  obtain⟨H,i,j⟩:=G
  have Um:=R _ _ D.i2z.symm (m.extBut _ _ D.TOz.symm (g.extBut _ _ D.i1z.symm y))
  have l:e≠z:=λx=>by grind
  refine Ė Um (by simp) λv _ S=>M v e (λc o t c2 I c4 x=>S.extBut _ _ t (R _ _ c4 (m.extBut _ _ c2 (g.extBut _ _ I (f.extBut _ _ t x))))) ⟨H,S.extBut _ _ l i,j⟩
theorem jD{z TI TO e f g h:Ο}(D:v7 z TI TO e f g h)
  (i:et s.heap z TI TO .none) (m:ĥ s.heap TI (.ref e) (.ref f)) (n:ĥ s.heap TO a b)
  (p:s.heap.IsTupleIter e g k1) (q:s.heap.IsListIter f h k2) (r:s.heap.IsTuple g xs) (t:s.heap.IsList h ys) (u:xs[k1]?=Α x) (v:ys[k2]?=Α y)
  (B:∀d,et d z TI TO (gg s.heap.objs.size)->ĥ d TO x y->d.IsTupleIter e g (k1+1)->d.IsListIter f h (k2+1)->ĥ d s.heap.objs.size x y->d.objs.size=s.heap.objs.size+1->
   (∀c o,c≠z->c≠TO->c≠e->c≠f->s.heap.get? c=Α o->d.get? c=Α o)->Q (Α (.ref s.heap.objs.size)) {s with heap:=d}):
  Ϣ (ϣ prog w) A (pyNext (.ref z)) Q E s:=by
 have l:s.TypeIs (.ref z) "zip":=⟨_,i,Κ⟩
 unfold pyNext
 exact Μ (wpAny_attempt (í (name:=ś "__next__") l ž
  (ď ž l F.entry_zip_next
   (kO D i m n p q r t u v λd C G H I J K L=>Ϙ (B d C G H I J K L)) (Wx _))))
theorem kj{z TI TO d f g h:Ο}(n:A.handled=Β)(D:v7 z TI TO d f g h)
  (j:et s.heap z TI TO .none) (p:ĥ s.heap TI (.ref d) (.ref f)) (q:ĥ s.heap TO a b)
  (r:s.heap.IsTupleIter d g k1) (t:s.heap.IsListIter f h k2) (u:s.heap.IsTuple g xs) (v:s.heap.IsList h ys) (x:xs[k1]?=Β∨ys[k2]?=Β)
  (y:∀i,(∀c o,c≠z->c≠TO->c≠d->c≠f->s.heap.get? c=Α o->i.get? c=Α o)->Q Β {s with heap:=i}):Ϣ (ϣ prog w) A (pyNext (.ref z)) Q E s:=by
 have m:s.TypeIs (.ref z) "zip":=⟨_,j,Κ⟩
 unfold pyNext
 refine Μ (wpAny_attempt (í (name:=ś "__next__") m ž
  (ď ž m F.entry_zip_next (mQ n D j p q r t u v x λi e B C=>?_) (Wx _))))
 obtain⟨o,G,H⟩:=C
 refine Μ (Ia (T:="StopIteration") (b:=Γ) ⟨o,G,H⟩ isSubtype_stop ?_)
 exact Ϙ (y _ B)
end
abbrev uB(h:Ó)(l1:Ο):Ó:=h.push {cls:=.type "tuple_iterator",data:=.fields #[.ref l1,.int 0 0]}
abbrev uA(h:Ó)(l1 l2:Ο):Ó:=(uB h l1).push {cls:=.type "list_iterator",data:=.fields #[.ref l2,.int 0 0]}
abbrev u9(h:Ó)(l1 l2:Ο):Ó:=(uA h l1 l2).push {cls:=.type "tuple",data:=.seq #[.ref h.objs.size,.ref (uB h l1).objs.size]}
abbrev u8(h:Ó)(l1 l2:Ο):Ó:=(u9 h l1 l2).push {cls:=.type "tuple",data:=.seq #[.none,.none]}
abbrev kQ(h:Ó)(l1 l2:Ο):Ó:=(u8 h l1 l2).push {cls:=.type "zip",data:=.fields #[.none,.bool Δ,.bool Δ,.ref (uA h l1 l2).objs.size,.ref (u9 h l1 l2).objs.size]}
theorem lR(a b:Ο)(xs c:Array Φ):
  Meets (Builtin.«zip.__new__» ⟨[.type "zip",.ref a,.ref b],[]⟩) (λ_ R s=>s.heap.IsTuple a xs/\s.heap.IsList b c/\
   R (.ok (.ret (.ref (u8 s.heap a b).objs.size))) {s with heap:=kQ s.heap a b}):=
 .of_wp λf w A R s h=>by
  obtain⟨i,g,d,j,l⟩:=s;obtain⟨m,n,h⟩:=h
  have q:=sub_zip
  have o:=m
  have p:Ó.IsList (ύ.heap ⟨i.push {cls:=.type "tuple_iterator",data:=.fields #[.ref a,.int 0 0]},g,d,j,l⟩) b c:=Ó.IsList.push n _
  wp_walk using ė o,rk p
  exact⟨_,Κ,h⟩
section
variable {prog:Program}{w:Å}{A:ó}{E:Φ->ύ->Prop}{s:ύ}
theorem uh(p:s.heap.IsTuple l1 xs)(q:s.heap.IsList l2 ys)
  (h:∀a,et a (s.heap.objs.size+4) (s.heap.objs.size+2) (s.heap.objs.size+3) .none->ĥ a (s.heap.objs.size+2) (.ref s.heap.objs.size) (.ref (s.heap.objs.size+1))->
   ĥ a (s.heap.objs.size+3) .none .none->a.IsTupleIter s.heap.objs.size l1 0->a.IsListIter (s.heap.objs.size+1) l2 0->a.objs.size=s.heap.objs.size+5->
   (∀c o,s.heap.get? c=Α o->a.get? c=Α o)->Q (.ref (s.heap.objs.size+4)) {s with heap:=a}):
  Ϣ (ϣ prog w) A (call (.type "zip") [.ref l1,.ref l2]) Q E s:=by
 refine callType_new F.called_zip (by decide) (F.typeCall_zip_2 _ _) (F.newCall_zip_2 _ _) (λb=>F.args_object_init_3 b _ _) F.entry_zip_new
  (lR l1 l2 xs ys) ⟨p,q,?_⟩
 have d:(uB s.heap l1).objs.size=s.heap.objs.size+1:=size_push ..
 have e:(uA s.heap l1 l2).objs.size=s.heap.objs.size+2:=by rw[size_push,d]
 have f:(u9 s.heap l1 l2).objs.size=s.heap.objs.size+3:=by rw[size_push,e]
 have g:(u8 s.heap l1 l2).objs.size=s.heap.objs.size+4:=by rw[size_push,f]
 have r:(kQ s.heap l1 l2).objs.size=s.heap.objs.size+5:=by rw[size_push,g]
 have i:(kQ s.heap l1 l2).get? (u8 s.heap l1 l2).objs.size=Α _:=ό _ Κ
 have l:(kQ s.heap l1 l2).get? (u9 s.heap l1 l2).objs.size=Α _:=Ν _ (ό _ Κ)
 have m:(kQ s.heap l1 l2).get? (uA s.heap l1 l2).objs.size=Α _:=Ν _ (Ν _ (ό _ Κ))
 have n:(kQ s.heap l1 l2).get? (uB s.heap l1).objs.size=Α _:=Ν _ (Ν _ (Ν _ (ό _ Κ)))
 have t:(kQ s.heap l1 l2).get? s.heap.objs.size=Α _:=Ν _ (Ν _ (Ν _ (Ν _ (ό _ Κ))))
 rw[e,f,g]at i
 rw[d,e]at m
 rw[f]at l
 rw[d]at n
 rw[g]
 exact⟨⟨_,i,Κ⟩,h _ i m l ⟨_,t,Κ,Κ⟩ ⟨_,n,Κ,Κ⟩ r λc o x =>
  Ν _ (Ν _ (Ν _ (Ν _ (Ν _ x))))⟩
end
noncomputable def B3(K:ϧ)(a b:Ο):It:=
 ⟨λi H=>∃xs ys x y,H a=Α (.tup xs)/\HC K H b ys/\xs[i]?=Α x/\ys[i]?=Α y,
  λi H v H'=>∃p,H p=Β/\v=.ref p/\∀xs ys,H a=Α (.tup xs)->HC K H b ys->∃x y,xs[i]?=Α x/\ys[i]?=Α y/\H'=ο H p (.tup [x,y]),
  λi H=>∃xs ys,H a=Α (.tup xs)/\HC K H b ys/\(xs[i]?=Β∨ys[i]?=Β)⟩
def Bp(z ti to i1 i2 a b:Ο)(i:Nat)(h:Ó):Prop:=et h z ti to .none/\ĥ h ti (.ref i1) (.ref i2)/\(∃x y,ĥ h to x y)/\h.IsTupleIter i1 a i/\h.IsListIter i2 b i
theorem kP(t:Bp z ti to i1 i2 a b i h)(E:ti≠to)(F:i1≠i2)(G:a≠to)(H:h.IsTuple a xs)(I:h.IsList b ys):v7 z ti to i1 i2 a b:=by
 obtain⟨d,C,⟨x,y,w⟩,⟨J,j,l,K⟩,L,r,v,M⟩:=t
 obtain⟨N,D,ca,O⟩:=H
 obtain⟨P,A,B,Q⟩:=I
 have c:∀{p q:Ο}{o u:Obj}{s t:String},h.get? p=Α o->h.get? q=Α u->o.cls=.type s->u.cls=.type t->s≠t->p≠q:=λe f g k n m=>by
  grind
 exact⟨c C d Κ Κ (by decide),c w d Κ Κ (by decide),c j d l Κ (by decide),c r d v Κ (by decide),E,c C j Κ l (by decide),c C r Κ v (by decide),c w j Κ l (by decide),c w r Κ v (by decide),F,
  c D d ca Κ (by decide),G,c D j ca l (by decide),c D r ca v (by decide),c A d B Κ (by decide),c A w B Κ (by decide),c A j B l (by decide),c A r B v (by decide)⟩
theorem w6{K:ϧ}(a b z j to l m:Ο)(S:j≠to)(T:l≠m):mY P w K (.Tuple elts kk pos) (B3 K a b) [z,j,to,l,m] z (Bp z j to l m a b) where
 mem:=by simp
 obj:=λi h st c n=>by
  obtain⟨f,g,⟨x,y,p⟩,⟨o1,e1,c1,d1⟩,o2,e2,c2,d2⟩:=st
  have N6:c=z∨c=j∨c=to∨c=l∨c=m:=by simpa using n
  grind
 keep:=λi h h' st k=>by
  obtain⟨f,g,⟨x,y,p⟩,r,t⟩:=st
  exact⟨k z (by simp) _ f,k j (by simp) _ g,⟨x,y,k to (by simp) _ p⟩,r.at λo q=>k l (by simp) o q,t.at λo q=>k m (by simp) o q⟩
 item:=by
  intro X J L M n i d s U H E I u st N
  subst J L M
  obtain⟨xs,ys,x,y,v,G,hx,Y⟩:=N
  obtain⟨Z,O,B,Qa⟩:=I.tuple (HF.of v)
  obtain⟨Ji,Q,C,QW⟩:=I.list G
  obtain⟨u1,L9,ZV⟩:=O.get hx
  obtain⟨u2,Ud,ZW⟩:=Q.get Y
  have A:=kP st S T (ϗ (v5 (u to (by simp)).1 v)) B C.isList
  obtain⟨f,g,⟨v1,v2,p⟩,r,t⟩:=st
  refine jD A f g p r t B C.isList (x:=u1) (y:=u2) (by grind) (by grind) λh' a1 a2 a3 a4 a5 a6 hk=>⟨_,Κ,?_⟩
  refine OT a1 λR b1 b2=>?_
  have HS:∀c o,s.heap.get? c=Α o->c≠s.heap.objs.size:=λc o q=>ϳ (lt_size q)
  have nz:=ϗ (HS _ _ f)
  have D:∀c o,c≠z->h'.get? c=Α o->R.get? c=Α o:=λc o q e=>(b2.2 c q).trans e
  have I2:ς X d U (ο H s.heap.objs.size (.tup [x,y])) {s with heap:=R}:=by
   refine ς.NG (s:=s) (h':=R) (t':=s.toks) (us:=[u1,u2]) I u (Ξ _) (λc o hn q=>?_) (by show 2<=Χ;decide) (.cons ZV (.cons ZW .nil)) ⟨_,D _ _ nz a5,⟨Κ,_,Κ⟩,Κ⟩
   grind
  refine⟨.ref s.heap.objs.size,_,I2,Κ,⟨_,I.HK.fresh (Ξ _),Κ,λzs ws g1 g2=>⟨x,y,by grind,by rw[I.Jn g2 G];exact Y,Κ⟩⟩,⟨b1,D _ _ A.TIz (hk _ _ A.TIz A.TITO A.TIi1 A.TIi2 g),⟨_,_,D _ _ A.TOz a2⟩,a3.at λo q=>D _ o A.i1z q,a4.at λo q=>D _ o A.i2z q⟩,λc n=>?_⟩
  have hl:c≠s.heap.objs.size:=by
   have N6:c=z∨c=j∨c=to∨c=l∨c=m:=by grind
   obtain⟨o1,e1,_⟩:=r
   obtain⟨o2,e2,_⟩:=t
   grind
  rw[aj hl]
  exact(u c n).1
 done:=by
  intro X J L M n i d s U H E I u st N
  subst J L M
  obtain⟨xs,ys,v,G,IW⟩:=N
  obtain⟨Z,O,B,Qa⟩:=I.tuple (HF.of v)
  obtain⟨Ji,Q,C,QW⟩:=I.list G
  have A:=kP st S T (ϗ (v5 (u to (by simp)).1 v)) B C.isList
  obtain⟨f,g,⟨v1,v2,p⟩,r,t⟩:=st
  have he:Z.toArray[i]?=Β∨Ji.toArray[i]?=Β:=by
   rcases IW with q|q
   ·exact .inl (by simpa using O.none_of q)
   ·exact .inr (by simpa using Q.none_of q)
  refine kj (I.ok.hd n) A f g p r t B C.isList he λh' hk=>⟨Κ,?_⟩
  refine I.M9 (t':=s.toks) u λc o hn q=>?_
  grind
 self:=λ_ _ _ _ _ st h=>Ż st.1 h
section
inductive Ubb(K:ϧ)(R:It->Hp->Prop)(vs:List V)(H1:Hp):Prop
 |mk (a b)(_:vs=[.ref a,.ref b])(_:(∃xs,H1 a=Α (.tup xs)))(_:(∃ys,HC K H1 b ys))(_:R (B3 K a b) H1)
def Uo(K:ϧ)(t:TA):TI:=λσ H R=>t σ H λvs H1=>Ubb K R vs H1
theorem Cr(n:Gl X "zip")(o:X.mg "zip"=Β)(r:PA X [e1,e2] t)(w:autoParam (ϟ [e1,e2] X.env=(Δ,eval e1 X.env):: ϟ [e2] X.env) η)(y:autoParam (((î pos (ϟ [e2] X.env)).any λx=>x.fst)=Δ) η):PI X (.Tuple elts kk Kn) (.Call (.Name "zip" p) [e1,e2] [] pos) (Uo X.K t):=by
 intro b s i H R I h
 refine Ks (dj I n o (show Ă "zip"=Α (.type "zip") by decide +kernel) (ϭ (aY (r pos b s i H _ I h) λus a z=>?_) w y))
 obtain⟨Y,j,d,A,B⟩:=z
 obtain⟨C,D,e,⟨xs,E⟩,⟨Z,F⟩,q⟩:=B
 subst e
 obtain⟨u,v,rfl,G,J⟩:=A.two
 cases G
 cases J
 obtain⟨LX,OU,L,Qa⟩:=d.tuple (HF.of E)
 obtain⟨Ji,OV,M,QW⟩:=d.list F
 refine uh L M.isList λl m N O P Q a6 S=>?_
 have T:=d.kept (t':=a.toks) S
 refine Ż (s:={a with heap:=l}) m ?_
 refine⟨_,_,_,_,j,Κ,T,w6 C D _ (a.heap.objs.size+2) (a.heap.objs.size+3) a.heap.objs.size (a.heap.objs.size+1) (ϳ (ê _)) (ϳ (ê _)),⟨m,N,⟨_,_,O⟩,P,Q⟩,λc U=>?_,q⟩
 have g:a.heap.objs.size<=c:=by
  have N6:c=a.heap.objs.size+4∨c=a.heap.objs.size+2∨c=a.heap.objs.size+3∨c=a.heap.objs.size∨c=a.heap.objs.size+1:=by simpa using U
  grind
 exact d.Lz g (d.HK.fresh g)
end
theorem jQ{a:List Int}(b:a.Nodup):∀i,i<=a.length->(Oz (λi=>a.getD i 0) i).length=i
 |0,_=>rfl
 | i+1,h=>by
  rw[firstMet_succ,step_length,firstMet_any,jQ b i (by lia),Η]
  intro z
  obtain⟨y,d,e⟩:=List.any_eq_true.mp z
  obtain⟨j,c,rfl⟩:=Â.mp d
  have c:=Ϩ.mp c
  have e:a.getD j 0=a.getD i 0:=by simpa using e
  rw[Ω,Ω,Λ (by lia),Λ (by lia)]at e
  have:=(Ŝ b).mp e
  lia
section
variable {prog:Program}{w:Å}{A:ó}{E:Φ->ύ->Prop}{s:ύ}
theorem BP(hh:A.handled=Β)(M:s.heap.IsTuple l items)(hi:b6 items.toList ns)(n:items.size+1<QR)
  (h:∀(f:Ó)(p:Nat),f.SetOf (Nj prog w) s.heap.objs.size (λk'=>(Oz (λi=>ns.getD i 0) items.size).any (· == k')) (Oz (λi=>ns.getD i 0) items.size).length->
   (∀b o,b<s.heap.objs.size->s.heap.get? b=Α o->f.get? b=Α o)->Q (.ref s.heap.objs.size) {s with heap:=f,toks:=p}):Ϣ (ϣ prog w) A (call (.type "set") [.ref l]) Q E s:=by
 obtain⟨c,tl,hmro⟩:=Ĩ.mro
 have hmade:=Ĩ.made
 have TB:=Ĩ.sub
 refine W5 (codeAny_of_tree ?_)
 refine Ϙ ⟨XC.quiet_builtin _ (by decide +kernel),en F.entry_type_call ?_⟩
 rw[ó.under_plain (weight_type_call_type "set" [.ref l] []) Κ]
 have h1:=Ĩ.notType
 have h2:=Ĩ.canCreate
 have hct:=F.typeCall_set_1 (.ref l)
 repeat (any_goals (first|assumption|wp_step))
 refine ŧ (code_set_new_1 (.ref l) (E:=E) (Q₁:=λobj s1=>∃led:Bool,obj=.ref s.heap.objs.size/\s1={s with heap:=s.heap.push {cls:=.type "set",dict:=Β,data:=.set #[] 0 (.fresh 0 0 led)}}) λled=>⟨led,Κ,Κ⟩) λr s1 hr=>?_
 cases r with
 |error e=>exact hr
 | ok fl =>
  cases fl with
  | ret obj =>
   obtain⟨led,rfl,rfl⟩:=hr
   generalize hH:s.heap.push {cls:=.type "set",dict:=Β,data:=.set #[] 0 (.fresh 0 0 led)}=H1
   have hS:=hH▸ό _ Κ
   have hT:ύ.TypeIs {s with heap:=H1} (.ref s.heap.objs.size) "set":=⟨_,hS,Κ⟩
   have Lv:=Ĩ.init.lookup
   have hbi:=Ĩ.init.bind (.ref s.heap.objs.size)
   have kp1:∀b o,s.heap.get? b=Α o->H1.get? b=Α o:=λb o e=>hH▸Ν _ e
   have QZ:H1.objs.size=s.heap.objs.size+1:=by rw[←hH,size_push]
   repeat (any_goals (first|assumption|wp_step))
   refine ŧ (codeAny_call_builtin (R:=wants (λr s2=>r=.none/\∃f p,s2={s with heap:=f,toks:=p}/\f.SetOf (Nj prog w) s.heap.objs.size (λk'=>(Oz (λi=>ns.getD i 0) items.size).any (· == k')) (Oz (λi=>ns.getD i 0) items.size).length/\
     (∀b o,b<s.heap.objs.size->s.heap.get? b=Α o->f.get? b=Α o)) E) Ĩ.init.plain F.entry_set_init (check_set_init_1 hT ?_)) λr2 s2 Ra=>?_
   ·have JL:=M.at λo e=>kp1 l o e
    obtain⟨ol,M6,Nn,nl,Lu⟩:=id JL
    have XF:l<s.heap.objs.size:=by obtain⟨o,e,_⟩:=M;exact lt_size e
    obtain⟨ocls,odict,odata,oslots⟩:=ol
    simp only at Nn Lu
    subst Nn;subst Lu
    have hsls:=F.sub_tuple_set
    have hslf:=F.sub_tuple_frozenset
    have Ij:(wd "tuple"== wd "dict")=Δ:=by decide
    unfold Builtin.«set.__init__» noKeywords Builtin.Frozenset.updateFrom
    generalize hPI:pyIter=PI
    wp_walk
    subst hPI
    refine ė JL (Μ (wpAny_runValue ?_))
    have hneI:l≠H1.objs.size:=by rw[QZ];exact ϳ (Ř XF)
    have hSf:s.heap.objs.size∉[H1.objs.size,l]:=by
     rw[QZ];simp only[À,Ñ,or_false,not_or]
     exact⟨ϳ (ê _),ű XF⟩
    refine codeAny_set_update_loopS ((Walks.tuple (by simp[hh]) _ l hneI items).toS) s.heap.objs.size hSf (λi=>ns.getD i 0) (λi v hv=>b6.int_at hi i v (by rw[Array.getElem?_toList];exact hv)) n (items.size - 0) 0 _ Κ (ϡ _)
     ⟨⟨_,ό _ Κ,Κ,Κ⟩,JL.push _⟩ (SetOf_congr ((setObjOf_fresh (knd:=Nj prog w) led).setOf (Ν _ hS) (by unfold QR;omega)) (λ_=>rfl) Κ) λs' hm NJ=>?_
    obtain⟨f,g',d',Ub,QG⟩:=s'
    have eg:g'=s.gens:=hm.gens
    have ed:d'=s.drawn:=hm.drawn
    have eo:QG=s.os:=hm.os
    subst eg;subst ed;subst eo
    show Ϣ _ _ _ _ _ _
    refine Ϙ ?_
    show Ϣ _ _ (ret ý) _ _ _
    refine Ϙ ⟨Κ,f,Ub,Κ,NJ,λb o n e=>?_⟩
    refine hm.heap b o ?_ (Ν _ (kp1 b o e))
    simp only[À,Ñ,or_false,not_or]
    exact⟨ϳ n,by rw[QZ];exact ϳ (Ř n)⟩
   ·cases r2 with
    |error e=>exact Ra
    | ok fl2 =>
     cases fl2 with
     | ret r =>
      obtain⟨rfl,f,p,rfl,NJ,Rb⟩:=Ra
      repeat (any_goals (first|assumption|wp_step))
      exact h _ _ NJ Rb
     |_=>exact Ra.elim
  |_=>exact hr.elim
end
noncomputable def Ic(P:Program)(w:Å)(p:Ο)(n:Nat):HO:=.ext λh=>∃S,h.SetOf (Nj P w) p S n
theorem vf(x:h.SetOf (Nj P w) p S n):Ig P w H h p (Ic P w p n):=
 ⟨⟨S,x⟩,by obtain⟨o,_,_,_,a,_⟩:=x;grind,λd e ⟨S,o,b,c,t,a,r⟩ k=>⟨S,o,b,c,t,k _ a,r⟩⟩
section
theorem x5(g:X.calm=Γ):c5 X (.type "set") (λxs H Q=>∃(p:Ο)(a:List Int),xs=[.ref p]/\HC X.K H p (a.map V.int)/\a.Nodup/\a.length<64/\∀q,H q=Β->Q (.ref q) (ο H q (Ic X.prog X.w q a.length))):=by
 intro c s v H xs us Q I r h
 obtain⟨p,a,rfl,i,j,x,q⟩:=h
 obtain⟨u,rfl,l⟩:=i8 r
 cases l
 obtain⟨m,d,n,y⟩:=I.list i
 have e:m.toArray.size=a.length:=by have:=d.length;grind
 refine PySem.call_set_list (I.ok.hd g) n.isList (by simpa using fZ d) (by unfold QR;lia) λz A f t=>?_
 rw[e,jQ j _ (Ξ _)]at f
 exact⟨.ref s.heap.objs.size,_,I.laid (λb o e=>t b o (lt_size e) e) (Ξ _) (vf f),Κ,q _ (I.HK.fresh (Ξ _))⟩
theorem xz(g:X.calm=Γ):c5 X (.type "set") (λxs H Q=>∃(p:Ο)(a:List Int),xs=[.ref p]/\HF X.K H p (a.map V.int)/\a.Nodup/\a.length<64/\∀q,H q=Β->Q (.ref q) (ο H q (Ic X.prog X.w q a.length))):=by
 intro c s v H xs us Q I r h
 obtain⟨p,a,rfl,i,j,x,q⟩:=h
 obtain⟨u,rfl,l⟩:=i8 r
 cases l
 obtain⟨m,d,n,y⟩:=I.tuple i
 have e:m.toArray.size=a.length:=by have:=d.length;grind
 refine BP (I.ok.hd g) n (by simpa using fZ d) (by unfold QR;lia) λz A f t=>?_
 rw[e,jQ j _ (Ξ _)]at f
 exact⟨.ref s.heap.objs.size,_,I.laid (λb o e=>t b o (lt_size e) e) (Ξ _) (vf f),Κ,q _ (I.HK.fresh (Ξ _))⟩
theorem oq:c5 X (.builtin "len") (λxs H Q=>∃(p:Ο)(n:Nat),xs=[.ref p]/\H p=Α (Ic X.prog X.w p n)/\n<64/\Q (.int n) H):=by
 intro a s i H xs us Q I r h
 obtain⟨p,n,rfl,b,j,q⟩:=h
 obtain⟨u,rfl,c⟩:=i8 r
 cases c
 obtain⟨⟨S,o,l,m,t,d,ex,f,_,_,_,g,e⟩,_⟩:=I.HK p _ b
 refine call_len_set d ex f g (by lia) ?_
 rw[e]
 exact⟨.int n,H,I.tok _,⟨_,Κ⟩,q⟩
end
end _L2
namespace _L2
open PySem
theorem scI(a:autoParam (sc.kind=.function) η)(b:autoParam (sc.isCoroutine=Δ) η)(c:autoParam (sc.isGenerator=Δ) η)(d:autoParam (N.Nodup) ξ)(e:autoParam (N.take P.length=P) η)(f:autoParam (∀x∈P,sc.names.lookup x=Α .local∨sc.names.lookup x=Α .cell) ξ)(g:autoParam (∀y∈sc.names,y.2≠.free) ξ):aq N P sc:=⟨a,b,c,d,e,f,g⟩
theorem Jv(a:autoParam (scope.kind=.function) η)(b:autoParam (∀y∈scope.names,y.2≠.cell) ξ)(c:autoParam (∀y∈scope.names,y.2=.local->scope.names.lookup y.1=Α .local) ξ)(d:autoParam (∀y∈scope.names,y.2=.free->sc.names.lookup y.1=Α .cell∨sc.names.lookup y.1=Α .free) ξ)(e:autoParam (cap.length=capN.length) η)(f:autoParam (∀p∈capN.zip cap,scope.names.lookup p.1=Α .free/\N[p.2]?=Α p.1) ξ):IP N sc scope capN cap:=⟨a,b,c,d,e,f⟩
end _L2
namespace _L2
open PySem
theorem aW(n:Nat)(v:n<Χ)(W:Nat->List V->Hp->Prop)(p:W 0 [] H)(c:∀i acc a,W i acc a->acc.length<=i)
  (d:∀i acc a,i<n->W i acc a->J.go i a/\∀x f,J.Ni i a x f->g x σ0 f λh r=>tt h r λb j=>if b=Γ then te h j λy s=>W (i+1) (acc++[y]) s else W (i+1) acc j)
  (stop:∀acc a,W n acc a->J.stop n a/\∀D,a D=Β->Q (.ref D) (ο a D (.π acc))):dJ J g tt te σ0 Q H:=by
 refine⟨λi m acc a=>m=n - i/\i<=n/\W i acc a,⟨n,by simp,ϡ _,p⟩,?_⟩
 rintro i m acc a ⟨rfl,z,w⟩
 refine⟨by have:=c i acc a w;lia,?_⟩
 by_cases l:i<n
 ·obtain⟨t,q⟩:=d i acc a l w
  exact .inr ⟨t,λo f=>W (i+1) o f,λo f u=>⟨n - (i+1),by lia,Κ,l,u⟩,q⟩
 ·have e:i=n:=by lia
  subst e
  exact .inl (stop acc a w)
theorem Hz.new(h:Hz H H')(n:H' a=Β):Hz H (ο H' a o):=λb u e=>by rw[aj (ai (h _ _ e) n)];exact h _ _ e
end _L2
namespace _L2
open PySem PySem.Spec PyProof.Rows
section
inductive Ubc(K:ϧ)(Q:VK)(x:V)(H1:Hp):Prop
 |mk (k)(_:Hl K x H1 k)(_:Q (.bl (!k)) H1)
def VM(K:ϧ)(ta:TE):TE:=λσ H Q=>ta σ H λx H1=>Ubc K Q x H1
theorem Ct(j:PE X a ta):PE X (.UnaryOp .Not a pos) (VM X.K ta):=by
 intro c s g H Q I h
 refine UnaryOp_ (aY (j c s g H _ I h) λv l d=>?_)
 obtain⟨x,i,m,n,e⟩:=d
 obtain⟨k,t,e⟩:=e
 refine not_of (aY (xU c l g i x v (λb f=>b=k/\f=i) m n ⟨k,t,Κ,Κ⟩) λb r d=>?_)
 obtain⟨f,o,p,q⟩:=d
 subst p q
 exact⟨.bl (!b),f,o,Κ,e⟩
end
end _L2
namespace _L2
open PySem
theorem oj(p:Key->Bool)(f:Key->V)(r:kvs.length<Χ)(n:H a=Α (.Jm o (.dK kvs)))
  (s:∀(k:Key)(acc:List V)(N:List V->Hp->Prop),k∈kvs.map (·.1)->N (if p k then acc++[f k] else acc) H->g (kV k) σ0 H λc m=>tt c m λb j=>if b=Γ then te c j λy t=>N (acc++[y]) t else N acc j)
  (u:∀D,H D=Β->Q (.ref D) (ο H D (.π (((kvs.map (·.1)).filter p).map f)))):dJ (Sh a o kvs) g tt te σ0 Q H:=by
 refine aW kvs.length r (λi acc l=>l=H/\acc=(((kvs.map (·.1)).take i).filter p).map f) ⟨Κ,Κ⟩ (λi acc l h=>?_) ?_ ?_
 ·rw[h.2,Ρ]
  exact Í (ē _ _) (ü _ _)
 ·rintro i acc l v ⟨rfl,rfl⟩
  refine⟨⟨n,v⟩,λx m y=>?_⟩
  obtain⟨e,k,d,rfl⟩:=y
  subst e
  refine s k _ (λw j=>j=m/\w=(((kvs.map (·.1)).take (i+1)).filter p).map f) (Ψ d) ⟨Κ,?_⟩
  rw[Ì,d,Ĥ]
  cases q:p k with
  |true=>simp[q]
  |false=>simp[q]
 ·rintro acc l ⟨rfl,rfl⟩
  rw[Ħ (by rw[Ρ];exact Ξ _)]
  exact⟨⟨n,Κ⟩,u⟩
theorem qj(h:H a=Α u):ο (ο H a o) a u=H:=by
 rw[BA]
 funext b
 unfold ο
 grind
theorem qi(h:a≠b):ο (ο H a o) b u=ο (ο H b u) a o:=by
 funext c
 unfold ο
 grind
end _L2
namespace _L2
open PySem PySem.Spec PyProof.Rows
theorem AN{K:ϧ}{g:TG}{q:TS}{D:mK}(J:ys.length=xs.length)(d:Nat->St->Hp->Prop)(u:d 0 c H)(v:∀i c H,i<=xs.length->d i c H->H a=Α (.tup xs)/\HC K H b ys)
  (w:∀i x y p c H,xs[i]?=Α x->ys[i]?=Α y->d i c H->H p=Β->g (.ref p) c (ο H p (.tup [x,y])) λf l=>q {D with nx:=d (i+1),ct:=d (i+1),bk:=D.nx} f l) (A:∀c H,d xs.length c H->D.nx c H):
  ∃W:Nat->Nat->St->Hp->Prop,(∃m,W 0 m c H)/\∀i m c H,W i m c H->
   ((B3 K a b).stop i H/\D.nx c H)∨((B3 K a b).go i H/\∃N:St->Hp->Prop,(∀h j,N h j->∃r,r<m/\W (i+1) r h j)/\∀x j,(B3 K a b).Ni i H x j->g x c j λf l=>q {D with nx:=N,ct:=N,bk:=D.nx} f l):=by
 refine⟨λi m c H=>m=xs.length - i/\i<=xs.length/\d i c H,⟨xs.length,by simp,ϡ _,u⟩,?_⟩
 rintro i m c H ⟨rfl,B,p⟩
 obtain⟨n,o⟩:=v i c H B p
 by_cases s:i<xs.length
 ·have C:i<ys.length:=by lia
  refine .inr ⟨⟨xs,ys,xs[i],ys[i],n,o,by simp[s],by simp[C]⟩,d (i+1),λh j E=>⟨xs.length - (i+1),by lia,Κ,s,E⟩,λx j y=>?_⟩
  obtain⟨t,F,rfl,y⟩:=y
  obtain⟨x,G,ex,I,rfl⟩:=y _ _ n o
  exact w i x G t c _ ex I p F
 ·have e:i=xs.length:=by lia
  subst e
  exact .inl ⟨⟨xs,ys,n,o,.inl (Ë (Ξ _))⟩,A c H p⟩
end _L2
namespace _L2
open PySem PySem.Spec
theorem HB.ex{e:Type}{d:e->Sp}(h:∀i,HB P w K mg μ CX k f fd ps (d i)):HB P w K mg μ CX k f fd ps (λb H Q E=>∃i,d i b H Q E):=
 ⟨λb H Q E c=>by obtain⟨i,q⟩:=c;exact(h i).len b H Q E q,λA a s H args us b Q E g j l m c=>by obtain⟨i,n⟩:=c;exact(h i).run A a s H args us b Q E g j l m n⟩
end _L2
namespace _K
open PySem _L2
abbrev IPs:=List (Int×Int)
abbrev eC:List Str:=["self","lane"]
abbrev gj:List Str:=["self"]
abbrev kn:List Str:=["self","place","goal","came"]
abbrev pZ:List Str:=["table","lane","goal"]
abbrev si:List Str:=["table"]
abbrev ww:List Str:=["self","place"]
abbrev uq:List Str:=["value"]
abbrev xG:List Str:=["self","land"]
abbrev xL:List Str:=["leads","numbers"]
abbrev kr:List Str:=["self","move"]
abbrev kq:List Str:=["self","table","rooms"]
abbrev ko:List Str:=["value","least","most"]
abbrev qc:List Str:=["self","number"]
abbrev sw:List Str:=["_law_script"]
abbrev qb:List Str:=["table","goal"]
abbrev su:List Str:=["_law_table_here","_law_ring_here"]
abbrev qa:List Str:=["numbers"]
abbrev sr:List Str:=["table","sets"]
abbrev so:List Str:=["self","room"]
abbrev sm:List Str:=["self","start","goal","length","word"]
abbrev uz:List Str:=["_law_table_here","_law_cell"]
abbrev uy:List Str:=["_law_script","_law_k"]
abbrev ux:List Str:=["_law_cell","_law_k"]
abbrev uw:List Str:=["land","far","place"]
abbrev uv:List Str:=["value","numbers"]
abbrev uu:List Str:=["some","number"]
abbrev ut:List Str:=["self","letter","count"]
abbrev ur:List Str:=["land","rooms"]
abbrev Bx:List Str:=["self","places","lanes"]
abbrev Bw:List Str:=["self","land","rows"]
abbrev Bv:List Str:=["numbers","sets","lane","goal","way"]
abbrev Bu:List Str:=["places","one","other"]
abbrev Bt:List Str:=["self","letter","count","last"]
abbrev Bs:List Str:=["self","piece","place"]
abbrev Br:List Str:=["self","piece","lane"]
abbrev Ee:List Str:=["table","rooms","ring"]
abbrev Ed:List Str:=["_law_table_here","_law_paper_here"]
abbrev Ec:List Str:=["table","paper"]
abbrev Eb:List Str:=["_law_yard","_law_begins_here","_law_cells"]
abbrev Ea:List Str:=["_law_table_here"]
abbrev DZ:List Str:=["_law_table_here","_law_script"]
abbrev DY:List Str:=["_law_places","_law_amount","_law_cell"]
abbrev DX:List Str:=["_law_places","_law_lanes_here","_law_cell"]
abbrev DW:List Str:=["_law_table_here","_law_pair"]
abbrev DV:List Str:=["table","ring"]
abbrev DU:List Str:=["land","numbers","sets"]
abbrev DT:List Str:=["table","numbers","sets","lane","goal"]
abbrev DS:List Str:=["table","numbers","sets","lane"]
abbrev DR:List Str:=["_law_table_here","_law_lane","_law_goal"]
abbrev DQ:List Str:=["self","number","lane"]
abbrev Pn51:List Str:=["_law_table_here","_law_ring_here","_law_rooms_here"]
noncomputable def top(i:Nat):ϩ:=PySem.Challenge.pw_wormyard_k91_whole_look_and_run.main.body.getD i (.Pass ⟨0,0,0,0⟩)
abbrev BX:ϩ:=top 2
abbrev yZ:ϩ:=top 3
abbrev Fn:ϩ:=top 4
abbrev gF:ϩ:=top 20
abbrev kC:ϩ:=top 21
abbrev BW:ϩ:=top 22
abbrev Fj:ϩ:=top 26
abbrev qK:ϩ:=top 29
abbrev XG:ϩ:=top 30
abbrev oU:ϩ:=top 34
abbrev sY:ϩ:=top 35
abbrev t7:ϩ:=top 36
abbrev yY:ϩ:=top 37
abbrev oZ:ϩ:=top 38
abbrev za:ϩ:=top 39
abbrev sN:ϩ:=top 40
abbrev lq:ϩ:=top 42
abbrev qC:ϩ:=top 43
abbrev yW:ϩ:=top 44
abbrev lw:ϩ:=top 45
abbrev qB:ϩ:=top 46
abbrev qG:ϩ:=top 47
abbrev Fw:ϩ:=top 49
abbrev Up:ϩ:=top 50
abbrev qA:ϩ:=top 53
abbrev Fm:ϩ:=top 54
abbrev yP:ϩ:=top 55
abbrev sR:ϩ:=top 56
abbrev sV:ϩ:=top 57
abbrev sZ:ϩ:=top 58
abbrev iG:ϩ:=top 65
abbrev yN:ϩ:=top 66
abbrev qH:ϩ:=top 67
abbrev zh:ϩ:=top 71
abbrev q5:ϩ:=top 72
abbrev zg:ϩ:=top 74
abbrev Fq:ϩ:=top 75
abbrev sU:ϩ:=top 76
abbrev lp:ϩ:=top 77
abbrev ze:ϩ:=top 78
abbrev tu:ϩ:=top 79
abbrev jc:ϩ:=top 80
abbrev oY:ϩ:=top 81
abbrev tj:ϩ:=top 82
abbrev sW:ϩ:=top 83
abbrev lu:ϩ:=top 84
abbrev sQ:ϩ:=top 85
abbrev gG:ϩ:=top 86
abbrev jd:ϩ:=top 87
abbrev lr:ϩ:=top 88
abbrev oX:ϩ:=top 89
abbrev qJ:ϩ:=aG (top 27) 0
abbrev sP:ϩ:=aG (top 27) 1
abbrev Fx:ϩ:=aG (top 27) 2
abbrev yU:ϩ:=aG (top 27) 3
abbrev qI:ϩ:=aG (top 27) 4
abbrev Fk:ϩ:=aG (top 31) 0
abbrev yQ:ϩ:=aG (top 32) 0
abbrev sO:ϩ:=aG (top 32) 1
abbrev yX:ϩ:=aG (top 51) 0
abbrev yO:ϩ:=aG (top 51) 1
abbrev Fu:ϩ:=aG (top 60) 0
abbrev yV:ϩ:=aG (top 60) 1
abbrev Fp:ϩ:=aG (top 60) 2
abbrev sX:ϩ:=aG (top 60) 3
abbrev yR:ϩ:=aG (top 60) 4
abbrev tq:ϩ:=aG (top 60) 5
abbrev Ft:ϩ:=aG (top 60) 7
abbrev zd:ϩ:=aG (top 68) 0
abbrev zc:ϩ:=aG (top 68) 1
abbrev jA:ϩ:=aG (top 69) 0
abbrev jb:ϩ:=aG (top 69) 1
abbrev sT:ϩ:=aG (top 69) 2
abbrev qF:ϩ:=aG (top 69) 3
abbrev qD:ϩ:=aG (top 69) 4
abbrev sS:ϩ:=aG (top 69) 5
abbrev oW:ϩ:=aG (top 69) 6
abbrev ja:ϩ:=aG (top 69) 7
abbrev zb:ϩ:=aG (top 69) 8
abbrev sDo:ϩ:=aG (top 69) 9
abbrev zf:ϩ:=aG (top 69) 10
abbrev tf:ϩ:=aG (top 69) 11
abbrev Fv:ϩ:=aG (top 69) 12
abbrev yT:ϩ:=aG (top 69) 13
abbrev yS:ϩ:=aG (top 69) 14
abbrev iH:ϩ:=aG (top 69) 15
structure dz(mg:Str->Option Φ):Prop where
 O4:mg "isinstance"=Β
 int:mg "int"=Β
 bool:mg "bool"=Β
 len:mg "len"=Β
 enum:mg "enumerate"=Β
 tuple:mg "tuple"=Β
 range:mg "range"=Β
 list:mg "list"=Β
 all:mg "all"=Β
 sum:mg "sum"=Β
 abs:mg "abs"=Β
 str:mg "str"=Β
 min:mg "min"=Β
 max:mg "max"=Β
 rev:mg "reversed"=Β
 Uq:mg "reversed"=Β
 zip:mg "zip"=Β
 set:mg "set"=Β
def Eh(H:Hp)(v:V)(p:Int×Int):Prop:=∃t,v=.ref t/\H t=Α (.tup [.int p.1,.int p.2])
abbrev HW(H:Hp):List V->IPs->Prop:=Paired (Eh H)
theorem HW.same(h:Hz H H'):∀{a:List V}{b:IPs},HW H a b->HW H' a b:=λc=>by
 induction c with
 |nil=>exact .nil
 |cons d r f=>obtain⟨t,e,q⟩:=d;exact .cons ⟨t,e,h _ _ q⟩ f
theorem HW.get:∀{a:List V}{b:IPs}{i:Nat}{v:V},HW H a b->a[i]?=Α v->∃p,b[i]?=Α p/\Eh H v p:=by
 intro _ _ i _ c
 induction c generalizing i with
 |nil=>intro h;cases h
 | cons x r d =>
  intro h
  cases i with
  |zero=>cases h;exact⟨_,Κ,x⟩
  |succ i=>exact d (i:=i) h
theorem HW.LZ:∀{a:List V}{b:IPs}{i:Nat}{p:Int×Int},HW H a b->b[i]?=Α p->∃v,a[i]?=Α v/\Eh H v p:=by
 intro _ _ i _ c
 induction c generalizing i with
 |nil=>intro h;cases h
 | cons x r d =>
  intro h
  cases i with
  |zero=>cases h;exact⟨_,Κ,x⟩
  |succ i=>exact d (i:=i) h
theorem HW.snoc(h:Eh H v p):∀{a:List V}{b:IPs},HW H a b->HW H (a++[v]) (b++[p]):=λc=>by
 induction c with
 |nil=>exact .cons h .nil
 |cons q r d=>exact .cons q d
noncomputable def iK(n:Int)(p:Int×Int):Bool:=decide (0<=p.1/\p.1<=n - 1)&& (decide (0<=p.2/\p.2<=n - 1)&& !decide (p.1=p.2))
inductive k9(vs:List V)(H:Hp)(Q:VK)(E:XK):Prop
 |mk (i:Int) (_:vs=[.int i]) (_:Q (.bl Γ) H)
inductive gE(vs:List V)(H:Hp)(Q:VK)(E:XK):Prop
 |mk (i a b:Int) (_:vs=[.int i,.int a,.int b]) (_:Q (.bl (decide (a<=i/\i<=b))) H)
inductive yc(vs:List V)(H:Hp)(Q:VK)(E:XK):Prop
 |mk (n a b:Int) (_:vs=[.int n,.int a,.int b]) (_:Q (.bl (iK n (a,b))) H)
theorem vg:aq uq uq (ag gF):=bM
theorem lH(F:HZ K "is_whole" "is_whole" gF f fd)(T:dz mg):HB P w K mg μ aK 1 f fd uq k9:=by
 refine F.ok vg λ_ _ _ s H _ Q E a h=>?_
 obtain⟨i,rfl,q⟩:=h
 refine⟨_,af (ao (cv (aH fK Κ T.O4 ϯ (aa (pv 0) (aa (du (v:=.ty "int") Κ T.int PySem.Pv.boot_int Κ) ad)))
  (cP (tD (aH fK Κ T.O4 ϯ (aa (pv 0) (aa (du (v:=.ty "bool") Κ T.bool PySem.Pv.boot_bool Κ) ad))))))),?_⟩
 refine(.inl ⟨i,Κ,Γ,Κ,?_⟩)
 refine az ?_
 exact(.inr (.inl ⟨i,Κ,Δ,Κ,q⟩))
theorem qy:aq ko ko (ag kC):=bM
theorem wQ(F:HZ K "is_within" "is_within" kC f fd)(T:dz mg)(d:mg "is_whole"=Α (.ref fh))(c:HZ K "is_whole" "is_whole" gF fh La)(e:Binds K La uq []):
  HB P w K mg μ aK 2 f fd ko gE:=by
 have G:HB P w K mg μ aK 1 fh La uq k9:=lH c T
 refine F.ok qy λ_ _ _ s H _ Q E g h=>?_
 obtain⟨i,a,b,rfl,q⟩:=h
 refine⟨_,af (ao (cv (iq G g Κ d c.kp e .nil cU (aa (pv 0) ad)) (cP (qR nB nB (pv 1) (pv 0) (pv 2))))),i,Κ,_,Κ,az ?_⟩
 refine⟨_,_,Κ,Κ,_,Κ,?_⟩
 by_cases j:a<=i
 ·rw[Ε j]
  refine az ⟨_,_,Κ,Κ,?_⟩
  grind
 grind
theorem Qg:aq ["places","one","other","last"] Bu (ag Fj):=bM
theorem FI(F:HZ K "are_two_places" "are_two_places" Fj f fd)(G:Ca P w K mg μ "is_within" 2 ko gE):
  HB P w K mg μ aK 3 f fd Bu yc:=by
 refine F.ok Qg λ_ _ _ s H _ Q E c h=>?_
 obtain⟨n,a,b,rfl,q⟩:=h
 refine⟨_,ac (bG 3 Qg.nd (aA cZ (pv 0) ah))
  (af (ao (cv (bF G c (aa (pv 1) (aa ah (aa (pv 3) ad))))
   (cv (bF G c (aa (pv 2) (aa ah (aa (pv 3) ad)))) (cP (vn dc (pv 1) (pv 2))))))),?_⟩
 refine⟨_,_,Κ,Κ,a,0,_,Κ,_,Κ,?_⟩
 unfold iK at q
 dsimp only at q
 by_cases d:0<=a/\a<=n - 1
 ·rw[Ε d]at q⊢
  rw[Ý]at q
  refine az ⟨b,0,n - 1,Κ,_,Κ,?_⟩
  by_cases g:0<=b/\b<=n - 1
  ·rw[Ε g]at q⊢
   rw[Ý]at q
   refine az ⟨Κ,?_⟩
   have e:decide (V.int a=V.int b)=decide (a=b):=by
    by_cases h:a=b
    ·rw[h];simp
    ·rw[Ζ h,Ζ λz=>h (by injection z)]
   rw[e];exact q
  ·rw[Ζ g]at q⊢
   exact au q
 ·rw[Ζ d]at q⊢
  exact au q
inductive Due|places|many (k:Nat)|Ih (k:Nat)|good
noncomputable def sd(n:Int)(ps:IPs):Option Nat:=ps.findIdx? λp=>!iK n p
noncomputable def ie(n:Int)(ps:IPs):Due:=if decide (1<=n/\n<=12)=Δ then .places else if 40<ps.length then .many ps.length else match sd n ps with|some k =>.Ih k|none =>.good
structure Cs where
 land:Ο
def cK(H:Hp)(c:Cs)(x dx t:Ο)(n:Int)(HE:List V)(ps:IPs):Prop:=H x=Α (.ρ c.land dx [("places",.int n),("lanes",.ref t)])/\H t=Α (.tup HE)/\HW H HE ps
inductive yB(K:ϧ)(c:Cs)(vs:List V)(H:Hp)(Q:VK)(E:XK):Prop
 |mk (x dx n p HQ ps)(_:vs=[.ref x,.int n,.ref p])(_:H x=Α (.ρ c.land dx []))(_:HC K H p HQ)(_:HW H HQ ps)(_:HQ.length<=1000)(_:(ie n ps=.places->False)/\ (∀k,ie n ps=.many k->False)/\ (∀k,ie n ps=.Ih k->False)/\ (ie n ps=.good->∀H' t HE,(∀b o,b≠x->H b=Α o->H' b=Α o)->cK H' c x dx t n HE ps->Q .HU H'))
noncomputable def xT(s:ϩ):Scope:=match s with
 |.Assign _ (.Call _ [.ListComp _ _ sc _] _ _) _=>sc
 |_=>zQ0
noncomputable def l7(s:ϩ):Scope:=match aB s with
 |.Return (Α (.ListComp _ _ sc _)) _:: _=>sc
 |_=>zQ0
abbrev NI:List Str:=["self","places","lanes","lane","pair"]
structure i3(K:ϧ)(c:Cs):Prop where
 cl:Km K c.land
 np:HL K c.land "places"
 nl:HL K c.land "lanes"
theorem m9(h:∀p∈ps,iK n p=Γ):sd n ps=Β:=by
 unfold sd
 grind
theorem um(h:∀q∈ps.take i,iK n q=Γ)(b:ps[i]?=Α p)(c:iK n p=Δ):sd n ps=Α i:=by
 unfold sd
 rw[Ĺ]
 obtain⟨a,e⟩:=ϝ.mp b
 refine⟨a,by rw[e,c];rfl,λj d=>?_⟩
 have f:ps[j]'(YO d a)∈ps.take i:=ic.mpr ⟨j,by lia,Κ⟩
 rw[h _ f];simp
def Off(x:Ο)(H H':Hp):Prop:=∀b o,b≠x->H b=Α o->H' b=Α o
theorem Off.sq(o:Off x H H')(a:H x=Α (.ρ C dx fs))(h:HC K H p xs):HC K H' p xs:=by
 rcases h with (h|⟨ob,h⟩)|h
 ·exact .inl (.inl (o _ _ (bc h a (by grind)) h))
 ·exact .inl (.inr ⟨ob,o _ _ (bc h a (by grind)) h⟩)
 ·exact .inr h
theorem Off.MU(o:Off x H H')(c:H x=Α (.ρ C dx fs)):∀{a:List V}{b:IPs},HW H a b->HW H' a b:=λd=>by
 induction d with
 |nil=>exact .nil
 |cons f r g=>obtain⟨t,e,q⟩:=f;exact .cons ⟨t,e,o _ _ (bc q c (by grind)) q⟩ g
theorem Off.same(a:Off x H H1)(b:Hz H1 H2):Off x H H2:=λc o n e=>b _ _ (a c o n e)
theorem Mc:aq NI Bx (ag qJ):=bM
theorem GY:IP NI (ag qJ) (xT ((aB qJ).getD 4 (.Pass ⟨0,0,0,0⟩))) [] []:=_L2.Jv
theorem G6:(["pair"]:List Str).Nodup:=by decide +kernel
theorem CW(F:HZ K "__init__" "Land.__init__" qJ f fd)(T:dz mg)(L:i3 K c)
  (Gw:Ca P w K mg μ "is_within" 2 ko gE)
  (Gt:Ca P w K mg μ "are_two_places" 3 Bu yc)
  (mp:mg "MOST_PLACES"=Α (.int 12 t1)) (ml:mg "MOST_LANES"=Α (.int 40 t2)):
  HB P w K mg μ aK 4 f fd Bx (yB K c):=by
 refine F.ok Mc λ_ _ _ s H _ Q E hr h=>?_
 obtain⟨x,U,n,p,d,l,rfl,hx,X,hl,hlen,h1,h2,h3,h4⟩:=h
 refine⟨_,ac (aC (ba (aQ (bF Gw hr (aa (pv 1) (aa ah (aa (fT (v:=.int 12) Κ mp ⟨_,Κ⟩) ad))))))
   (af b7) ar)
  (ac (aC (bJ E7 (gq T.len (pv 2)) (fT (v:=.int 40) Κ ml ⟨_,Κ⟩))
   (af b7) ar)
  (ac (eI (lC Κ T.enum (aa (pv 2) ad)) (bO Κ (av (b9 3 Mc.nd) (av (b9 4 Mc.nd) bz)))
   (af (aC (ba (aQ (bF Gt hr (aa (pv 1) (aa (be HA (pv 4) ah) (aa (be HA (pv 4) ah) ad))))))
    (af b7) ar)))
  (ac (bp (pv 0) (pv 1) Κ)
  (af (bp (pv 0) (bP ce Κ T.tuple PySem.Pv.boot_tuple (aa (aZ (own:=["pair"]) (capN:=[]) (cap:=[]) GY Κ (aL (pv 2))
   (λC s' H' fp=>⟨b9 0 G6,bu,aM (aa (be (show JQ _ (ki K) from HA) (pv 0) ah) (aa (be (show JQ _ (ki K) from HA) (pv 0) ah) ad))⟩)) ad)) Κ))))),?_⟩
 refine⟨n,1,_,Κ,_,Κ,?_⟩
 by_cases M:1<=n/\n<=12
 rotate_left
 ·rw[Ζ M]
  exact az (h1 (by unfold ie;rw[Θ (Ζ M)]))
 rw[Ε M]
 refine au ?_
 have Np:=Paired.length hl
 refine⟨p,_,Κ,.inl X,_,_,Κ,Κ,_,Κ,?_⟩
 by_cases hm:40<l.length
 ·rw[Ε (show (40:Int)<(d.length:Nat) by lia)]
  refine az (h2 l.length ?_)
  unfold ie
  rw[Ε M,Η (by decide),Θ hm]
 rw[Ζ (show ¬(40:Int)<(d.length:Nat) by lia)]
 refine au ?_
 refine⟨p,Κ,⟨_,X⟩,fI (sq:=λH=>HC K H p) (xs:=d) (λi Y G=>∃a b:Option V,Hz H G/\Y=[Α (.ref x),Α (.int n),Α (.ref p),a,b]/\∀q∈l.take i,iK n q=Γ)
  ⟨Β,Β,Hz.refl H,Κ,λq hq=>by simp at hq⟩ (λi Y G _ HD=>by obtain⟨a,b,N,_⟩:=HD;exact N.seq X) ?_ ?_⟩
 ·rintro i v q Y G hv ⟨a,b,N,rfl,Z⟩ hq
  obtain⟨g,m,t,rfl,A⟩:=HW.get hl hv
  have s3:Hz H (ο G q (.tup [.int i,.ref t])):=N.new hq
  refine⟨q,_,Κ,HF.of ae,Κ,_,_,Κ,_,_,Κ,Κ,?_⟩
  have R:HF K (ο G q (.tup [.int i,.ref t])) t [.int g.1,.int g.2]:=HF.of (s3 _ _ A)
  refine⟨t,_,0,_,Κ,Κ,R,al (j:=0) Κ,t,_,1,_,Κ,Κ,R,al (j:=1) Κ,n,_,_,Κ,_,Κ,?_⟩
  cases ho:iK n (g.1,g.2) with
  | true =>
   refine au ⟨Α (.int i),Α (.ref t),s3,Κ,λz B=>?_⟩
   rw[Ì,m]at B
   rcases Á.mp B with B|B
   ·exact Z z B
   ·have:z=g:=by simpa using B
    rw[this];exact ho
  | false =>
   refine az (h3 i ?_)
   unfold ie
   rw[Ε M,Η (by decide),Η hm,um Z m ho]
 ·rintro Y G ⟨a,b,N,rfl,Z⟩
  have Ur:ie n l=.good:=by
   unfold ie
   rw[Ε M,Η (by decide),Η hm,m9 (λz B=>Z z (by rw[Np,Æ];exact B))]
  have Nq:=N _ _ hx
  refine⟨x,_,U,_,Κ,Nq,L.cl,L.np,by show 0<1000;decide,?_⟩
  generalize S:ο G x (.ρ c.land U (aO "places" (.int n) []))=I
  have o3:Off x H I:=λb o O e=>by rw[←S,aj O];exact N _ _ e
  have x3:I x=Α (.ρ c.land U [("places",.int n)]):=by rw[←S,ae];rfl
  have l3:=o3.MU hx hl
  have p3:=o3.sq hx X
  refine⟨p,Κ,⟨_,p3⟩,aW d.length (by rw[ϊ];lia) (λi acc u=>Hz I u/\acc.length=i/\HW u acc (l.take i)) ⟨Hz.refl _,Κ,.nil⟩ (λi acc u h=>YQ h.2.1) ?_ ?_⟩
  ·rintro i acc u hi ⟨J,ha,hA⟩
   have q4:=J.seq p3
   refine⟨⟨d,d[i],q4,by simp[hi]⟩,λy H5 ⟨e5,hy⟩=>?_⟩
   subst e5
   have hy:=hy d q4
   obtain⟨g,m,t,rfl,A⟩:=HW.get l3 hy
   have R:HF K H5 t [.int g.1,.int g.2]:=HF.of (J _ _ A)
   refine⟨t,_,0,_,Κ,Κ,R,al (j:=0) Κ,t,_,1,_,Κ,Κ,R,al (j:=1) Κ,by show 2<=Χ;decide,λr MR=>?_⟩
   refine⟨J.new MR,by rw[ϛ,ha];rfl,?_⟩
   rw[Ì,m]
   exact HW.snoc ⟨r,Κ,ae⟩ (HW.same (Hz.new (Hz.refl _) MR) hA)
  ·rintro acc u ⟨J,ha,hA⟩
   have q4:=J.seq p3
   refine⟨⟨d,q4,Ξ _⟩,λD hD=>?_⟩
   have s5:Hz I (ο u D (.π acc)):=J.new hD
   refine⟨D,_,Κ,.inl ⟨HC.of ae,λt A=>?_⟩⟩
   have s6:Hz I (ο (ο u D (.π acc)) t (.tup acc)):=s5.new A
   have x6:=s6 _ _ x3
   refine⟨x,_,U,_,Κ,x6,L.cl,L.nl,by show 1<1000;decide,?_⟩
   have htx:t≠x:=λz=>by rw[z,s5 _ _ x3]at A;cases A
   refine h4 Ur _ t acc (λb o O e=>?_) ⟨by rw[ae];rfl,by rw[aj htx,ae],?_⟩
   ·rw[aj O];exact s6 _ _ (o3 b o O e)
   ·have hA':HW u acc l:=by rw[Np,Æ]at hA;exact hA
    have x4:=J _ _ x3
    have OW:HW (ο (ο u D (.π acc)) t (.tup acc)) acc l:=HW.same (Hz.new (Hz.new (Hz.refl _) hD) A) hA'
    exact Off.MU (x:=x) (λb o O e=>aI O e _) x6 OW
noncomputable def pG(sel:Int×Int->Int)(ps:IPs)(pl:Int)(m:Nat):List V:=((Υ m).filter λk=>decide (sel (ps.getD k (0,0))=pl)).map λk:Nat=>V.int k
inductive wC(c:Cs)(sel:Int×Int->Int)(vs:List V)(H:Hp)(Q:VK)(E:XK):Prop
 |mk (x dx t:Ο) (n:Int) (HE:List V) (ps:IPs) (pl:Int) (_:vs=[.ref x,.int pl]) (_:cK H c x dx t n HE ps) (_:ps.length<=1000) (_:∀H' D,Hz H H'->H' D=Β->Q (.ref D) (ο H' D (.π (pG sel ps pl ps.length))))
theorem rC(h:ps[i]?=Α pr):pG sel ps pl (i+1)=if decide (sel pr=pl) then pG sel ps pl i++[V.int i] else pG sel ps pl i:=by
 have e:ps.getD i (0,0)=pr:=by grind
 unfold pG
 rw[É,Ĥ]
 grind
theorem vO:(pG sel ps pl i).length<=i:=by
 unfold pG
 grind
theorem Us:aq ww ww (ag yU):=bM
theorem Ut:IP ww (ag yU) (l7 yU) ["place"] [1]:=_L2.Jv
theorem Fg:aq ww ww (ag qI):=bM
theorem GX:IP ww (ag qI) (l7 qI) ["place"] [1]:=_L2.Jv
theorem v9:(["lane","pair","place"]:List Str).Nodup:=by decide +kernel
theorem bR(a b:Int):decide (V.int a=V.int b)=decide (a=b):=by
 grind
theorem zK(F:HZ K "out_of" "Land.out_of" yU f fd)(T:dz mg)(L:i3 K c):HB P w K mg μ aK 1 f fd ww (wC c Ä):=by
 refine F.ok Us λ_ _ _ s H _ Q E Z h=>?_
 obtain⟨x,I,t,n,b,e,o,rfl,⟨J,g,p⟩,z,q⟩:=h
 refine⟨_,af (ao (aZ (own:=["lane","pair"]) (capN:=["place"]) (cap:=[1]) Ut Κ (gP Κ T.enum (aa (aR (pv 0)) ad))
  (λC s' H' fp=>⟨(show PG _ _ (tW K 2 _) from bO Κ (av (b9 0 v9) (av (b9 1 v9) bz))),
   c7 (bJ br (be (show JQ _ (ki K) from HA) (pv 1) ah) (pv 2)),pv 0⟩))),?_⟩
 have A:=Paired.length p
 refine⟨x,_,I,_,_,Κ,J,L.cl,L.nl,Κ,t,Κ,⟨_,HF.of g⟩,aW e.length (by rw[ϊ];lia) (λi acc a=>Hz H a/\acc=pG Ä e o i) ⟨Hz.refl _,Κ⟩ (λi acc a h=>by rw[h.2];exact vO) ?_ ?_⟩
 ·rintro i acc a M ⟨d,rfl⟩
  have B:HF K a t b:=HF.of (d _ _ g)
  refine⟨⟨b,b[i]'(by lia),B,by simp[A,M]⟩,λy H5 ⟨r,N,O,R⟩=>?_⟩
  obtain⟨v,S,rfl⟩:=R b B
  subst O
  obtain⟨U,l,u,rfl,X⟩:=HW.get p S
  have m:Hz H (ο a r (.tup [.int i,.ref u])):=d.new N
  refine⟨r,_,Κ,HF.of ae,Κ,_,_,Κ,_,_,Κ,Κ,u,_,0,_,Κ,Κ,HF.of (m _ _ X),al (j:=0) Κ,Κ,_,Κ,?_⟩
  rw[bR,rC l]
  cases G:decide (U.1=o) with
  |true=>exact az ⟨m,by simp[G]⟩
  |false=>exact au ⟨m,by simp[G]⟩
 ·rintro acc a ⟨d,rfl⟩
  exact⟨⟨b,HF.of (d _ _ g),A⟩,λD Y=>q a D d Y⟩
theorem CV(F:HZ K "into" "Land.into" qI f fd)(T:dz mg)(L:i3 K c):HB P w K mg μ aK 1 f fd ww (wC c Î):=by
 refine F.ok Fg λ_ _ _ s H _ Q E Z h=>?_
 obtain⟨x,I,t,n,b,e,o,rfl,⟨J,g,p⟩,z,q⟩:=h
 refine⟨_,af (ao (aZ (own:=["lane","pair"]) (capN:=["place"]) (cap:=[1]) GX Κ (gP Κ T.enum (aa (aR (pv 0)) ad))
  (λC s' H' fp=>⟨(show PG _ _ (tW K 2 _) from bO Κ (av (b9 0 v9) (av (b9 1 v9) bz))),
   c7 (bJ br (be (show JQ _ (ki K) from HA) (pv 1) ah) (pv 2)),pv 0⟩))),?_⟩
 have A:=Paired.length p
 refine⟨x,_,I,_,_,Κ,J,L.cl,L.nl,Κ,t,Κ,⟨_,HF.of g⟩,aW e.length (by rw[ϊ];lia) (λi acc a=>Hz H a/\acc=pG Î e o i) ⟨Hz.refl _,Κ⟩ (λi acc a h=>by rw[h.2];exact vO) ?_ ?_⟩
 ·rintro i acc a M ⟨d,rfl⟩
  have B:HF K a t b:=HF.of (d _ _ g)
  refine⟨⟨b,b[i]'(by lia),B,by simp[A,M]⟩,λy H5 ⟨r,N,O,R⟩=>?_⟩
  obtain⟨v,S,rfl⟩:=R b B
  subst O
  obtain⟨U,l,u,rfl,X⟩:=HW.get p S
  have m:Hz H (ο a r (.tup [.int i,.ref u])):=d.new N
  refine⟨r,_,Κ,HF.of ae,Κ,_,_,Κ,_,_,Κ,Κ,u,_,1,_,Κ,Κ,HF.of (m _ _ X),al (j:=1) Κ,Κ,_,Κ,?_⟩
  rw[bR,rC l]
  cases G:decide (U.2=o) with
  |true=>exact az ⟨m,by simp[G]⟩
  |false=>exact au ⟨m,by simp[G]⟩
 ·rintro acc a ⟨d,rfl⟩
  exact⟨⟨b,HF.of (d _ _ g),A⟩,λD Y=>q a D d Y⟩
inductive yC(vs:List V)(H:Hp)(Q:VK)(E:XK):Prop
 |mk (m k:Nat) (_:vs=[.int m,.int k]) (_:Q (.bl (m.testBit k)) H)
noncomputable def fF(m:Nat):List V:=(Yd.J7 m (Ϭ (m:Int))).map λk:Nat=>V.int k
inductive nn(vs:List V)(H:Hp)(Q:VK)(E:XK):Prop
 |mk (m:Nat) (_:vs=[.int m]) (_:m<2^400) (_:∀p,H p=Β->Q (.ref p) (ο H p (.π (fF m))))
inductive yh(K:ϧ)(vs:List V)(H:Hp)(Q:VK)(E:XK):Prop
 |mk (a:Ο) (ks:List Nat) (_:vs=[.ref a]) (_:HC K H a (ks.map λk:Nat=>V.int k)) (_:(∀k∈ks,k<=1000)) (_:Q (.int (Yd.Ic ks 0:Nat)) H)
theorem Uv:aq uu uu (ag BX):=bM
theorem zT(F:HZ K "has" "has" BX f fd):HB P w K mg μ aK 1 f fd uu yC:=by
 refine F.ok Uv λ_ _ _ s H _ Q E a h=>?_
 obtain⟨m,k,rfl,q⟩:=h
 refine⟨_,af (ao (cv (vn E8 (pv 1) ah) (cP (vn br (aA tI (aA p5 (pv 0) (pv 1)) ah) ah)))),_,_,Κ,Κ,_,Κ,?_⟩
 rw[Ε (show (0:Int)<=(k:Int) by lia)]
 refine az ?_
 refine⟨_,_,Κ,Κ,(show (0:Int)<=(k:Int) by lia),_,_,Κ,Κ,Κ,?_⟩
 have e:decide (V.int (Ě ((m:Int) / 2^(k:Int).toNat) 1)=V.int 1)=m.testBit k:=by
  rw[Τ,←Yd.M5 m k]
  grind
 grind
theorem Ai{ks:List Nat}{i:Nat}(h:(ks.map λk:Nat=>V.int k)[i]?=Α x):∃k,ks[i]?=Α k/\x=V.int k:=by
 rw[ώ]at h
 cases e:ks[i]? with
 |none=>rw[e]at h;cases h
 |some k=>rw[e]at h;exact⟨k,Κ,(ϋ h).symm⟩
theorem MB:aq ["numbers","some","number"] qa (ag Fn):=bM
theorem FL(F:HZ K "set_of" "set_of" Fn f fd):HB P w K mg μ aK 1 f fd qa (yh K):=by
 refine F.ok MB λ_ _ _ s H _ Q E n h=>?_
 obtain⟨a,ks,rfl,d,j,q⟩:=h
 refine⟨_,ac (bG 1 MB.nd ah)
  (ac (eI (aL (pv 0)) (b9 2 MB.nd)
   (af (bG 1 MB.nd (aA E6 (pv 1) (aA tE ah (pv 2))))))
  (af (ao (pv 1)))),?_⟩
 refine⟨a,Κ,⟨_,d⟩,b8 (K:=K) (a:=a) (xs:=ks.map λk:Nat=>V.int k) (λi b c=>∃v:Option V,c=H/\b=[Α (.ref a),Α (.int (Yd.Ic (ks.take i) 0:Nat)),v])
  ⟨Β,Κ,Κ⟩ (λi b c _ l=>by obtain⟨_,e,_⟩:=l;rw[e];exact d) ?_ ?_⟩
 ·rintro i x b c m ⟨v,rfl,rfl⟩
  obtain⟨k,g,rfl⟩:=Ai m
  have o:=j k (Ψ g)
  refine⟨_,_,Κ,Κ,⟨(show (0:Int)<=(k:Int) by lia),(show (k:Int)<=1000000 by lia),(by decide)⟩,_,_,Κ,Κ,Α (.int k),Κ,?_⟩
  have e:š ((Yd.Ic (ks.take i) 0:Nat):Int) (1* 2^(k:Int).toNat)=((Yd.Ic (ks.take (i+1)) 0:Nat):Int):=by
   rw[Ì,g,Τ,one_mul,show (2:Int)^k=((2^k:Nat):Int) by rw[L3];rfl,Yd.KL,Yd.ND]
   rfl
  show [Α (V.ref a),Α (V.int _),Α (V.int k)]=_
  rw[e]
 ·rintro b c ⟨v,rfl,rfl⟩
  rw[Ρ,Æ]
  exact q
theorem Uw:aq ["some"] ["some"] (ag yZ):=bM
theorem Ux:(["number","some"]:List Str).Nodup:=by decide +kernel
theorem Uy:IP ["some"] (ag yZ) (l7 yZ) ["some"] [0]:=_L2.Jv
theorem FS(F:HZ K "members" "members" yZ f fd)(T:dz mg)(b:mg "has"=Α (.ref fh))(a:HZ K "has" "has" BX fh La)(c:Binds K La uu []):HB P w K mg μ aK 2 f fd ["some"] nn:=by
 have G:HB P w K mg μ aK 1 fh La uu yC:=zT a
 refine F.ok Uw λ_ _ _ s H _ Q E d h=>?_
 obtain⟨m,rfl,g,q⟩:=h
 refine⟨_,af (ao (aZ (own:=["number"]) (capN:=["some"]) (cap:=[0]) Uy Κ
  (aE Κ T.range (aa (FC PySem.F.plainAttrs_int PySem.F.slot_int_bit_length PySem.F.type_int_bit_length Dj (pv 0)) ad))
  (λC j l n=>⟨b9 0 Ux,c7 (aQ (iq G d Κ b a.kp c .nil cU (aa (pv 1) (aa (pv 0) ad)))),pv 0⟩))),?_⟩
 have o:=Yd.bits_le g
 refine⟨Κ,_,Κ,Κ,_,Κ,by lia,by lia,?_⟩
 rw[Τ]
 refine jz (λk=>m.testBit k) (λk=>V.int k) (by rw[ϊ];lia) (λi acc N p h=>?_) q
 refine⟨m,i,by simp,_,Κ,?_⟩
 cases e:m.testBit i with
 | true =>
  rw[e]at h
  refine az (show N (acc++[V.int (0+i)]) H from ?_)
  simpa using h
 | false =>
  rw[e]at h
  exact au (by simpa using h)
noncomputable def iz(ks:List Nat):List Int:=ks.map λk:Nat=>(k:Int)
theorem AD(ks:List Nat):(iz ks).map V.int=ks.map λk:Nat=>V.int k:=by rw[iz,Ú];rfl
theorem Dp(m:Nat):fF m=(iz (Yd.J7 m (Ϭ (m:Int)))).map V.int:=by rw[AD];rfl
theorem vM(h:ks.Pairwise (· < ·)):(iz ks).Pairwise (· < ·):=by
 unfold iz
 grind
theorem IL:k∈iz ks↔∃n∈ks,(n:Int)=k:=Â
theorem lQ(b:ms.Pairwise (· < ·))(c:∀k,k∈ms↔k∈iz ks):iz (Yd.J7 (Yd.Ic ks 0) (Ϭ ((Yd.Ic ks 0:Nat):Int)))=ms:=by
 refine Yd.L7 (vM (Yd.JM _ _)) b λk=>?_
 rw[c k,IL,IL]
 constructor
 ·rintro⟨n,a,e⟩
  rw[Yd.Iz (Yd.Jf _),Yd.IH]at a
  exact⟨n,by simpa using a,e⟩
 ·rintro⟨n,a,e⟩
  refine⟨n,?_,e⟩
  rw[Yd.Iz (Yd.Jf _),Yd.IH]
  simpa using a
theorem yK(h:∀k∈ks,k<b):Yd.Ic ks 0<2^b:=by
 rw[←Yd.OP h]
 exact Yd.KW ks b
theorem wB:(Yd.Ic ks 0).testBit k=decide ((k:Int)∈iz ks):=by
 rw[Yd.IH,cy,ŭ]
 congr 1
 refine propext ⟨λh=>IL.mpr ⟨k,h,Κ⟩,λh=>?_⟩
 obtain⟨n,a,e⟩:=IL.mp h
 grind
structure Rw where
 p:Int
 g:Int
 c:Option Nat
 s:List Nat
noncomputable def aP(r:Rw):bo:=[Α r.p,Α r.g,r.c.map λk:Nat=>(k:Int)]
noncomputable def ia(sel:Int×Int->Int)(ps:IPs)(pl:Int):List Nat:=(Υ ps.length).filter λk=>decide (sel (ps.getD k (0,0))=pl)
noncomputable def eY(n:Int)(ps:IPs)(r:Rw):Bool:=
 iK n (r.p,r.g)&& ((match r.c with|none=>Γ|some k=>decide (k∈ia Î ps r.p))&& r.s.all λk=>decide (k∈ia Ä ps r.p))
noncomputable def Ad(sel:Int×Int->Int)(ps:IPs)(pl:Int)(k:Nat):Bool:=decide (ps.length<=k)|| !decide (sel (ps.getD k (0,0))=pl)
noncomputable def rZ(n:Int)(ps:IPs)(ahead:List Rw)(r:Rw):Bool:=
 !iK n (r.p,r.g)||((match r.c with|none=>Δ|some k=>Ad Î ps r.p k)||((r.s.any λk=>Ad Ä ps r.p k)||ahead.any λa=>decide (aP a=aP r)))
theorem vQ:decide (k∈ia sel ps pl)= !Ad sel ps pl k:=by
 unfold ia Ad
 grind
theorem DN{l:List Nat}:(l.all λk=>!f k)= !(l.any f):=by
 induction l with
 |nil=>rfl
 |cons a l b=>rw[OL,kl,b,Bool.not_or]
theorem m8(n:Int)(d:IPs)(b:List Rw)(r:Rw):rZ n d b r=(!eY n d r||b.any λa=>decide (aP a=aP r)):=by
 unfold rZ eY
 have e:(r.s.all λk=>decide (k∈ia Ä d r.p))= !(r.s.any λk=>Ad Ä d r.p k):=by
  rw[←DN]
  congr 1
  funext k
  exact vQ
 rw[e]
 cases f:r.c with
 | none =>
  grind
 | some k =>
  dsimp only
  rw[vQ]
  grind
noncomputable def eA(n:Int)(ps:IPs)(rs:List Rw)(m:Nat):Option Nat:=(Υ m).find? λk=>rZ n ps (rs.take k) (rs.getD k ⟨0,0,Β,[]⟩)
theorem iC:∀{m:Nat},(∀k,k<m->rZ n ps (rs.take k) (rs.getD k ⟨0,0,Β,[]⟩)=Δ)->eA n ps rs m=Β:=by
 intro m h
 unfold eA
 grind
theorem mT(a:i<m)(h:∀k,k<i->rZ n ps (rs.take k) (rs.getD k ⟨0,0,Β,[]⟩)=Δ)(b:rZ n ps (rs.take i) (rs.getD i ⟨0,0,Β,[]⟩)=Γ):eA n ps rs m=Α i:=by
 unfold eA
 rw[List.find?_range_eq_some]
 refine⟨b,Ϩ.mpr a,λj c=>?_⟩
 rw[h j c]
 rfl
noncomputable def dI(rs:List Rw)(k:bo):Option Rw:=rs.reverse.find? λr=>decide (aP r=k)
theorem tR:dI (rs++[r]) k=if k=aP r then Α r else dI rs k:=by
 unfold dI
 grind
theorem pE:(dI rs k).isSome=rs.any λr=>decide (aP r=k):=by
 unfold dI
 grind
noncomputable def cV:Option Nat->V
 |none =>.HU
 |some k =>.int k
noncomputable def c8(ks:List Nat):List V:=ks.map λk:Nat=>V.int k
theorem fV(ks:List Nat):c8 ks=(iz ks).map V.int:=(AD ks).symm
def Rc(H:Hp)(t l:Ο)(r:Rw):Prop:=H t=Α (.tup [.int r.p,.int r.g,cV r.c,.ref l])/\H l=Α (.π (c8 r.s))
def Rf(H:Hp)(v:V)(r:Rw):Prop:=∃t l,v=.ref t/\Rc H t l r
abbrev Md(H:Hp):List V->List Rw->Prop:=Paired (Rf H)
theorem Rc.same(h:Hz H H')(x:Rc H t l r):Rc H' t l r:=⟨h _ _ x.1,h _ _ x.2⟩
theorem Rf.same(h:Hz H H'):Rf H v r->Rf H' v r:=λa=>by obtain⟨t,l,e,x⟩:=a;exact⟨t,l,e,x.same h⟩
theorem Md.imp(h:∀v r,Rf H v r->Rf H' v r):∀{a:List V}{b:List Rw},Md H a b->Md H' a b:=λc=>by
 induction c with
 |nil=>exact .nil
 |cons x r d=>exact .cons (h _ _ x) d
theorem Md.same(h:Hz H H')(x:Md H vs rs):Md H' vs rs:=Md.imp (λ_ _ z=>z.same h) x
theorem Md.get:∀{a:List V}{b:List Rw}{i:Nat}{v:V},Md H a b->a[i]?=Α v->∃r,b[i]?=Α r/\Rf H v r
 |_,_,_,_,.nil,e=>by simp at e
 |_,_,0,_,.cons x _,e=>by simp at e;subst e;exact⟨_,Κ,x⟩
 | _,_,i+1,v,.cons _ t,e=>by
  obtain⟨r,c,d⟩:=Md.get (i:=i) (v:=v) t (by simpa using e)
  exact⟨r,by simpa using c,d⟩
theorem vK(r:Rw):(aP r).map xI=[.int r.p,.int r.g,cV r.c]:=by
 cases r with
 |mk p g c s=>cases c<;>rfl
theorem tT:pG sel ps pl ps.length=(iz (ia sel ps pl)).map V.int:=by rw[AD];rfl
theorem lW{k:Nat}:decide ((k:Int)∈iz l)=decide (k∈l):=by
 congr 1
 refine propext ⟨λh=>?_,λh=>IL.mpr ⟨k,h,Κ⟩⟩
 obtain⟨n,a,e⟩:=IL.mp h
 grind
theorem wq(ks l:List Nat):((c8 ks).filter λ_=>Γ).map (λv=>match v with|.int i=>V.bl (decide (i∈iz l))|_ =>.HU)=(ks.map λk=>decide (k∈l)).map V.bl:=by
 rw[kb.mpr (λ_ _=>rfl)]
 unfold c8
 rw[Ú,Ú]
 refine đ λk _=>?_
 show V.bl (decide ((k:Int)∈iz l))=V.bl (decide (k∈l))
 rw[lW]
theorem uo(ks:List Nat)(p:Nat->Bool):(ks.map p).all id=ks.all p:=by rw[Y2];rfl
inductive Eu(K:ϧ)(vs:List V)(H:Hp)(Q:VK)(E:XK):Prop
 |mk (i:Int) (p:Ο) (ns:List Int) (_:vs=[.int i,.ref p]) (_:HC K H p (ns.map V.int)) (_:Q (.bl (decide (i∈ns))) H)
inductive yE(c:Cs)(vs:List V)(H:Hp)(Q:VK)(E:XK):Prop
 |mk (x dx lt t l:Ο) (n:Int) (HE:List V) (ps:IPs) (r:Rw) (_:vs=[.ref x,.ref t]) (_:cK H c x dx lt n HE ps) (_:Rc H t l r) (_:ps.length<=1000) (_:r.s.length<=1000) (_:∀H',Hz H H'->Q (.bl (eY n ps r)) H')
abbrev NF:List Str:=["land","row","place","came","begin_here"]
noncomputable def Bf(s:ϩ):Scope:=match s with
 |.Return (Α (.Call _ [.ListComp _ _ sc _] _ _)) _=>sc
 |_=>zQ0
theorem E2:aq uv uv (ag BW):=bM
theorem FO(F:HZ K "is_one_of" "is_one_of" BW f fd)(T:dz mg)(b:mg "is_whole"=Α (.ref fh))(a:HZ K "is_whole" "is_whole" gF fh La)(c:Binds K La uq []):
  HB P w K mg μ aK 2 f fd uv (Eu K):=by
 have G:HB P w K mg μ aK 1 fh La uq k9:=lH a T
 refine F.ok E2 λ_ _ _ s H _ Q E d h=>?_
 obtain⟨i,p,e,rfl,g,q⟩:=h
 refine⟨_,af (ao (cv (iq G d Κ b a.kp c .nil cU (aa (pv 0) ad)) (cP (vn wO (pv 0) (pv 1))))),i,Κ,_,Κ,az ?_⟩
 refine⟨p,_,Κ,.inl g,Κ,fJ _,?_⟩
 rw[jt]
 exact q
theorem Lb:aq NF ["land","row"] (ag qK):=bM
theorem GZ:IP NF (ag qK) (Bf ((aB qK).getD 5 (.Pass ⟨0,0,0,0⟩))) ["begin_here"] [4]:=_L2.Jv
theorem G7:(["lane","begin_here"]:List Str).Nodup:=by decide +kernel
theorem CZ(F:HZ K "row_fits" "row_fits" qK f fd)(T:dz mg)(L:i3 K c)
  (Gt:Ca P w K mg μ "are_two_places" 3 Bu yc)
  (Go:Ca P w K mg μ "is_one_of" 2 uv (Eu K))
  (G3:Me P w K mg μ c.land "out_of" 1 ww (wC c Ä)) (G4:Me P w K mg μ c.land "into" 1 ww (wC c Î)):
  HB P w K mg μ aK 4 f fd ["land","row"] (yE c):=by
 refine F.ok Lb λ_ _ _ s H _ Q E G h=>?_
 obtain⟨x,z,lt,t,l,n,S,a,r,rfl,d,hR,m,Rh,q⟩:=h
 refine⟨_,ac (bG 2 Lb.nd (be HA (pv 1) ah))
  (ac (bG 3 Lb.nd (be HA (pv 1) ah))
  (ac (aC (ba (aQ (bF Gt G (aa (aR (pv 0)) (aa (pv 2) (aa (be HA (pv 1) ah) ad)))))) (af (ao bY)) ar)
  (ac (aC (PW.pt (lA (bJ iu (pv 3) aT) (jh (ba (aQ (bF Go G (aa (pv 3) (aa (cE (pv 0) L.cl G4 G (aa (pv 2) ad)) ad)))))))) (af (ao bY)) ar)
  (ac (fR (i:=4) Lb.nd Κ (ń Κ) (cE (pv 0) L.cl G3 G (aa (pv 2) ad)))
  (af (ao (aH (ij Κ) Κ T.all ą (aa (aZ (own:=["lane"]) (capN:=["begin_here"]) (cap:=[4]) GZ Κ (aL (be HA (pv 1) ah))
   (λC s' H' fp=>⟨b9 0 G7,bu,bF Go G (aa (pv 0) (aa (pv 1) ad))⟩)) ad)))))))),?_⟩
 obtain⟨U,O⟩:=hR
 have A:HF K H t [.int r.p,.int r.g,cV r.c,.ref l]:=HF.of U
 refine⟨t,_,0,_,Κ,Κ,A,al (j:=0) Κ,t,_,2,_,Κ,Κ,A,al (j:=2) Κ,x,_,z,_,_,Κ,d.1,L.cl,L.np,Κ,t,_,1,_,Κ,Κ,A,al (j:=1) Κ,n,_,_,Κ,_,Κ,?_⟩
 cases R:iK n (r.p,r.g) with
 | false =>
  have e:eY n a r=Δ:=by unfold eY;rw[R];rfl
  refine az ?_
  have:=q H (Hz.refl H)
  rw[e]at this
  exact this
 | true =>
  refine au ?_
  cases X:r.c with
  | none =>
   refine⟨Κ,_,Κ,au (au ?_)⟩
   have b:=Hz.refl H
   have Y:eY n a r=r.s.all λk=>decide (k∈ia Ä a r.p):=by unfold eY;rw[R,X];rfl
   refine⟨x,z,_,Κ,b _ _ d.1,Κ,x,z,_,n,S,a,_,Κ,⟨b _ _ d.1,b _ _ d.2.1,HW.same b d.2.2⟩,m,λI B Z JA=>?_⟩
   have u:=(b.trans Z).new (o:=.π (pG Ä a r.p a.length)) JA
   have J:=aX I B (.π (pG Ä a r.p a.length))
   generalize ο I B _=H3 at u J⊢
   refine⟨t,_,3,_,Κ,Κ,HF.of (u _ _ U),al (j:=3) Κ,l,Κ,⟨_,HC.of (u _ _ O)⟩,?_⟩
   refine ig (xs:=c8 r.s) (λ_=>Γ) (λv=>match v with|.int i =>.bl (decide (i∈iz (ia Ä a r.p)))|_ =>.HU) (by rw[ϊ];simp only[c8,Ρ];lia) (HC.of (u _ _ O)) (λy acc N hy h=>?_) (λD M=>?_)
   ·obtain⟨k',_,rfl⟩:=Â.mp hy
    exact⟨_,B,_,Κ,by rw[←tT];exact HC.of J,by simpa using h⟩
   ·rw[wq]
    refine⟨D,_,Κ,HC.of ae,?_⟩
    have:=q _ (u.new (o:=.π ((r.s.map λk=>decide (k∈ia Ä a r.p)).map V.bl)) M)
    rw[Y]at this
    rw[uo]
    exact this
  | some k =>
   refine⟨Κ,_,Κ,az ?_⟩
   refine⟨x,z,_,Κ,d.1,Κ,x,z,_,n,S,a,_,Κ,d,m,λH' D s' M=>?_⟩
   have b:=s'.new (o:=.π (pG Î a r.p a.length)) M
   refine⟨_,D,_,Κ,by rw[←tT];exact HC.of ae,_,Κ,?_⟩
   rw[lW]
   cases hk:decide (k∈ia Î a r.p) with
   | false =>
    refine az ?_
    have e:eY n a r=Δ:=by unfold eY;rw[R,X];dsimp only;rw[hk];rfl
    have:=q _ b
    rw[e]at this
    exact this
   | true =>
    have Y:eY n a r=r.s.all λk=>decide (k∈ia Ä a r.p):=by unfold eY;rw[R,X];dsimp only;rw[hk];rfl
    refine au ?_
    refine⟨x,z,_,Κ,b _ _ d.1,Κ,x,z,_,n,S,a,_,Κ,⟨b _ _ d.1,b _ _ d.2.1,HW.same b d.2.2⟩,m,λI B Z JA=>?_⟩
    have u:=(b.trans Z).new (o:=.π (pG Ä a r.p a.length)) JA
    have J:=aX I B (.π (pG Ä a r.p a.length))
    generalize ο I B _=H3 at u J⊢
    refine⟨t,_,3,_,Κ,Κ,HF.of (u _ _ U),al (j:=3) Κ,l,Κ,⟨_,HC.of (u _ _ O)⟩,?_⟩
    refine ig (xs:=c8 r.s) (λ_=>Γ) (λv=>match v with|.int i =>.bl (decide (i∈iz (ia Ä a r.p)))|_ =>.HU) (by rw[ϊ];simp only[c8,Ρ];lia) (HC.of (u _ _ O)) (λy acc N hy h=>?_) (λD M=>?_)
    ·obtain⟨k',_,rfl⟩:=Â.mp hy
     exact⟨_,B,_,Κ,by rw[←tT];exact HC.of J,by simpa using h⟩
    ·rw[wq]
     refine⟨D,_,Κ,HC.of ae,?_⟩
     have:=q _ (u.new (o:=.π ((r.s.map λk=>decide (k∈ia Ä a r.p)).map V.bl)) M)
     rw[Y]at this
     rw[uo]
     exact this
structure Ts where
 tab:Ο
 told:Ο
inductive ye(K:ϧ)(vs:List V)(H:Hp)(Q:VK)(E:XK):Prop
 |mk (x C dx:Ο) (lv:V) (_:vs=[.ref x,lv]) (_:H x=Α (.ρ C dx [])) (_:Km K C) (_:HL K C "land") (_:Q .HU (ο H x (.ρ C dx [("land",lv)])))
noncomputable def yL(r:Rw):V:=.int (Yd.Ic r.s 0:Nat)
inductive yd(P:Program)(w:Å)(K:ϧ)(c:Cs)(ts:Ts)(vs:List V)(H:Hp)(Q:VK)(E:XK):Prop
 |mk (x dx lx HJ lt p:Ο) (n:Int) (HE HX:List V) (ps:IPs) (rs:List Rw) (_:vs=[.ref x,.ref lx,.ref p]) (_:H x=Α (.ρ ts.told dx [])) (_:cK H c lx HJ lt n HE ps) (_:HC K H p HX) (_:Md H HX rs) (_:HX.length<=100000) (_:ps.length<=1000) (_:(∀r∈rs,(∀k∈r.s,k<=1000)/\r.s.length<=1000)) (_:(∀i,eA n ps rs rs.length=Α i->False)) (_:(eA n ps rs rs.length=Β->∀H' de kvs,Off x H H'->H' x=Α (.ρ ts.told dx [("land",.ref lx),("entries",.ref de)])->ID P w H' de kvs->(∀k,cM kvs k=(dI rs k).map yL)->Q .HU H'))
inductive uL(P:Program)(w:Å)(ts:Ts)(vs:List V)(H:Hp)(Q:VK)(E:XK):Prop
 |mk (x dx de:Ο) (lv:V) (kvs:List eR) (r:Rw) (m:Nat) (_:vs=[.ref x,.int r.p,.int r.g,cV r.c]) (_:H x=Α (.ρ ts.told dx [("land",lv),("entries",.ref de)])) (_:ID P w H de kvs) (_:(cM kvs (aP r)).getD (.int 0)=.int m) (_:m<2^400) (_:∀H' D,Hz H H'->H' D=Β->Q (.ref D) (ο H' D (.π (fF m))))
structure Tbl(K:ϧ)(mg:Str->Option Φ)(ts:Ts)(f1:Ο)(d1:Đ):Prop where
 ct:Km K ts.tab
 nt:HL K ts.tab "land"
 cd:Km K ts.told
 Uz:HL K ts.told "land"
 XI:HL K ts.told "entries"
 mt:mg "Table"=Α (.ref ts.tab)
 cm:B6 K ts.tab "__init__" f1
 bt:Binds K d1 xG []
abbrev NT:List Str:=["self","land","rows","number","row","key"]
theorem Off.land(o:Off x H H')(a:H x=Α (.ρ C dx []))(h:cK H c lx HJ lt n HE ps):cK H' c lx HJ lt n HE ps:=
 ⟨o _ _ (bc h.1 a (by grind)) h.1,o _ _ (bc h.2.1 a (by grind)) h.2.1,o.MU a h.2.2⟩
theorem U0:aq xG xG (ag Fk):=bM
theorem FJ(F:HZ K "__init__" "Table.__init__" Fk f fd):HB P w K mg μ aK 1 f fd xG (ye K):=by
 refine F.ok U0 λ_ _ _ s H _ Q E e h=>?_
 obtain⟨x,C,a,g,rfl,b,c,d,q⟩:=h
 exact⟨_,af (bp (pv 0) (pv 1) Κ),x,C,a,_,Κ,b,c,d,by show 0<1000;decide,q⟩
theorem BS:aq kn kn (ag sO):=bM
theorem zG(F:HZ K "ways" "Told.ways" sO f fd)(B:Tbl K mg ts f1 d1)(i:Ca P w K mg μ "members" 2 ["some"] nn):HB P w K mg μ aK 3 f fd kn (uL P w ts):=by
 refine F.ok BS λ_ _ _ s H _ Q E b h=>?_
 obtain⟨x,j,l,A,a,r,m,rfl,n,d,o,u,q⟩:=h
 have v:=ma b
 refine⟨_,af (ao (bF i b (aa (qP v (aR (pv 0)) (aa (aM (aa (pv 1) (aa (pv 2) (aa (pv 3) ad)))) (aa ah ad))) ad))),x,_,j,_,_,Κ,n,B.cd,B.XI,Κ,l,a,Κ,d,by show 3<=Χ;decide,λt y=>?_⟩
 have e:Hz H (ο H t (.tup [.int r.p,.int r.g,cV r.c])):=(Hz.refl H).new y
 refine⟨_,_,_,Κ,⟨a,aP r,t,d.same e,Κ,by rw[vK];exact ae,Κ⟩,?_⟩
 rw[o]
 exact⟨m,Κ,u,λD z=>q _ D e z⟩
theorem Lc:aq NT Bw (ag yQ):=bM
theorem C6(F:HZ K "__init__" "Told.__init__" yQ f fd)(T:dz mg)(B:Tbl K mg ts f1 d1)(G1:HB P w K mg μ aK 1 f1 d1 xG (ye K))
  (Gf:Ca P w K mg μ "row_fits" 4 ["land","row"] (yE c))
  (Gs:Ca P w K mg μ "set_of" 1 qa (yh K)):
  HB P w K mg μ aK 5 f fd Bw (yd P w K c ts):=by
 refine F.ok Lc λ_ _ _ s H _ Q E U h=>?_
 obtain⟨x,C,J,HJ,lt,p,n,HE,HX,X,D,rfl,L,hL,hp,hR,hlen,Np,R,hE,hQ⟩:=h
 have hr1:Il 1 _:=U.mono (by decide)
 have hu:=ma U
 refine⟨_,ac (aF (qQ (fT (v:=.ref ts.tab) Κ B.mt Κ) B.cm G1 hr1 B.bt .nil cU (aa (pv 0) (aa (pv 1) ad))))
  (ac (bp (pv 0) (show PE _ _ (xW P w) from vt) Κ)
  (af (eI (lC Κ T.enum (aa (pv 2) ad)) (bO Κ (av (b9 3 Lc.nd) (av (b9 4 Lc.nd) bz)))
   (ac (bG 5 Lc.nd (aM (aa (be HA (pv 4) ah) (aa (be HA (pv 4) ah) (aa (be HA (pv 4) ah) ad)))))
   (ac (aC (PW.pt (c9 (ba (aQ (bF Gf U (aa (pv 1) (aa (pv 4) ad))))) (bT (jE (FD hu (pv 5) (aR (pv 0)))))))
    (af b7) ar)
   (af (vm hu (aR (pv 0)) (pv 5) (bF Gs U (aa (be HA (pv 4) ah) ad)) Κ))))))),?_⟩
 refine⟨Κ,x,_,C,_,Κ,L,B.cd,B.Uz,?_⟩
 refine λm Y=>⟨x,ts.told,C,[("land",.ref J)],Κ,cf ae Y _,B.cd,B.XI,by grind,?_⟩
 have Z:=ai ae Y
 have NP:H m=Β:=by rw[aj (ϗ Z)]at Y;exact Y
 generalize NC:ο (ο (ο H x (.ρ ts.told C [("land",.ref J)])) m (mO P w m [])) x (.ρ ts.told C (aO "entries" (.ref m) [("land",.ref J)]))=H2
 have o2:Off x H H2:=λb o S e=>by rw[←NC,aj S,aj (ai e NP),aj S];exact e
 have x2:H2 x=Α (.ρ ts.told C [("land",.ref J),("entries",.ref m)]):=by rw[←NC,ae];rfl
 have d2:ID P w H2 m []:=⟨by rw[←NC,aj (ϗ Z),ae],λy hy=>by cases hy⟩
 have U1:=Paired.length hR
 refine⟨p,Κ,⟨_,o2.sq L hp⟩,fI (sq:=λH=>HC K H p) (xs:=HX) (λi σ u=>∃(a b k:Option V)(d:List eR),Off x H u/\u x=Α (.ρ ts.told C [("land",.ref J),("entries",.ref m)])/\ID P w u m d/\d.length<=i/\
   (∀k,cM d k=(dI (D.take i) k).map yL)/\(∀j,j<i->rZ n X (D.take j) (D.getD j ⟨0,0,Β,[]⟩)=Δ)/\σ=[Α (.ref x),Α (.ref J),Α (.ref p),a,b,k])
  ⟨Β,Β,Β,[],o2,x2,d2,Ξ _,λk=>rfl,λj hj=>Ι hj (Ņ _),Κ⟩ (λi σ u _ HD=>by obtain⟨_,_,_,_,G,_⟩:=HD;exact G.sq L hp) ?_ ?_⟩
 ·rintro i v q σ u hv ⟨a,b,k,d,G,x3,d3,l3,M,g3,rfl⟩ hq
  obtain⟨r,A,t,l,rfl,hT⟩:=Md.get hR hv
  have hi:=(gQ0 A)
  have egd:D.getD i ⟨0,0,Β,[]⟩=r:=by grind
  have Mf:Rc u t l r:=⟨G _ _ (bc hT.1 L (by grind)) hT.1,G _ _ (bc hT.2 L (by grind)) hT.2⟩
  have Le:=G.land L hL
  have s4:Hz u (ο u q (.tup [.int i,.ref t])):=(Hz.refl u).new hq
  refine⟨q,_,Κ,HF.of ae,Κ,_,_,Κ,_,_,Κ,Κ,?_⟩
  generalize ο u q _=H4 at s4⊢
  have Mg:HF K H4 t [.int r.p,.int r.g,cV r.c,.ref l]:=HF.of (s4 _ _ Mf.1)
  refine⟨t,_,0,_,Κ,Κ,Mg,al (j:=0) Κ,t,_,1,_,Κ,Κ,Mg,al (j:=1) Κ,t,_,2,_,Κ,Κ,Mg,al (j:=2) Κ,by show 3<=Χ;decide,λI hkt=>?_⟩
  have N:Hz u (ο H4 I (.tup [.int r.p,.int r.g,cV r.c])):=s4.new hkt
  have k5:(ο H4 I (.tup [.int r.p,.int r.g,cV r.c])) I=Α (.tup ((aP r).map xI)):=by rw[vK];exact ae
  generalize ο H4 I _=H5 at N k5⊢
  refine⟨J,_,_,t,l,n,_,X,r,Κ,⟨N _ _ Le.1,N _ _ Le.2.1,HW.same N Le.2.2⟩,Mf.same N,Np,(R r (Ψ A)).2,λH6 Ri=>⟨_,Κ,?_⟩⟩
  have s6:=N.trans Ri
  have k6:=Ri _ _ k5
  have x6:=s6 _ _ x3
  have O:=d3.same s6
  have Qi:rZ n X (D.take i) r=Γ->False:=λS=>hE i (mT hi g3 (by grind))
  cases hf:eY n X r with
  | false =>
   exact az (az (Qi (by rw[m8,hf];rfl)))
  | true =>
   refine au ⟨x,ts.told,C,_,_,Κ,x6,B.cd,B.XI,Κ,m,_,Κ,⟨d,aP r,I,O,Κ,k6,Κ⟩,_,Κ,?_⟩
   have eS:(cM d (aP r)).isSome=(D.take i).any λa=>decide (aP a=aP r):=by rw[M,ĕ,pE]
   cases hS:(cM d (aP r)).isSome with
   | true =>
    exact az (Qi (by rw[m8,hf,←eS,hS];rfl))
   | false =>
    refine au ?_
    have O5:=Mf.same s6
    refine⟨t,_,3,_,Κ,Κ,HF.of O5.1,al (j:=3) Κ,l,_,Κ,HC.of O5.2,(R r (Ψ A)).1,x,_,C,_,_,Κ,x6,B.cd,B.XI,Κ,m,d,_,I,Κ,O,Κ,k6,by rw[ϊ];lia,?_⟩
    have hx6:=Z
    refine⟨_,_,_,gK d (aP r) I (yL r),λb' o S e=>?_,?_,⟨ae,n0 (F:=λk a=>(ο H6 m (mO P w m (gK d (aP r) I (yL r)))) a=Α (.tup (k.map xI))) (λy hy=>?_) ?_⟩,?_,λk'=>?_,λj hj=>?_,Κ⟩
    ·rw[aj (ai e NP)];exact s6 _ _ (G _ _ S e)
    ·rw[aj Z];exact x6
    ·rw[aj (bc (O.2 y hy) O.1 (by intro z;cases z))];exact O.2 y hy
    ·rw[aj (bc k6 O.1 (by intro z;cases z))];exact k6
    ·exact Í gJ (Nat.succ_le_succ l3)
    ·rw[iV,Ì,A,ŗ,tR,M]
     grind
    grind
 ·rintro σ u ⟨a,b,k,d,G,x3,d3,l3,M,g3,rfl⟩
  rw[U1]at g3 M
  rw[Æ]at M
  exact hQ (iC g3) u m d G x3 d3 M
noncomputable def nV(ps:List Nat):List V:=ps.map λq:Nat=>V.int (q:Int)
theorem aw(a:List Nat):(nV a).length=a.length:=by simp[nV]
theorem bB{k q:Nat}(h:ps[k]?=Α q):(nV ps)[k]?=Α (V.int (q:Int)):=by simp[nV,h]
theorem eV(a b:List Nat):nV (a++b)=nV a++nV b:=by unfold nV;grind
theorem Aj(h:v∈nV ps):∃q:Nat,q∈ps/\v=.int (q:Int):=by
 obtain⟨q,a,e⟩:=Â.mp h
 exact⟨q,a,e.symm⟩
inductive gm(c:Cs)(sel:Int×Int->Int)(vs:List V)(H:Hp)(Q:VK)(E:XK):Prop
 |mk (x dx t:Ο) (n:Int) (HE:List V) (ps:IPs) (k:Nat) (pr:Int×Int) (_:vs=[.ref x,.int k]) (_:cK H c x dx t n HE ps) (_:ps[k]?=Α pr) (_:Q (.int (sel pr)) H)
theorem bC(a b:Int):decide (V.int a=V.int b)=decide (a=b):=by
 grind
theorem fW(h:p<F.length):(nV F)[p]?=Α (V.int ((F.getD p 0:Nat):Int)):=by
 have e:=Λ h
 rw[bB e,Ω,e];rfl
theorem G8(F:List Nat)(i v:Nat):(nV F).set i (.int (v:Int))=nV (F.set i v):=by unfold nV;rw[List.map_set]
theorem js(h:i<n):AE n (i:Int)=Α i:=by
 unfold AE
 grind
noncomputable def mN(m:Nat):List Nat:=Yd.J7 m (Ϭ (m:Int))
theorem Ak:∀{a b:List Nat},nV a=nV b->a=b
 |[],[],_=>rfl
 |[],_:: _,h=>by cases h
 |_:: _,[],h=>by cases h
 | x:: a,y:: b,h=>by
  unfold nV at h
  rw[È,È]at h
  injection h with c d
  injection c with c
  rw[Ak (a:=a) (b:=b) d,show x=y by lia]
theorem U3:aq eC eC (ag Fx):=bM
theorem Gu(F:HZ K "end_of" "Land.end_of" Fx f fd)(L:i3 K c):HB P w K mg μ aK 1 f fd eC (gm c Î):=by
 refine F.ok U3 λ_ _ _ s H _ Q E m h=>?_
 obtain⟨x,a,t,n,o,p,k,r,rfl,⟨b,d,e⟩,g,q⟩:=h
 refine⟨_,af (ao (be HA (be HA (aR (pv 0)) (pv 1)) ah)),?_⟩
 obtain⟨v,i,u,rfl,l⟩:=HW.LZ e g
 refine⟨x,_,a,_,_,Κ,b,L.cl,L.nl,Κ,t,_,_,_,Κ,Κ,HF.of d,al i,u,_,1,_,Κ,Κ,HF.of l,al (j:=1) Κ,q⟩
noncomputable def isI:V->Bool
 |.int _=>Γ
 |_=>Δ
noncomputable def nD:V->Int->Int->Bool
 |.int i,a,b=>decide (a<=i/\i<=b)
 |_,_,_=>Δ
inductive xF:V->Prop
 |int (i:Int):xF (.int i)
 |bl (b:Bool):xF (.bl b)
 |HU:xF .HU
structure B0(K:ϧ):Prop where
 ii:Ķ K (.type "int") (.type "int")=Α Γ
 ib:Ķ K (.type "int") (.type "bool")=Α Δ
 bi:Ķ K (.type "bool") (.type "int")=Α Γ
 bb:Ķ K (.type "bool") (.type "bool")=Α Γ
 ni:Ķ K (.type "NoneType") (.type "int")=Α Δ
inductive iX(vs:List V)(H:Hp)(Q:VK)(_:XK):Prop
 |mk (v)(_:vs=[v])(_:xF v)(_:Q (.bl (isI v)) H)
inductive io(vs:List V)(H:Hp)(Q:VK)(E:XK):Prop
 |mk (v:V) (a b:Int) (_:vs=[v,.int a,.int b]) (_:xF v) (_:Q (.bl (nD v a b)) H)
theorem HW.imp(h:∀v p,Eh H v p->Eh H' v p):∀{a:List V}{b:IPs},HW H a b->HW H' a b:=λc=>by
 induction c with
 |nil=>exact .nil
 |cons z r d=>exact .cons (h _ _ z) d
noncomputable def hV:Option Int->V
 |none =>.HU
 |some z =>.int z
abbrev Fs:=List (Str×V)
noncomputable def mP(r b:Int)(h:V)(pa:Ο):Fs:=[("rights",.int r),("returning",.int b),("holder",h),("pieces",.ref pa)]
structure Ii(H:Hp)(C x dx pa:Ο)(r b:Int)(h:Option Int)(HR:List V)(qs:IPs):Prop where
 ρ:H x=Α (.ρ C dx (mP r b (hV h) pa))
 π:H pa=Α (.π HR)
 Jr:HW H HR qs
def Jy(x pa:Ο)(H H':Hp):Prop:=∀a o,a≠x->a≠pa->H a=Α o->H' a=Α o
theorem Jy.MU{fs:Fs}(h:Jy x pa H H')(a:H x=Α (.ρ C dx fs))(b:H pa=Α (.π HR)):HW H vs qs->HW H' vs qs:=
 HW.imp λ_ _ c=>by obtain⟨t,e,q⟩:=c;exact⟨t,e,h _ _ (bc q a (by grind)) (bc q b (by grind)) q⟩
theorem Ii.same(L:Ii H C x dx pa r b h HR qs)(s:Hz H H'):Ii H' C x dx pa r b h HR qs:=⟨s _ _ L.ρ,s _ _ L.π,HW.same s L.Jr⟩
noncomputable def bL(r:Int)(h:Option Int)(l c:Int):Bool:=if r=0 then Δ else if c=0 then decide (h=Β) else decide (h=Α l)
theorem GO(h:Option Int):decide (hV h=V.HU)=decide (h=Β):=by cases h<;>rfl
theorem GP(h:Option Int)(l:Int):decide (hV h=V.int l)=decide (h=Α l):=by
 cases h with
 |none=>rfl
 | some z =>
  show decide (V.int z=V.int l)=_
  grind
theorem D1(h:Option Int)(l:Int):Fa (hV h) (.int l)=Γ:=by cases h<;>rfl
structure EH(K:ϧ)(C:Ο):Prop where
 cl:Km K C
 n1:HL K C "rights"
 n2:HL K C "returning"
 n3:HL K C "holder"
 n4:HL K C "pieces"
inductive y6(C:Ο)(vs:List V)(H:Hp)(Q:VK)(E:XK):Prop
 |mk (x dx:Ο) (room:Int) (_:vs=[.ref x,.int room]) (_:H x=Α (.ρ C dx [])) (_:∀(pa:Ο)(H':Hp),H pa=Β->(∀a o,a≠x->H a=Α o->H' a=Α o)->Ii H' C x dx pa room 0 Β [] []->Q .HU H')
inductive oN(C:Ο)(vs:List V)(H:Hp)(Q:VK)(E:XK):Prop
 |mk (x dx pa:Ο) (r b:Int) (h:Option Int) (l c:Int) (_:vs=[.ref x,.int l,.int c]) (_:H x=Α (.ρ C dx (mP r b (hV h) pa))) (_:Q (.bl (bL r h l c)) H)
inductive Et(C:Ο)(vs:List V)(H:Hp)(Q:VK)(E:XK):Prop
 |mk (x dx pa:Ο) (r b:Int) (h:Option Int) (HR:List V) (qs:IPs) (l c:Int) (last:Bool) (_:vs=[.ref x,.int l,.int c,.bl last]) (_:Ii H C x dx pa r b h HR qs) (_:HR.length<100000) (_:(bL r h l c=Δ->False)) (_:(bL r h l c=Γ->∀(t:Ο)(H':Hp),Jy x pa H H'->Ii H' C x dx pa (r - 1) b (if last then Β else Α l) (HR++[.ref t]) (qs++[(l,c)])->Q .HU H'))
noncomputable def tX:List V->V
 |[] =>.HU
 |v:: _=>v
inductive kA(C:Ο)(vs:List V)(H:Hp)(Q:VK)(E:XK):Prop
 |mk (x dx pa:Ο) (r b:Int) (h:Option Int) (HR:List V) (qs:IPs) (_:vs=[.ref x]) (_:Ii H C x dx pa r b h HR qs) (_:Q (tX HR) H)
inductive sK(C:Ο)(vs:List V)(H:Hp)(Q:VK)(E:XK):Prop
 |mk (x dx pa:Ο) (r b:Int) (h:Option Int) (HR:List V) (qs:IPs) (_:vs=[.ref x]) (_:Ii H C x dx pa r b h HR qs) (_:(HR=[]->False)) (_:(∀v rest,HR=v:: rest->∀H':Hp,Jy x pa H H'->Ii H' C x dx pa r (b+1) h rest qs.tail->Q v H'))
inductive vc(C:Ο)(vs:List V)(H:Hp)(Q:VK)(E:XK):Prop
 |mk (x dx pa:Ο) (r b:Int) (h:Option Int) (HR:List V) (qs:IPs) (_:vs=[.ref x]) (_:Ii H C x dx pa r b h HR qs) (_:(b=0->False)) (_:(b≠0->∀H':Hp,Jy x pa H H'->Ii H' C x dx pa (r+1) (b - 1) h HR qs->Q .HU H'))
theorem seq0(n:Nat):IA 0 (n+1)=Α 0:=by
 unfold IA
 simp
theorem nE(F:HZ K "is_whole" "is_whole" gF f fd)(T:dz mg)(Z:B0 K):HB P w K mg μ aK 1 f fd uq iX:=by
 refine F.ok vg λ_ _ _ s H _ Q E c h=>?_
 obtain⟨v,rfl,a,q⟩:=h
 refine⟨_,af (ao (cv (aH j2 Κ T.O4 ϯ (aa (pv 0) (aa (du (v:=.ty "int") Κ T.int PySem.Pv.boot_int Κ) ad)))
  (cP (tD (aH j2 Κ T.O4 ϯ (aa (pv 0) (aa (du (v:=.ty "bool") Κ T.bool PySem.Pv.boot_bool Κ) ad))))))),?_⟩
 cases a with
 |int i=>exact⟨_,_,_,_,Κ,.int i,Z.ii,_,Κ,az ⟨.int i,_,"bool",Δ,Κ,.int i,Z.ib,Δ,Κ,q⟩⟩
 |bl b=>exact⟨_,_,_,_,Κ,.bl b,Z.bi,_,Κ,az ⟨.bl b,_,"bool",Γ,Κ,.bl b,Z.bb,Γ,Κ,q⟩⟩
 |HU=>exact⟨_,_,_,_,Κ,.HU,Z.ni,_,Κ,au q⟩
theorem tJ(F:HZ K "is_within" "is_within" kC f fd)(T:dz mg)(Z:B0 K)(d:mg "is_whole"=Α (.ref fh))(c:HZ K "is_whole" "is_whole" gF fh La)(e:Binds K La uq []):
  HB P w K mg μ aK 2 f fd ko io:=by
 have G:HB P w K mg μ aK 1 fh La uq iX:=nE c T Z
 refine F.ok qy λ_ _ _ s H _ Q E g h=>?_
 obtain⟨v,a,b,rfl,j,q⟩:=h
 refine⟨_,af (ao (cv (iq G g Κ d c.kp e .nil cU (aa (pv 0) ad)) (cP (qR nB nB (pv 1) (pv 0) (pv 2))))),?_⟩
 cases j with
 |bl x=>exact⟨_,Κ,.bl x,_,Κ,au q⟩
 |HU=>exact⟨_,Κ,.HU,_,Κ,au q⟩
 | int i =>
  refine⟨_,Κ,.int i,_,Κ,az ?_⟩
  refine⟨_,_,Κ,Κ,_,Κ,?_⟩
  have q:Q (V.bl (decide (a<=i/\i<=b))) H:=q
  by_cases l:a<=i
  ·rw[Ε l]
   refine az ⟨_,_,Κ,Κ,?_⟩
   grind
  grind
theorem U4:aq so so (ag Fu):=bM
theorem FY(F:HZ K "__init__" "Lane.__init__" Fu f fd)(L:EH K C):HB P w K mg μ aK 1 f fd so (y6 C):=by
 refine F.ok U4 λ_ _ _ s H _ Q E n h=>?_
 obtain⟨x,c,room,rfl,m,q⟩:=h
 refine⟨_,ac (bp (pv 0) (pv 1) Κ) (ac (bp (pv 0) ah Κ) (ac (bp (pv 0) aT Κ) (af (bp (pv 0) (aJ ad) Κ)))),x,C,c,_,Κ,m,L.cl,L.n1,by show 0<1000;decide,x,C,c,_,Κ,ae,L.cl,L.n2,by show 1<1000;decide,x,C,c,_,Κ,ae,L.cl,L.n3,by show 2<1000;decide,ϡ _,λd i=>?_⟩
 have b:=ai ae i
 refine⟨x,C,c,_,Κ,aI b ae _,L.cl,L.n4,by show 3<1000;decide,?_⟩
 have l:H d=Β:=by
  rw[aj (ϗ b),aj (ϗ b),aj (ϗ b)]at i
  exact i
 refine q d _ l (λa o g e=>?_) ⟨ae,aI (ϗ b) ae _,.nil⟩
 have j:a≠d:=λz=>by
  rw[z,l]at e
  cases e
 rw[aj g,aj j,aj g,aj g,aj g]
 exact e
theorem Ff:aq ut ut (ag yV):=bM
theorem CH(F:HZ K "open_to" "Lane.open_to" yV f fd)(L:EH K C):HB P w K mg μ aK 1 f fd ut (oN C):=by
 refine F.ok Ff λ_ _ _ s H _ Q E i h=>?_
 obtain⟨x,e,j,r,b,h,l,c,rfl,g,q⟩:=h
 refine⟨_,ac (aC (bJ br (aR (pv 0)) ah) (af (ao bY)) ar)
  (ac (aC (bJ br (pv 2) ah) (af (ao (vn jG (aR (pv 0)) aT))) ar)
  (af (ao (vn br (aR (pv 0)) (pv 1))))),?_⟩
 refine⟨x,C,e,_,_,Κ,g,L.cl,L.n1,Κ,Κ,_,Κ,?_⟩
 rw[bC]
 unfold bL at q
 by_cases a:r=0
 ·rw[Ε a]
  rw[Θ a]at q
  exact az q
 rw[Ζ a]
 rw[Η a]at q
 refine au ⟨Κ,_,Κ,?_⟩
 rw[bC]
 by_cases d:c=0
 ·rw[Ε d]
  rw[Θ d]at q
  refine az ⟨x,C,e,_,_,Κ,g,L.cl,L.n3,Κ,Κ,?_⟩
  rw[GO]
  exact q
 ·rw[Ζ d]
  rw[Η d]at q
  refine au ⟨x,C,e,_,_,Κ,g,L.cl,L.n3,Κ,D1 h l,?_⟩
  rw[GP]
  exact q
theorem U5:aq Bt Bt (ag Fp):=bM
theorem FN(F:HZ K "put" "Lane.put" Fp f fd)(L:EH K C)(Go:Me P w K mg μ C "open_to" 1 ut (oN C)):
  HB P w K mg μ aK 2 f fd Bt (Et C):=by
 refine F.ok U5 λ_ _ _ s H _ Q E Y h=>?_
 obtain⟨x,g,d,r,b,h,m,Z,l,c,last,rfl,i,O,h1,R⟩:=h
 refine⟨_,ac (aC (ba (aQ (cE (pv 0) L.cl Go Y (aa (pv 1) (aa (pv 2) ad))))) (af b7) ar)
  (ac (fu (pv 0) ah vS)
  (ac (aF (ck plainAttrs_list PySem.F.slot_list_append PySem.F.type_list_append bq (aR (pv 0)) (aa (aM (aa (pv 1) (aa (pv 2) ad))) ad)))
  (af (bp (pv 0) (dC (aQ (pv 3)) aT (pv 1)) Κ)))),?_⟩
 refine⟨x,g,_,Κ,i.ρ,Κ,x,g,d,r,b,h,l,c,Κ,i.ρ,_,Κ,?_⟩
 cases v:bL r h l c with
 | false =>
  exact az (h1 v)
 | true =>
  refine au ?_
  refine⟨x,C,g,_,_,Κ,i.ρ,L.cl,L.n1,Κ,_,_,Κ,Κ,g,_,i.ρ,by show 4<1000;decide,?_⟩
  have y:=bc i.π i.ρ (by intro z;cases z)
  have A:(ο H x (.ρ C g (aO "rights" (.int (r - 1)) (mP r b (hV h) d)))) x=Α (.ρ C g (mP (r - 1) b (hV h) d)):=ae
  have q:=aI y i.π (.ρ C g (aO "rights" (.int (r - 1)) (mP r b (hV h) d)))
  have S:Jy x d H (ο H x (.ρ C g (aO "rights" (.int (r - 1)) (mP r b (hV h) d)))):=λa o j _ e=>aI j e _
  generalize ο H x _=B at A q S⊢
  refine⟨x,C,g,_,_,Κ,A,L.cl,L.n4,Κ,.inl ⟨Κ,_,HC.of q⟩,by show 2<=Χ;decide,λt ht=>?_⟩
  have p:=(Hz.refl B).new (o:=.tup [.int l,.int c]) ht
  have gt:=aX B t (.tup [.int l,.int c])
  generalize ο B t _=D at p gt⊢
  refine⟨d,m,_,Κ,Κ,p _ _ q,by rw[ϊ];lia,?_⟩
  have u:=aI (ϗ y) (p _ _ A) (.π (m++[.ref t]))
  have T:=aX D d (.π (m++[.ref t]))
  have G:Jy x d H (ο D d (.π (m++[.ref t]))):=λa o j n e=>by rw[aj n];exact p _ _ (S a o j n e)
  have I:=bc gt (p _ _ q) (by intro z;cases z)
  have J:=aI I gt (.π (m++[.ref t]))
  generalize ο D d _=U at u T G J⊢
  have M:=bc J u (by intro z;cases z)
  have fin:∀N:Option Int,Ii (ο U x (.ρ C g (aO "holder" (hV N) (mP (r - 1) b (hV h) d)))) C x g d (r - 1) b N (m++[.ref t]) (Z++[(l,c)]):=λN =>
   ⟨ae,aI y T _,HW.snoc ⟨t,Κ,aI M J _⟩ (Jy.MU (λa o j n e=>by rw[aj j];exact G a o j n e) i.ρ i.π i.Jr)⟩
  have off:∀X,Jy x d H (ο U x X):=λX a o j n e=>by rw[aj j];exact G a o j n e
  refine⟨_,Κ,?_⟩
  cases last with
  |true=>exact az ⟨x,C,g,_,Κ,u,L.cl,L.n3,by show 4<1000;decide,R v t _ (off _) (fin Β)⟩
  |false=>exact au ⟨x,C,g,_,Κ,u,L.cl,L.n3,by show 4<1000;decide,R v t _ (off _) (fin (Α l))⟩
theorem BU:aq gj gj (ag sX):=bM
theorem zU(F:HZ K "front" "Lane.front" sX f fd)(L:EH K C):HB P w K mg μ aK 1 f fd gj (kA C):=by
 refine F.ok BU λ_ _ _ s H _ Q E g h=>?_
 obtain⟨x,c,d,r,b,h,e,i,rfl,a,q⟩:=h
 refine⟨_,af (ao (dC (fq (aR (pv 0)) (λ_=>rfl)) (be HN (aR (pv 0)) ah) aT)),x,C,c,_,_,Κ,a.ρ,L.cl,L.n4,Κ,_,.inl ⟨_,HC.of a.π,Κ⟩,?_⟩
 cases e with
 |nil=>exact au q
 |cons v rest=>exact az ⟨x,C,c,_,_,Κ,a.ρ,L.cl,L.n4,Κ,d,_,0,v,Κ,Κ,HC.of a.π,al (j:=0) Κ,q⟩
theorem Fb:aq gj gj (ag yR):=bM
theorem CB(F:HZ K "pull" "Lane.pull" yR f fd)(L:EH K C):HB P w K mg μ aK 1 f fd gj (sK C):=by
 refine F.ok Fb λ_ _ _ s H _ Q E D h=>?_
 obtain⟨x,g,d,r,b,h,u,G,rfl,c,y,A⟩:=h
 refine⟨_,ac (aC (ba (fq (aR (pv 0)) (λ_=>rfl))) (af b7) ar)
  (ac (fu (pv 0) ah pK)
  (af (ao (ck plainAttrs_list PySem.F.slot_list_pop PySem.F.type_list_pop Al (aR (pv 0)) (aa ah ad))))),?_⟩
 refine⟨x,C,g,_,_,Κ,c.ρ,L.cl,L.n4,Κ,_,.inl ⟨_,HC.of c.π,Κ⟩,?_⟩
 have m:=bc c.π c.ρ (by intro z;cases z)
 cases u with
 | nil =>
  exact az (y Κ)
 | cons v rest =>
  refine au ?_
  refine⟨x,C,g,_,_,Κ,c.ρ,L.cl,L.n2,Κ,_,_,Κ,Κ,g,_,c.ρ,by show 4<1000;decide,?_⟩
  have i:(ο H x (.ρ C g (aO "returning" (.int (b+1)) (mP r b (hV h) d)))) x=Α (.ρ C g (mP r (b+1) (hV h) d)):=ae
  have j:=aI m c.π (.ρ C g (aO "returning" (.int (b+1)) (mP r b (hV h) d)))
  have n:Jy x d H (ο H x (.ρ C g (aO "returning" (.int (b+1)) (mP r b (hV h) d)))):=λa o l _ e=>aI l e _
  generalize ο H x _=B at i j n⊢
  refine⟨x,C,g,_,_,Κ,i,L.cl,L.n4,Κ,.inl ⟨Κ,_,HC.of j⟩,d,_,0,0,v,Κ,Κ,j,by decide,by decide,seq0 _,Κ,?_⟩
  have p:Jy x d H (ο B d (.π rest)):=λa o l q e=>by rw[aj q];exact n a o l q e
  refine A v rest Κ _ p ⟨aI (ϗ m) i _,ae,?_⟩
  have z:=Jy.MU p c.ρ c.π c.Jr
  cases z with
  |cons _ t=>exact t
theorem BV:aq gj gj (ag tq):=bM
theorem zZ(F:HZ K "bring" "Lane.bring" tq f fd)(L:EH K C):HB P w K mg μ aK 1 f fd gj (vc C):=by
 refine F.ok BV λ_ _ _ s H _ Q E z h=>?_
 obtain⟨x,c,g,r,b,h,A,B,rfl,d,D,u⟩:=h
 refine⟨_,ac (aC (bJ br (aR (pv 0)) ah) (af b7) ar)
  (ac (fu (pv 0) ah vS) (af (fu (pv 0) ah pK))),?_⟩
 refine⟨x,C,c,_,_,Κ,d.ρ,L.cl,L.n2,Κ,Κ,_,Κ,?_⟩
 have l:=bc d.π d.ρ (by grind)
 rw[bC]
 by_cases m:b=0
 ·grind
 ·rw[Ζ m]
  refine au ?_
  refine⟨x,C,c,_,_,Κ,d.ρ,L.cl,L.n2,Κ,_,_,Κ,Κ,c,_,d.ρ,by show 4<1000;decide,?_⟩
  have j:(ο H x (.ρ C c (aO "returning" (.int (b - 1)) (mP r b (hV h) g)))) x=Α (.ρ C c (mP r (b - 1) (hV h) g)):=ae
  have n:Jy x g H (ο H x (.ρ C c (aO "returning" (.int (b - 1)) (mP r b (hV h) g)))):=λa o i _ e=>aI i e _
  have p:=aI l d.π (.ρ C c (aO "returning" (.int (b - 1)) (mP r b (hV h) g)))
  generalize ο H x _=v at j p n⊢
  refine⟨x,C,c,_,_,Κ,j,L.cl,L.n1,Κ,_,_,Κ,Κ,c,_,j,by show 4<1000;decide,?_⟩
  have q:∀t,Jy x g H (ο v x t):=λt a o i y e=>by rw[aj i];exact n a o i y e
  exact u m _ (q _) ⟨ae,aI l p _,Jy.MU (q _) d.ρ d.π d.Jr⟩
noncomputable def vx(m:Nat)(HX:List V):Bool:=decide (HX.length=m)&& HX.all λv=>nD v 1 60
def Sq(K:ϧ)(H:Hp)(a:Ο)(xs:List V):Prop:=HC K H a xs∨HF K H a xs
inductive uM(K:ϧ)(c:Cs)(vs:List V)(H:Hp)(Q:VK)(E:XK):Prop
 |mk (lx HJ lt:Ο) (n:Int) (HE:List V) (ps:IPs) (rv:V) (_:vs=[.ref lx,rv]) (_:cK H c lx HJ lt n HE ps) (_:ps.length<=1000) (_:((rv=.HU/\∀t H',Hz H H'->H' t=Α (.tup (Ϗ ps.length (.int 1)))->Q (.ref t) H')∨(∃ra HX,rv=.ref ra/\Sq K H ra HX/\HX.length<=1000/\(∀v∈HX,xF v)/\(vx ps.length HX=Δ->False)/\(vx ps.length HX=Γ->∀t H',Hz H H'->HF K H' t HX->Q (.ref t) H'))))
noncomputable def GL(s:ϩ):Scope:=match s with
 |.If _ (.Return (Α (.Call _ [.ListComp _ _ sc _] _ _)) _:: _) _ _=>sc
 |_=>zQ0
noncomputable def FG(s:ϩ):Scope:=match s with
 |.If (.BoolOp _ [_,.UnaryOp _ (.Call _ [.ListComp _ _ sc _] _ _) _] _) _ _ _=>sc
 |_=>zQ0
noncomputable def Sl:V->Bool
 |.int i=>decide ((if i<0 then -i else i)<10^(60:Int).toNat)
 |_=>Δ
inductive ya(vs:List V)(H:Hp)(Q:VK)(_:XK):Prop
 |mk (v)(_:vs=[v])(_:xF v)(_:Q (.bl (Sl v)) H)
theorem bH(e:Hz H H')(h:HF K H a xs):HF K H' a xs:=by
 rcases h with h|h
 ·refine .inl ?_
  rcases h with h|⟨o,h⟩
  ·exact .inl (e _ _ h)
  ·exact .inr ⟨o,e _ _ h⟩
 ·exact .inr h
theorem E5(e:PI X tg it a)(f:PI X tg it b):PI X tg it (λd H R=>a d H R∨b d H R):=λc s d H R I h=>h.elim (e c s d H R I) (f c s d H R I)
theorem rR{xs:List V}(f:V->V)(l:xs.length<Χ)(c:∀i,i<xs.length->J.go i H)(m:J.stop xs.length H)(n:∀i x a,J.Ni i H x a->a=H/\xs[i]?=Α x)
  (o:∀(x:V)(N:V->Hp->Prop),x∈xs->N (f x) H->g x σ0 H λd b=>te d b N)
  (p:∀D,H D=Β->Q (.ref D) (ο H D (.π (xs.map f)))):dJ J g oI te σ0 Q H:=by
 refine aW xs.length l (λi acc a=>a=H/\acc=(xs.take i).map f) ⟨Κ,Κ⟩ (λi acc a h=>by rw[h.2,Ρ];exact ü _ _) (λi acc a q h=>?_) (λacc a h=>?_)
 ·obtain⟨rfl,rfl⟩:=h
  refine⟨c i q,λv b y=>?_⟩
  obtain⟨e,j⟩:=n i v b y
  subst e
  exact o v (λy r=>r=b/\(xs.take i).map f++[y]=(xs.take (i+1)).map f) (Ψ j) ⟨Κ,by rw[Ì,j,Ϥ];rfl⟩
 ·obtain⟨rfl,rfl⟩:=h
  rw[Æ]
  exact⟨m,p⟩
theorem GU(f:V->V)(d:xs.length<Χ)(b:HC K H a xs)(e:∀(x:V) (N:V->Hp->Prop),x∈xs->N (f x) H->g x σ0 H λc h=>te c h N)
  (j:∀D,H D=Β->Q (.ref D) (ο H D (.π (xs.map f)))):dJ (B7 K a) g oI te σ0 Q H:=
 rR f d (λi l=>⟨xs,xs[i],b,by simp[l]⟩) ⟨xs,b,Ξ _⟩ (λi x m y=>⟨y.1,y.2 xs b⟩) e j
theorem AX(f:V->V)(d:xs.length<Χ)(b:HF K H a xs)(e:∀(x:V) (N:V->Hp->Prop),x∈xs->N (f x) H->g x σ0 H λc h=>te c h N)
  (j:∀D,H D=Β->Q (.ref D) (ο H D (.π (xs.map f)))):dJ (EJ K a) g oI te σ0 Q H:=
 rR f d (λi l=>⟨xs,xs[i],b,by simp[l]⟩) ⟨xs,b,Ξ _⟩ (λi x m y=>⟨y.1,y.2 xs b⟩) e j
theorem scRo:aq ur ur (ag iG):=bM
theorem bkR1:IP ur (ag iG) (GL ((aB iG).getD 0 (.Pass ⟨0,0,0,0⟩))) [] []:=_L2.Jv
theorem bkR2:IP ur (ag iG) (FG ((aB iG).getD 1 (.Pass ⟨0,0,0,0⟩))) [] []:=_L2.Jv
theorem ndR1:(["lane"]:List Str).Nodup:=by decide +kernel
theorem U6:(["room"]:List Str).Nodup:=by decide +kernel
theorem zH(F:HZ K "rooms_of" "rooms_of" iG f fd)(T:dz mg)(L:i3 K c)
  (O:Ca P w K mg μ "is_within" 2 ko io) (R:mg "MOST_ROOM"=Α (.int 60 t1)):
  HB P w K mg μ aK 3 f fd ur (uM K c):=by
 refine F.ok scRo λ_ _ _ s H _ Q E S h=>?_
 obtain⟨A,B,lt,n,G,g,rv,rfl,j,U,X⟩:=h
 refine⟨_,ac (aC (bJ jG (pv 1) aT) (af (ao (bP ce Κ T.tuple PySem.Pv.boot_tuple (aa (aZ (own:=["lane"]) (capN:=[]) (cap:=[]) bkR1 Κ (dU (aR (pv 0)))
    (λC i m Y=>⟨b9 0 ndR1,bu,ah⟩)) ad)))) ar)
  (ac (aC (kE (PW.pt (c9 (bJ dc (gq T.len (pv 1)) (aH dg Κ T.len PySem.boot_len (aa (aR (pv 0)) ad)))
    (bT (ba (aQ (aH (ij Κ) Κ T.all ą (aa (aZ (own:=["room"]) (capN:=[]) (cap:=[]) bkR2 Κ (E5 (aL (pv 1)) (dU (pv 1)))
     (λC i m Y=>⟨b9 0 U6,bu,bF O S (aa (pv 0) (aa ah (aa (fT (v:=.int 60) Κ R ⟨_,Κ⟩) ad)))⟩)) ad))))))))
   (af b7) ar)
  (af (ao (bP ce Κ T.tuple PySem.Pv.boot_tuple (aa (pv 1) ad))))),?_⟩
 have I:=Paired.length j.2.2
 refine⟨Κ,_,Κ,?_⟩
 rcases X with ⟨rfl,q⟩|⟨e,a,rfl,d,Lh,r,Z,q⟩
 ·refine az ⟨A,c.land,B,_,_,Κ,j.1,L.cl,L.nl,Κ,lt,Κ,⟨_,HF.of j.2.1⟩,?_⟩
  refine AX (λ_ =>.int 1) (by rw[ϊ];lia) (HF.of j.2.1) (λx N l h=>h) (λD u=>?_)
  have s1:=(Hz.refl H).new (o:=.π (G.map λ_=>V.int 1)) u
  refine⟨D,_,Κ,.inl ⟨HC.of ae,λt y=>q t _ (s1.new y) ?_⟩⟩
  rw[ae,List.map_const',I]
 ·refine au ?_
  have J:∀{H:Hp},Sq K H e a->(HC K H e a∨HF K H e a):=λh=>h
  refine⟨λb m=>Hz H m/\b= !vx g.length a,?_,?_⟩
  ·refine⟨e,a,Κ,d,A,_,B,_,_,Κ,j.1,L.cl,L.nl,Κ,_,_,Κ,.inr (HF.of j.2.1),Κ,_,Κ,?_⟩
   rw[bC,I]
   by_cases M:a.length=g.length
   rotate_left
   ·rw[Ζ (show ¬((a.length:Nat):Int)=(g.length:Nat) by lia)]
    refine az ⟨Hz.refl H,?_⟩
    unfold vx
    rw[Ζ M];rfl
   rw[Ε (show((a.length:Nat):Int)=(g.length:Nat) by lia)]
   have step:∀(x:V)(N:V->Hp->Prop),x∈a->N (.bl (nD x 1 60)) H->xF x:=λx _ l _=>r x l
   have fin:∀D,H D=Β->∃(p:Ο)(bs:List Bool),[V.ref D]=[.ref p]/\HC K (ο H D (.π (a.map λv=>V.bl (nD v 1 60)))) p (bs.map V.bl)/\Uaa (λc r=>Hz H r/\(!c)= !vx g.length a) (.bl (bs.all id)) (ο H D (.π (a.map λv=>V.bl (nD v 1 60)))):=λD u=>by
    refine⟨D,_,Κ,HC.of (by rw[ae,Ú];rfl),_,Κ,(Hz.refl H).new u,?_⟩
    unfold vx
    rw[Ε M,Ý,Y2];rfl
   refine au ?_
   rcases d with d|d
   ·refine .inl ⟨e,Κ,⟨_,d⟩,?_⟩
    exact GU (λv =>.bl (nD v 1 60)) (by rw[ϊ];lia) d (λx N l h=>⟨x,1,60,Κ,r x l,h⟩) fin
   ·refine .inr ⟨e,Κ,⟨_,d⟩,?_⟩
    exact AX (λv =>.bl (nD v 1 60)) (by rw[ϊ];lia) d (λx N l h=>⟨x,1,60,Κ,r x l,h⟩) fin
  rintro b m ⟨i,rfl⟩
  cases z:vx g.length a with
  |false=>exact az (Z z)
  | true =>
   refine au ⟨e,a,Κ,?_⟩
   rcases d with d|d
   ·exact .inl ⟨i.seq d,λt y=>q z t _ (i.new y) (HF.of ae)⟩
   ·exact .inr ⟨bH i d,q z e _ i (bH i d)⟩
theorem scWo:aq ["word"] ["word"] (ag yN):=bM
theorem C4(F:HZ K "is_word" "is_word" yN f fd)(T:dz mg)(G:Ca P w K mg μ "is_whole" 1 uq iX):
  HB P w K mg μ aK 2 f fd ["word"] ya:=by
 refine F.ok scWo λ_ _ _ s H _ Q E a h=>?_
 obtain⟨v,rfl,c,q⟩:=h
 refine⟨_,af (ao (cv (bF G a (aa (pv 0) ad)) (cP (vn jX (aH Ba Κ T.abs PyProof.Rows.boot_abs (aa (pv 0) ad)) (aA tF ah ah))))),?_⟩
 cases c with
 |int i=>exact⟨_,Κ,.int i,_,Κ,az ⟨i,Κ,_,_,Κ,Κ,⟨by decide,by decide,by decide⟩,_,_,Κ,Κ,q⟩⟩
 |bl b=>exact⟨_,Κ,.bl b,_,Κ,au q⟩
 |HU=>exact⟨_,Κ,.HU,_,Κ,au q⟩
abbrev Wf:=Nat->Nat->Option Nat->List Nat
abbrev TJ:=Hp->Ο->Nat->Wf->Prop
def NL:HO->Prop
 |.π _=>False
 |.ρ _ _ []=>False
 |.PQ _=>False
 |_=>True
def HY(H H':Hp):Prop:=∀b o,H b=Α o->NL o->H' b=Α o
theorem Hz.HM(s:Hz H H'):HY H H':=λb o e _=>s b o e
theorem HY.trans(a:HY H H1)(b:HY H1 H2):HY H H2:=λx o e n=>b x o (a x o e n) n
theorem HY.MU(k:HY H H')(h:HW H vs ps):HW H' vs ps:=HW.imp (λ_ _ ⟨t,e,q⟩=>⟨t,e,k _ _ q ϥ⟩) h
structure IM(c:Cs)(C:Ο)(J:TJ)(H:Hp)(x lx HJ lt:Ο)(n:Nat)(HE:List V)(ps:IPs)(wy:Wf):Prop where
 j:J H x n wy
 i:∃dx fs,H x=Α (.ρ C dx fs)/\fs.lookup ("land":Str)=Α (.ref lx)/\fs.lookup ("ways":Str)=Β
 l:cK H c lx HJ lt (n:Int) HE ps
 Lw:n<=12
 few:ps.length<=40
 ok:∀p g k,p<n->g<n->∀z∈wy p g k,z<ps.length
structure Wy(K:ϧ)(C:Ο)(J:TJ):Prop where
 cl:Km K C
 nl:HL K C "land"
 IZ:∀H H' x n wy,J H x n wy->HY H H'->J H' x n wy
theorem IM.keep(W:Wy K C J)(h:IM c C J H x lx HJ lt n HE ps wy)(k:HY H H'):IM c C J H' x lx HJ lt n HE ps wy:=
 ⟨W.IZ _ _ _ _ _ h.j k,let ⟨dx,fs,h1,h2⟩:=h.i;⟨dx,fs,k _ _ h1 (by cases fs with|nil=>cases h2.1|cons _ _=>exact ϥ),h2⟩,⟨k _ _ h.l.1 ϥ,k _ _ h.l.2.1 ϥ,k.MU h.l.2.2⟩,h.Lw,h.few,h.ok⟩
inductive dq(J:TJ)(vs:List V)(H:Hp)(Q:VK)(E:XK):Prop
 |mk (x:Ο) (n:Nat) (wy:Wf) (p g:Nat) (k:Option Nat) (_:vs=[.ref x,.int p,.int g,cV k]) (_:J H x n wy) (_:p<n) (_:g<n) (_:∀(D:Ο)(H':Hp),Hz H H'->H D=Β->H' D=Α (.π (nV (wy p g k)))->Q (.ref D) H')
structure Ie where
 r:Int
 b:Int
 h:Option Int
 qs:IPs
structure bj where
 start:Int
 ι:Int
 len:Int
 word:Int
 δ:Int
 ω:List Nat
structure YS where
 rooms:List V
 γ:List Ie
 Hw:List bj
 ε:List (IPs)
 done:List (List V)
structure Ys where
 HH:Ο
 Ih:Ο
 HG:Ο
 ex:List Ο
def Ku(H:Hp)(C:Ο)(ex:List Ο)(v:V)(s:Ie):Prop:=∃x dx pa HR,v=.ref x/\Ii H C x dx pa s.r s.b s.h HR s.qs/\pa∉ex
noncomputable def xJ(s:bj)(wa:Ο):Fs:=[("start",.int s.start),("goal",.int s.ι),("length",.int s.len),("word",.int s.word),("gone",.int s.δ),("way",.ref wa)]
def Li(H:Hp)(C:Ο)(ex:List Ο)(v:V)(s:bj):Prop:=∃x dx wa,v=.ref x/\H x=Α (.ρ C dx (xJ s wa))/\H wa=Α (.π (nV s.ω))/\wa∉ex
def J8(H:Hp)(v:V)(qs:IPs):Prop:=∃t vs,v=.ref t/\H t=Α (.tup vs)/\HW H vs qs
def IQ(H:Hp)(v:V)(m:List V):Prop:=∃t,v=.ref t/\H t=Α (.tup m)
theorem Paired.mono{R c:α->β->Prop}(h:∀a b,R a b->c a b):∀{as:List α}{bs:List β},Paired R as bs->Paired c as bs:=λd=>by
 induction d with
 |nil=>exact .nil
 |cons x r e=>exact .cons (h _ _ x) e
theorem Paired.snoc{a:α}{b:β}(h:R a b):∀{as:List α}{bs:List β},Paired R as bs->Paired R (as++[a]) (bs++[b]):=λc=>by
 induction c with
 |nil=>exact .cons h .nil
 |cons x r d=>exact .cons x d
theorem Paired.at:∀{as:List α}{bs:List β}{i:Nat}{a:α},Paired R as bs->as[i]?=Α a->∃b,bs[i]?=Α b/\R a b:=by
 intro _ _ i _ c
 induction c generalizing i with
 |nil=>intro h;cases h
 | cons x r d =>
  intro h
  cases i with
  |zero=>cases h;exact⟨_,Κ,x⟩
  |succ i=>exact d (i:=i) h
theorem Paired.at2:∀{as:List α}{bs:List β}{i:Nat}{b:β},Paired R as bs->bs[i]?=Α b->∃a,as[i]?=Α a/\R a b:=by
 intro _ _ i _ c
 induction c generalizing i with
 |nil=>intro h;cases h
 | cons x r d =>
  intro h
  cases i with
  |zero=>cases h;exact⟨_,Κ,x⟩
  |succ i=>exact d (i:=i) h
def HP(ex:List Ο)(H H':Hp):Prop:=∀b o,b∉ex->H b=Α o->H' b=Α o
theorem Hz.Iv(s:Hz H H'):HP ex H H':=λb o _ e=>s b o e
theorem HP.trans(a:HP ex H H1)(b:HP ex H1 H2):HP ex H H2:=λx o n e=>b x o n (a x o n e)
theorem HW.Iv(c:∀b∈ex,∃xs,H b=Α (.π xs))(o:HP ex H H')(h:HW H vs ps):HW H' vs ps:=
 HW.imp (λ_ _ a=>by obtain⟨t,e,q⟩:=a;exact⟨t,e,o _ _ (λz=>by grind) q⟩) h
theorem HP.Qj(a:∀b∈ex,∃o,H b=Α o/\¬NL o)(o:HP ex H H'):HY H H':=λb u e n=>o b u (λz=>by grind) e
theorem HP.HM(a:∀b∈ex,∃xs,H b=Α (.π xs))(o:HP ex H H'):HY H H':=o.Qj λb c=>let ⟨xs,hz⟩:=a b c;⟨_,hz,id⟩
theorem Ku.Iv(a:∀b∈ex,∃xs,H b=Α (.π xs))(o:HP ex H H')(h:Ku H C ex v s):Ku H' C ex v s:=by
 obtain⟨x,c,d,f,e,L,n⟩:=h
 have k:=o.HM a
 exact⟨x,c,d,f,e,⟨k _ _ L.ρ ϥ,o _ _ n L.π,HW.Iv a o L.Jr⟩,n⟩
theorem Li.Iv(a:∀b∈ex,∃xs,H b=Α (.π xs))(o:HP ex H H')(h:Li H C ex v s):Li H' C ex v s:=by
 obtain⟨x,c,d,e,f,g,n⟩:=h
 exact⟨x,c,d,e,o.HM a _ _ f ϥ,o _ _ n g,n⟩
theorem J8.keep(k:HY H H')(h:J8 H v qs):J8 H' v qs:=by
 obtain⟨t,a,e,b,c⟩:=h
 exact⟨t,a,e,k _ _ b ϥ,k.MU c⟩
theorem IQ.keep(k:HY H H')(h:IQ H v m):IQ H' v m:=by
 obtain⟨t,e,a⟩:=h
 exact⟨t,e,k _ _ a ϥ⟩
noncomputable def XO(tb ro la le li dn:Ο):Fs:=[("table",.ref tb),("rooms",.ref ro),("lanes",.ref la),("letters",.ref le),("lies",.ref li),("done",.ref dn)]
structure HV(K:ϧ)(ys:Ys)(H:Hp)(y dy tb ro la le li dn:Ο)(s:YS):Prop where
 ρ:H y=Α (.ρ ys.HH dy (XO tb ro la le li dn))
 O6:HF K H ro s.rooms
 υ:∃vs,H la=Α (.π vs)/\Paired (Ku H ys.Ih (la:: le:: li:: dn:: ys.ex)) vs s.γ
 χ:∃vs,H le=Α (.π vs)/\Paired (Li H ys.HG (la:: le:: li:: dn:: ys.ex)) vs s.Hw
 Lv:∃vs,H li=Α (.π vs)/\Paired (J8 H) vs s.ε
 Lj:∃vs,H dn=Α (.π vs)/\Paired (IQ H) vs s.done
 ne:[la,le,li,dn].Nodup
 hex:∀b∈ys.ex,∃xs,H b=Α (.π xs)
theorem HV.Kv(h:HV K ys H y dy tb ro la le li dn s):∀b∈[la,le,li,dn],∃xs,H b=Α (.π xs):=by
 intro b a
 obtain⟨c,d,_⟩:=h.υ
 obtain⟨e,f,_⟩:=h.χ
 obtain⟨g,i,_⟩:=h.Lv
 obtain⟨j,l,_⟩:=h.Lj
 grind
theorem HV.MC(h:HV K ys H y dy tb ro la le li dn s):∀b∈la:: le:: li:: dn:: ys.ex,∃xs,H b=Α (.π xs):=by
 intro b a
 have e:la:: le:: li:: dn:: ys.ex=[la,le,li,dn]++ys.ex:=rfl
 rw[e]at a
 rcases Á.mp a with a|a
 ·exact h.Kv b a
 ·exact h.hex b a
theorem HV.same(h:HV K ys H y dy tb ro a le li dn s)(e:Hz H H'):HV K ys H' y dy tb ro a le li dn s:=by
 have c:=h.MC
 obtain⟨d,f,g⟩:=h.υ
 obtain⟨i,j,l⟩:=h.χ
 obtain⟨m,n,p⟩:=h.Lv
 obtain⟨q,r,t⟩:=h.Lj
 have o:HP (a:: le:: li:: dn:: ys.ex) H H':=Hz.Iv e
 exact⟨e _ _ h.ρ,bH e h.O6,⟨d,e _ _ f,Paired.mono (λ_ _ z=>z.Iv c o) g⟩,⟨i,e _ _ j,Paired.mono (λ_ _ z=>z.Iv c o) l⟩,⟨m,e _ _ n,Paired.mono (λ_ _ z=>z.keep (Hz.HM e)) p⟩,⟨q,e _ _ r,Paired.mono (λ_ _ z=>z.keep (Hz.HM e)) t⟩,h.ne,λb u=>let ⟨xs,hz⟩:=h.hex b u;⟨xs,e _ _ hz⟩⟩
structure mG(K:ϧ)(ys:Ys):Prop where
 cl:Km K ys.HH
 n1:HL K ys.HH "table"
 n2:HL K ys.HH "rooms"
 n3:HL K ys.HH "lanes"
 n4:HL K ys.HH "letters"
 n5:HL K ys.HH "lies"
 n6:HL K ys.HH "done"
 ct:Km K ys.HG
 t1:HL K ys.HG "start"
 t2:HL K ys.HG "goal"
 t3:HL K ys.HG "length"
 t4:HL K ys.HG "word"
 t5:HL K ys.HG "gone"
 t6:HL K ys.HG "way"
 L:EH K ys.Ih
inductive y1(C:Ο)(vs:List V)(H:Hp)(Q:VK)(E:XK):Prop
 |mk (x dx:Ο) (a b l u:Int) (_:vs=[.ref x,.int a,.int b,.int l,.int u]) (_:H x=Α (.ρ C dx [])) (_:∀(wa:Ο)(H':Hp),H wa=Β->(∀z o,z≠x->H z=Α o->H' z=Α o)->H' x=Α (.ρ C dx (xJ ⟨a,b,l,u,0,[]⟩ wa))->H' wa=Α (.π (nV []))->Q .HU H')
theorem U8:aq sm sm (ag zd):=bM
theorem FW(F:HZ K "__init__" "Letter.__init__" zd f fd)(Y:mG K ys):HB P w K mg μ aK 1 f fd sm (y1 ys.HG):=by
 refine F.ok U8 λ_ _ _ s H _ Q E r h=>?_
 obtain⟨x,d,a,b,l,u,rfl,p,q⟩:=h
 refine⟨_,ac (bp (pv 0) (pv 1) Κ) (ac (bp (pv 0) (pv 2) Κ) (ac (bp (pv 0) (pv 3) Κ) (ac (bp (pv 0) (pv 4) Κ) (ac (bp (pv 0) ah Κ) (af (bp (pv 0) (aJ ad) Κ)))))),x,_,d,_,Κ,p,Y.ct,Y.t1,by show 0<1000;decide,x,_,d,_,Κ,ae,Y.ct,Y.t2,by show 1<1000;decide,x,_,d,_,Κ,ae,Y.ct,Y.t3,by show 2<1000;decide,x,_,d,_,Κ,ae,Y.ct,Y.t4,by show 3<1000;decide,x,_,d,_,Κ,ae,Y.ct,Y.t5,by show 4<1000;decide,ϡ _,λi j=>?_⟩
 have c:=ai ae j
 refine⟨x,_,d,_,Κ,aI c ae _,Y.ct,Y.t6,by show 5<1000;decide,?_⟩
 have n:H i=Β:=by
  rw[aj (ϗ c),aj (ϗ c),aj (ϗ c),aj (ϗ c),aj (ϗ c)]at j
  exact j
 refine q i _ n (λz o g e=>?_) ae (aI (ϗ c) ae _)
 have m:=ai e n
 rw[aj g,aj m,aj g,aj g,aj g,aj g,aj g]
 exact e
noncomputable def vI:V->Int
 |.int i=>i
 |_=>0
noncomputable def rp(v:V):Ie:=⟨vI v,0,Β,[]⟩
noncomputable def Y0(rooms:List V)(n:Nat):YS:=⟨rooms,rooms.map rp,[],Ϗ n [],[]⟩
def JU(H0 H:Hp)(C:Ο)(v:V)(s:Ie):Prop:=∃x dx pa,v=.ref x/\Ii H C x dx pa s.r s.b s.h [] []/\s.qs=[]/\H0 x=Β/\H0 pa=Β
theorem JU.same(h:JU H0 H C v s)(e:Hz H H'):JU H0 H' C v s:=by
 obtain⟨x,a,b,c,d,f⟩:=h
 exact⟨x,a,b,c,d.same e,f⟩
def Iw(y:Ο)(ex:List Ο)(H:Hp)(C:Ο)(v:V)(s:Ie):Prop:=∃x dx pa,v=.ref x/\Ii H C x dx pa s.r s.b s.h [] []/\s.qs=[]/\x≠y/\pa≠y/\pa∉ex
theorem JU.UA(h:JU H0 H C v s)(g:H0 y=Α u)(i:∀b∈ex,∃o,H0 b=Α o):Iw y ex H C v s:=by
 obtain⟨x,a,c,d,e,f,j,l⟩:=h
 exact⟨x,a,c,d,e,f,(λz=>by grind),(λz=>by grind),λz=>by grind⟩
theorem Iw.same(h:Iw y ex H C v s)(e:Hz H H'):Iw y ex H' C v s:=by
 obtain⟨x,a,b,c,d,f⟩:=h
 exact⟨x,a,b,c,d.same e,f⟩
theorem Iw.ο(h:Iw y ex H C v s):Iw y ex (ο H y o) C v s:=by
 obtain⟨x,d,e,f,a,g,b,c,i⟩:=h
 exact⟨x,d,e,f,⟨aI b a.ρ _,aI c a.π _,.nil⟩,g,b,c,i⟩
theorem Iw.new(h:Iw y ex H C v s)(b:H a=Β):Iw y (a:: ex) (_L2.ο H a o) C v s:=by
 obtain⟨x,d,e,f,c,g,i,j,l⟩:=h
 exact⟨x,d,e,f,c.same ((Hz.refl H).new b),g,i,j,λz=>(À.mp z).elim (λz=>by rw[z]at c;rw[c.π]at b;cases b) l⟩
theorem Iw.UB(h:Iw y ex H C v s)(b:∀a∈Sa,a∈ex):Ku H C Sa v s:=by
 obtain⟨x,c,d,e,f,g,j,l,i⟩:=h
 exact⟨x,c,d,_,e,by rw[g];exact f,λz=>i (b _ z)⟩
theorem uf(A:HX.length<Χ)(m:HF K H ro HX)(f:∀v∈HX,∃r,v=.int r)
  (B:∀(r:Int)(a:Hp)(N:V->Hp->Prop),Hz H a->(∀x n j c,a x=Β->a j=Β->Hz a c->Ii c C x n j r 0 Β [] []->N (.ref x) c)->g (.int r) σ0 a λo c=>te o c N)
  (E:∀D p a,Hz H a->a D=Β->Paired (JU H a C) p (HX.map rp)->Q (.ref D) (ο a D (.π p))):dJ (EJ K ro) g oI te σ0 Q H:=by
 refine aW HX.length A (λi acc d=>Hz H d/\Paired (JU H d C) acc ((HX.take i).map rp)) ⟨Hz.refl _,.nil⟩ (λi acc d h=>by have:=Paired.length h.2;rw[this,Ρ];exact ü _ _) (λi acc d F h=>?_) (λacc d h=>?_)
 ·obtain⟨s,l⟩:=h
  refine⟨⟨HX,HX[i],bH s m,by simp[F]⟩,λv c y=>?_⟩
  obtain⟨e,y⟩:=y
  subst e
  have q:=y _ (bH s m)
  obtain⟨r,rfl⟩:=f v (Ψ q)
  refine B r c (λy t=>Hz H t/\Paired (JU H t C) (acc++[y]) ((HX.take (i+1)).map rp)) s λx n j M G I u J=>⟨s.trans u,?_⟩
  rw[Ì,q,ŗ,Ϥ]
  exact Paired.snoc (b:=rp (.int r)) ⟨x,n,j,Κ,J,Κ,s.free G,s.free I⟩ (Paired.mono (λ_ _ z=>z.same u) l)
 ·obtain⟨s,l⟩:=h
  rw[Æ]at l
  exact⟨⟨HX,bH s m,Ξ _⟩,λD L=>E D acc d s L l⟩
theorem xx(x:n<=1000)
  (m:∀(i:Nat)(a:Hp)(N:V->Hp->Prop),Hz H a->(∀t,a t=Β->N (.ref t) (ο a t (.tup [])))->g (.int (0+i)) σ0 a λd c=>te d c N)
  (o:∀D f a,Hz H a->a D=Β->Paired (J8 a) f (Ϗ n [])->Q (.ref D) (ο a D (.π f))):dJ (B4 0 n) g oI te σ0 Q H:=by
 refine aW n (by rw[ϊ];lia) (λi acc b=>Hz H b/\Paired (J8 b) acc (Ϗ i [])) ⟨Hz.refl _,.nil⟩ (λi acc b h=>by have:=Paired.length h.2;grind) (λi acc b p h=>?_) (λacc b h=>?_)
 ·obtain⟨s,e⟩:=h
  refine⟨p,λv c y=>?_⟩
  obtain⟨q,r⟩:=y
  subst q r
  refine m i c (λy j=>Hz H j/\Paired (J8 j) (acc++[y]) (Ϗ (i+1) [])) s λt l=>⟨s.new l,?_⟩
  rw[MQ]
  exact Paired.snoc ⟨t,[],Κ,ae,.nil⟩ (Paired.mono (λ_ _ z=>z.keep (Hz.HM ((Hz.refl c).new l))) e)
 ·obtain⟨s,e⟩:=h
  exact⟨Ξ n,λD u=>o D acc b s u e⟩
theorem im{fs:Fs}(b:H y=Α (.ρ C d fs))(h:HF K H a xs):HF K (ο H y o) a xs:=by
 rcases h with h|h
 ·refine .inl ?_
  rcases h with h|⟨u,h⟩
  ·exact .inl (by rw[aj (bc h b (by grind))];exact h)
  ·exact .inr ⟨u,by rw[aj (bc h b (by grind))];exact h⟩
 ·exact .inr h
theorem BK{fs:Fs}(b:H y=Α (.ρ C d fs))(h:HC K H a xs):HC K (ο H y o) a xs:=by
 rcases h with h|h
 ·refine .inl ?_
  rcases h with h|⟨u,h⟩
  ·exact .inl (by rw[aj (bc h b (by grind))];exact h)
  ·exact .inr ⟨u,by rw[aj (bc h b (by grind))];exact h⟩
 ·exact .inr h
inductive lg(K:ϧ)(c:Cs)(TC:Ο)(J:TJ)(ys:Ys)(vs:List V)(H:Hp)(Q:VK)(E:XK):Prop
 |mk (y dy tb lx HJ lt:Ο) (n:Nat) (HE:List V) (ps:IPs) (wy:Wf) (rv:V) (HX:List V) (_:vs=[.ref y,.ref tb,rv]) (_:H y=Α (.ρ ys.HH dy [])) (_:IM c TC J H tb lx HJ lt n HE ps wy) (_:(∀b∈ys.ex,∃xs,H b=Α (.π xs))) (_:((rv=.HU/\HX=Ϗ ps.length (.int 1))∨(∃ra,rv=.ref ra/\Sq K H ra HX/\HX.length<=1000/\(∀v∈HX,xF v)/\(vx ps.length HX=Δ->False)))) (_:(vx ps.length HX=Γ->∀(ro la le li dn:Ο)(H':Hp),HP [y] H H'->H la=Β->H le=Β->H li=Β->H dn=Β->HV K ys H' y dy tb ro la le li dn (Y0 HX n)->Q .HU H'))
noncomputable def UD(s:ϩ):Scope:=match s with
 |.Assign _ (.ListComp _ _ sc _) _=>sc
 |_=>zQ0
theorem kJ(h:nD v a b=Γ):∃r,v=.int r:=by
 cases v<;>first|exact⟨_,Κ⟩|cases h
theorem scYI:aq kq kq (ag jA):=bM
theorem UE:IP kq (ag jA) (UD ((aB jA).getD 2 (.Pass ⟨0,0,0,0⟩))) [] []:=_L2.Jv
theorem UG:IP kq (ag jA) (UD ((aB jA).getD 4 (.Pass ⟨0,0,0,0⟩))) [] []:=_L2.Jv
theorem UH:(["place"]:List Str).Nodup:=by decide +kernel
theorem FH(F:MS K "__init__" "Yard.__init__" jA f fd)(T:dz mg)(L:i3 K c)(Y:mG K ys)(W:Wy K TC J)
  (Gr:Ca P w K mg μ "rooms_of" 3 ur (uM K c))
  (ml:mg "Lane"=Α (.ref ys.Ih)) (Ml:Mk K ys.Ih fl) (bl:Binds K dl so []) (Gl:HB P w K mg μ aK 1 fl dl so (y6 ys.Ih)):
  HB P w K mg μ aK 4 f fd kq (lg K c TC J ys):=by
 refine F.ok scYI λ_ _ _ s H _ Q E hr h=>?_
 obtain⟨y,j,p,lx,HJ,lt,n,HE,ps,wy,rv,D,rfl,hy,hT,hex,hrv,q⟩:=h
 have Qk:∀b∈ys.ex,b∉[y]:=λb O z=>by obtain⟨xs,hz⟩:=hex b O;rw[ϙ.mp z,hy]at hz;cases hz
 have Ra:Il 2 _:=hr.mono (by decide)
 refine⟨_,ac (bp (pv 0) (pv 1) Κ)
  (ac (bp (pv 0) (vq (bF Gr hr (aa (aR (pv 1)) (aa (pv 2) ad)))) Κ)
  (ac (bp (pv 0) (aZ (own:=["room"]) (capN:=[]) (cap:=[]) UE Κ (dU (aR (pv 0))) (λC s' H' fp=>⟨b9 0 U6,bu,dr Ml Gl Ra Κ ml bl .nil cU (aa (pv 0) ad)⟩)) Κ)
  (ac (bp (pv 0) (aJ ad) Κ)
  (ac (bp (pv 0) (aZ (own:=["place"]) (capN:=[]) (cap:=[]) UG Κ (aE Κ T.range (aa (aR (aR (pv 1))) ad)) (λC s' H' fp=>⟨b9 0 UH,bu,aM ad⟩)) Κ)
  (af (bp (pv 0) (aJ ad) Κ)))))),?_⟩
 have hm40:=hT.few
 have Rj:=hT.Lw
 obtain⟨LB,fst,K8,IE,_⟩:=hT.i
 have kp:∀{H':Hp},HP [y] H H'->HY H H':=λo=>o.Qj λb O=>by rw[ϙ.mp O];exact⟨_,hy,id⟩
 have ntb:=bc K8 hy (λz=>by injection z with _ _ z3;rw[z3]at IE;cases IE)
 refine⟨y,_,j,_,Κ,hy,Y.cl,Y.n1,by show 0<1000;decide,?_⟩
 have o1:HP [y] H (ο H y (.ρ ys.HH j (aO "table" (.ref p) []))):=λb o nb e=>by rw[aj (λz=>nb (by rw[z];exact ϙ.mpr Κ))];exact e
 have g1:(ο H y (.ρ ys.HH j (aO "table" (.ref p) []))) y=Α (.ρ ys.HH j [("table",.ref p)]):=ae
 have sq1:∀ra,Sq K H ra D->Sq K (ο H y (.ρ ys.HH j (aO "table" (.ref p) []))) ra D:=λra h=>h.elim (λh =>.inl (BK hy h)) λh =>.inr (im hy h)
 generalize ο H y _=A1 at o1 g1 sq1⊢
 have Ql:=hT.keep W (kp o1)
 have Sm:∀{Ha Hb:Hp}{o:HO},HP [y] Ha Hb->HP [y] Ha (ο Hb y o):=λ{Ha Hb o} h b u nb e=>by rw[aj (λz=>nb (by rw[z];exact ϙ.mpr Κ))];exact h b u nb e
 refine⟨λv R=>∃m,v=.ref m/\Hz A1 R/\HF K R m D/\vx ps.length D=Γ,?_,?_⟩
 ·refine⟨p,_,_,_,_,Κ,o1 _ _ (λz=>ntb (ϙ.mp z)) K8,W.cl,W.nl,IE,_,_,_,_,_,_,_,Κ,Ql.l,by lia,?_⟩
  rcases hrv with ⟨rfl,rfl⟩|⟨ra,rfl,hR,Lh,U7,qE⟩
  ·refine .inl ⟨Κ,λt R s2 ht=>⟨t,Κ,s2,HF.of ht,?_⟩⟩
   unfold vx
   rw[é,Ε Κ,Ý,ù]
   intro v hv
   rw[Ln hv];rfl
  ·have hR1:=sq1 ra hR
   exact .inr ⟨ra,D,Κ,hR1,Lh,U7,qE,λHK t R s2 ht=>⟨t,Κ,s2,ht,HK⟩⟩
 rintro v R ⟨m,rfl,s2,O6,HK⟩
 have IV:D.length=ps.length/\∀v∈D,∃r,v=.int r:=by
  unfold vx at HK
  rw[Ù,decide_eq_true_eq,ù]at HK
  exact⟨HK.1,λv hv=>kJ (HK.2 v hv)⟩
 have o2:=o1.trans (Hz.Iv s2)
 have g2:=s2 _ _ g1
 refine⟨y,_,j,_,Κ,g2,Y.cl,Y.n2,by show 1<1000;decide,?_⟩
 have o3:=Sm (o:=.ρ ys.HH j (aO "rooms" (.ref m) [("table",.ref p)])) o2
 have g3:(ο R y (.ρ ys.HH j (aO "rooms" (.ref m) [("table",.ref p)]))) y=Α (.ρ ys.HH j [("table",.ref p),("rooms",.ref m)]):=ae
 have Pa:HF K (ο R y (.ρ ys.HH j (aO "rooms" (.ref m) [("table",.ref p)]))) m D:=im g2 O6
 generalize ο R y _=A3 at o3 g3 Pa⊢
 have exA3:∀b∈ys.ex,∃o,A3 b=Α o:=λb O=>let ⟨xs,hz⟩:=hex b O;⟨_,o3 b _ (Qk b O) hz⟩
 refine⟨y,_,j,_,_,Κ,g3,Y.cl,Y.n2,Κ,m,Κ,⟨_,Pa⟩,?_⟩
 refine uf (C:=ys.Ih) (by rw[ϊ];lia) Pa IV.2 (λr B N sB hN=>?_) (λg M S s4 I NQ=>?_)
 ·refine(λx dx nx UI Qk=>⟨x,dx,r,Κ,ae,λpa B2 MV off hL=>⟨Κ,?_⟩⟩)
  have LA:B pa=Β:=by
   by_cases e1:pa=x
   ·rw[e1,ae]at MV;cases MV
   ·by_cases e2:pa=dx
    ·rw[e2,aj Qk,ae]at MV;cases MV
    ·rw[aj e1,aj e2]at MV;exact MV
  refine hN x dx pa B2 nx LA (λb o e=>off b o (ai e nx) ?_) hL
  rw[aj (ai e nx),aj (ai e UI)]
  exact e
 have o4:=o3.trans (Hz.Iv s4)
 have g4:=s4 _ _ g3
 have Qm:=ϗ (ai g4 I)
 have la0:H g=Β:=by
  cases e:H g with
  |none=>rfl
  |some u=>rw[o4 _ _ (λz=>Qm (ϙ.mp z)) e]at I;cases I
 have hX5:Paired (Iw y (g:: ys.ex) (ο S g (.π M)) ys.Ih) M (D.map rp):=Paired.mono (λ_ _ z=>(z.UA g3 exA3).new I) NQ
 have o5:HP [y] H (ο S g (.π M)):=o4.trans (Hz.Iv ((Hz.refl S).new I))
 have g5:=aI (ϗ Qm) g4 (.π M)
 have UJ:=aX S g (.π M)
 have NR:HF K (ο S g (.π M)) m D:=bH ((Hz.refl S).new I) (bH s4 Pa)
 refine⟨y,_,j,_,Κ,g5,Y.cl,Y.n3,by show 2<1000;decide,?_⟩
 generalize ο S g _=A5 at hX5 o5 g5 UJ NR⊢
 have hX6:Paired (Iw y (g:: ys.ex) (ο A5 y (.ρ ys.HH j (aO "lanes" (.ref g) [("table",.ref p),("rooms",.ref m)]))) ys.Ih) M (D.map rp):=Paired.mono (λ_ _ z=>z.ο) hX5
 have o6:=Sm (o:=.ρ ys.HH j (aO "lanes" (.ref g) [("table",.ref p),("rooms",.ref m)])) o5
 have g6:(ο A5 y (.ρ ys.HH j (aO "lanes" (.ref g) [("table",.ref p),("rooms",.ref m)]))) y=Α (.ρ ys.HH j [("table",.ref p),("rooms",.ref m),("lanes",.ref g)]):=ae
 have Rk:=aI Qm UJ (.ρ ys.HH j (aO "lanes" (.ref g) [("table",.ref p),("rooms",.ref m)]))
 have Pb:=im (o:=.ρ ys.HH j (aO "lanes" (.ref g) [("table",.ref p),("rooms",.ref m)])) g5 NR
 generalize ο A5 y _=A6 at hX6 o6 g6 Rk Pb⊢
 refine⟨ϡ _,λle G=>?_⟩
 have Rl:=ϗ (ai g6 G)
 have Qn:=ai Rk G
 have le0:H le=Β:=by
  cases e:H le with
  |none=>rfl
  |some u=>rw[o6 _ _ (λz=>Rl (ϙ.mp z)) e]at G;cases G
 have hX7:Paired (Iw y (le:: g:: ys.ex) (ο A6 le (.π [])) ys.Ih) M (D.map rp):=Paired.mono (λ_ _ z=>z.new G) hX6
 have o7:HP [y] H (ο A6 le (.π [])):=o6.trans (Hz.Iv ((Hz.refl A6).new G))
 have g7:=aI (ϗ Rl) g6 (.π [])
 have UK:=aI Qn Rk (.π [])
 have UL:=aX A6 le (.π [])
 have UM:HF K (ο A6 le (.π [])) m D:=bH ((Hz.refl A6).new G) Pb
 refine⟨y,_,j,_,Κ,g7,Y.cl,Y.n4,by show 3<1000;decide,?_⟩
 generalize ο A6 le _=A7 at hX7 o7 g7 UK UL UM⊢
 have hX8:Paired (Iw y (le:: g:: ys.ex) (ο A7 y (.ρ ys.HH j (aO "letters" (.ref le) [("table",.ref p),("rooms",.ref m),("lanes",.ref g)]))) ys.Ih) M (D.map rp):=Paired.mono (λ_ _ z=>z.ο) hX7
 have o8:=Sm (o:=.ρ ys.HH j (aO "letters" (.ref le) [("table",.ref p),("rooms",.ref m),("lanes",.ref g)])) o7
 have g8:(ο A7 y (.ρ ys.HH j (aO "letters" (.ref le) [("table",.ref p),("rooms",.ref m),("lanes",.ref g)]))) y=Α (.ρ ys.HH j [("table",.ref p),("rooms",.ref m),("lanes",.ref g),("letters",.ref le)]):=ae
 have Rm:=aI Qm UK (.ρ ys.HH j (aO "letters" (.ref le) [("table",.ref p),("rooms",.ref m),("lanes",.ref g)]))
 have Rn:=aI Rl UL (.ρ ys.HH j (aO "letters" (.ref le) [("table",.ref p),("rooms",.ref m),("lanes",.ref g)]))
 have MX:=im (o:=.ρ ys.HH j (aO "letters" (.ref le) [("table",.ref p),("rooms",.ref m),("lanes",.ref g)])) g7 UM
 generalize ο A7 y _=A8 at hX8 o8 g8 Rm Rn MX⊢
 have hT8:=hT.keep W (kp o8)
 refine⟨p,_,_,_,_,Κ,o8 _ _ (λz=>ntb (ϙ.mp z)) K8,W.cl,W.nl,IE,_,_,_,_,_,Κ,hT8.l.1,L.cl,L.np,Κ,_,Κ,by lia,by lia,?_⟩
 rw[Τ]
 refine xx (by lia) (λi B N sB hN=>⟨ϡ _,λt ht=>hN t ht⟩) (λA U A9 X Lv hLi=>?_)
 have g9:=X _ _ g8
 have o9:=o8.trans (Hz.Iv X)
 have UN:=ϗ (ai g9 Lv)
 have UO:=ai (X _ _ Rm) Lv
 have UP:=ai (X _ _ Rn) Lv
 have li0:H A=Β:=by
  cases e:H A with
  |none=>rfl
  |some u=>rw[o9 _ _ (λz=>UN (ϙ.mp z)) e]at Lv;cases Lv
 have Sn:=(Hz.refl A9).new (o:=.π U) Lv
 have UQ:Paired (Iw y (A:: le:: g:: ys.ex) (ο A9 A (.π U)) ys.Ih) M (D.map rp):=Paired.mono (λ_ _ z=>(z.same X).new Lv) hX8
 have Qo:=Paired.mono (λ_ _ z=>z.keep (Hz.HM Sn)) hLi
 have Qp:=aX A9 A (.π U)
 have o10:HP [y] H (ο A9 A (.π U)):=o9.trans (Hz.Iv Sn)
 have O8:=Sn _ _ g9
 have Qq:=Sn _ _ (X _ _ Rm)
 have Qr:=Sn _ _ (X _ _ Rn)
 have Qs:=bH Sn (bH X MX)
 refine⟨y,_,j,_,Κ,O8,Y.cl,Y.n5,by show 4<1000;decide,?_⟩
 generalize ο A9 A _=XQ at UQ Qo Qp o10 O8 Qq Qr Qs⊢
 have UR:∀{B:Hp}{o:HO}{C d:Ο}{fs:Fs}{v:V}{qs:IPs},B y=Α (.ρ C d fs)->J8 B v qs->J8 (ο B y o) v qs:=λ{B o C d fs v qs} hB h=>by
  obtain⟨t,ws,e,h1,h2⟩:=h
  exact⟨t,_,e,by rw[aj (bc h1 hB (by intro z;cases z))];exact h1,HW.imp (λ_ _ HD=>by obtain⟨t',e',q'⟩:=HD;exact⟨_,e',by rw[aj (bc q' hB (by intro z;cases z))];exact q'⟩) h2⟩
 have US:Paired (Iw y (A:: le:: g:: ys.ex) (ο XQ y (.ρ ys.HH j (aO "lies" (.ref A) [("table",.ref p),("rooms",.ref m),("lanes",.ref g),("letters",.ref le)]))) ys.Ih) M (D.map rp):=Paired.mono (λ_ _ z=>z.ο) UQ
 have Qt:Paired (J8 (ο XQ y (.ρ ys.HH j (aO "lies" (.ref A) [("table",.ref p),("rooms",.ref m),("lanes",.ref g),("letters",.ref le)])))) U (Ϗ n []):=Paired.mono (λ_ _ z=>UR O8 z) Qo
 have XR:=Sm (o:=.ρ ys.HH j (aO "lies" (.ref A) [("table",.ref p),("rooms",.ref m),("lanes",.ref g),("letters",.ref le)])) o10
 have g11:(ο XQ y (.ρ ys.HH j (aO "lies" (.ref A) [("table",.ref p),("rooms",.ref m),("lanes",.ref g),("letters",.ref le)]))) y=Α (.ρ ys.HH j [("table",.ref p),("rooms",.ref m),("lanes",.ref g),("letters",.ref le),("lies",.ref A)]):=ae
 have NS:=aI Qm Qq (.ρ ys.HH j (aO "lies" (.ref A) [("table",.ref p),("rooms",.ref m),("lanes",.ref g),("letters",.ref le)]))
 have NU:=aI Rl Qr (.ρ ys.HH j (aO "lies" (.ref A) [("table",.ref p),("rooms",.ref m),("lanes",.ref g),("letters",.ref le)]))
 have NV:=aI UN Qp (.ρ ys.HH j (aO "lies" (.ref A) [("table",.ref p),("rooms",.ref m),("lanes",.ref g),("letters",.ref le)]))
 have Qu:=im (o:=.ρ ys.HH j (aO "lies" (.ref A) [("table",.ref p),("rooms",.ref m),("lanes",.ref g),("letters",.ref le)])) O8 Qs
 generalize ο XQ y _=A11 at US Qt XR g11 NS NU NV Qu⊢
 refine⟨ϡ _,λdn Z=>?_⟩
 have XS:dn≠y:=ϗ (ai g11 Z)
 have UT:g≠dn:=ai NS Z
 have UU:le≠dn:=ai NU Z
 have UW:A≠dn:=ai NV Z
 have dn0:H dn=Β:=by
  cases e:H dn with
  |none=>rfl
  |some u=>rw[XR _ _ (λz=>XS (ϙ.mp z)) e]at Z;cases Z
 have Qv:=(Hz.refl A11).new (o:=.π []) Z
 have g12:=Qv _ _ g11
 refine⟨y,_,j,_,Κ,g12,Y.cl,Y.n6,by show 5<1000;decide,?_⟩
 refine q HK m g le A dn _ (Sm (XR.trans (Hz.Iv Qv))) la0 le0 li0 dn0 ⟨ae,im g12 (bH Qv Qu),⟨M,aI Qm (Qv _ _ NS) _,?_⟩,⟨[],aI Rl (Qv _ _ NU) _,.nil⟩,⟨U,aI UN (Qv _ _ NV) _,Paired.mono (λ_ _ z=>UR g12 (z.keep (Hz.HM Qv))) Qt⟩,⟨[],aI XS ae _,.nil⟩,?_,(λb O=>let ⟨xs,hz⟩:=hex b O;⟨xs,(Sm (XR.trans (Hz.Iv Qv))) b _ (Qk b O) hz⟩)⟩
 ·refine Paired.mono (λ_ _ z=>((z.new Z).ο).UB λa ha=>?_) US
  simp only[À]at ha⊢
  rcases ha with rfl|rfl|rfl|rfl|h
  ·exact .inr (.inr (.inr (.inl Κ)))
  ·exact .inr (.inr (.inl Κ))
  ·exact .inr (.inl Κ)
  ·exact .inl Κ
  ·exact .inr (.inr (.inr (.inr h)))
 ·simp only[è,À,Ñ,or_false,not_or,not_false_eq_true,and_true,á]
  exact⟨⟨Qn,UO,UT⟩,⟨UP,UU⟩,UW⟩
theorem HV.off(h:HV K ys H y dy tb ro c le li dn s)(o:HP (c:: le:: li:: dn:: ys.ex) H H'):H' y=Α (.ρ ys.HH dy (XO tb ro c le li dn))/\HF K H' ro s.rooms/\(∀a b,Paired (Ku H ys.Ih (c:: le:: li:: dn:: ys.ex)) a b->Paired (Ku H' ys.Ih (c:: le:: li:: dn:: ys.ex)) a b)/\(∀a b,Paired (Li H ys.HG (c:: le:: li:: dn:: ys.ex)) a b->Paired (Li H' ys.HG (c:: le:: li:: dn:: ys.ex)) a b)/\(∀a b,Paired (J8 H) a b->Paired (J8 H') a b)/\∀a b,Paired (IQ H) a b->Paired (IQ H') a b:=by
 have d:=h.MC
 have k:=o.HM d
 refine⟨k _ _ h.ρ ϥ,?_,λa b=>Paired.mono λ_ _ z=>z.Iv d o,λa b=>Paired.mono λ_ _ z=>z.Iv d o,λa b=>Paired.mono λ_ _ z=>z.keep k,λa b=>Paired.mono λ_ _ z=>z.keep k⟩
 rcases h.O6 with r|r
 ·refine .inl ?_
  rcases r with r|⟨u,r⟩
  ·exact .inl (k _ _ r ϥ)
  ·exact .inr ⟨u,k _ _ r ϥ⟩
 ·exact .inr r
theorem dm(c:a∈ex):HP ex H (ο H a o):=λb u d e=>by rw[aj (λz=>d (by rw[z];exact c))];exact e
theorem vT(h:∃xs,H b=Α (.π xs)):∃xs,(ο H x (.π zs)) b=Α (.π xs):=by
 by_cases e:b=x
 ·exact⟨_,by rw[e,ae]⟩
 ·obtain⟨xs,a⟩:=h
  exact⟨_,aI e a _⟩
theorem HV.UX(h:HV K ys H y dy tb ro c le li dn s)(g:H le=Α (.π vs))(i:Li H ys.HG (c:: le:: li:: dn:: ys.ex) v t):HV K ys (ο H le (.π (vs++[v]))) y dy tb ro c le li dn {s with Hw:=s.Hw++[t]}:=by
 obtain⟨j,l,m,e,n,p⟩:=h.off (dm (a:=le) (o:=.π (vs++[v])) (by simp))
 obtain⟨q,r,u⟩:=h.υ
 obtain⟨J,f,x⟩:=h.χ
 obtain⟨A,B,C⟩:=h.Lv
 obtain⟨D,E,F⟩:=h.Lj
 rw[g]at f
 cases f
 have ne:=h.ne
 simp only[è,À,Ñ,or_false,not_or,not_false_eq_true,and_true,á]at ne
 have d:=e [v] [t] (.cons i .nil)
 exact⟨j,l,⟨q,aI ne.1.1 r _,m _ _ u⟩,⟨vs++[v],ae,Paired.snoc (by cases d with|cons z _=>exact z) (e _ _ x)⟩,⟨A,aI (ϗ ne.2.1.1) B _,n _ _ C⟩,⟨D,aI (ϗ ne.2.1.2) E _,p _ _ F⟩,h.ne,λb G=>vT (h.hex b G)⟩
theorem HV.Qw(h:HV K ys H y dy tb ro la le li dn s)(f:H dn=Α (.π vs))(g:IQ H v t):HV K ys (ο H dn (.π (vs++[v]))) y dy tb ro la le li dn {s with done:=s.done++[t]}:=by
 obtain⟨i,j,l,m,n,d⟩:=h.off (dm (a:=dn) (o:=.π (vs++[v])) (by simp))
 obtain⟨p,q,r⟩:=h.υ
 obtain⟨u,x,A⟩:=h.χ
 obtain⟨B,C,D⟩:=h.Lv
 obtain⟨G,e,E⟩:=h.Lj
 rw[f]at e
 cases e
 have ne:=h.ne
 simp only[è,À,Ñ,or_false,not_or,not_false_eq_true,and_true,á]at ne
 have c:=d [v] [t] (.cons g .nil)
 exact⟨i,j,⟨p,aI ne.1.2.2 q _,l _ _ r⟩,⟨u,aI ne.2.1.2 x _,m _ _ A⟩,⟨B,aI ne.2.2 C _,n _ _ D⟩,⟨vs++[v],ae,Paired.snoc (by cases c with|cons z _=>exact z) (d _ _ E)⟩,h.ne,λb F=>vT (h.hex b F)⟩
inductive Pd
 |place|length|word|ω|full|good
noncomputable def py(n:Nat)(wy:Wf)(m:Nat)(sv gv lv wv:V):Pd:=
 if (nD sv 0 ((n:Int) - 1)&& nD gv 0 ((n:Int) - 1))=Δ then .place else if nD lv 1 60=Δ then .length else if Sl wv=Δ then .word
 else if vI sv=vI gv∨wy (vI sv).toNat (vI gv).toNat Β=[] then .ω else if 60<=m then .full else .good
noncomputable def dB(s:YS)(a b l u:Int):YS:={s with Hw:=s.Hw++[⟨a,b,l,u,0,[]⟩],done:=s.done++[[.str "post",.int a,.int b,.int l,.int u]]}
inductive sL(K:ϧ)(c:Cs)(TC:Ο)(J:TJ)(ys:Ys)(vs:List V)(H:Hp)(Q:VK)(E:XK):Prop
 |mk (y dy tb ro la le li dn lx HJ lt:Ο) (n:Nat) (HE:List V) (ps:IPs) (wy:Wf) (s:YS) (sv gv lv wv:V) (_:vs=[.ref y,sv,gv,lv,wv]) (_:HV K ys H y dy tb ro la le li dn s) (_:IM c TC J H tb lx HJ lt n HE ps wy) (_:xF sv) (_:xF gv) (_:xF lv) (_:xF wv) (_:s.Hw.length<=900) (_:s.done.length<=10000) (_:(py n wy s.Hw.length sv gv lv wv=.place->False)) (_:(py n wy s.Hw.length sv gv lv wv=.length->False)) (_:(py n wy s.Hw.length sv gv lv wv=.word->False)) (_:(py n wy s.Hw.length sv gv lv wv=.ω->False)) (_:(py n wy s.Hw.length sv gv lv wv=.full->False)) (_:(py n wy s.Hw.length sv gv lv wv=.good->∀H',HP [le,dn] H H'->HV K ys H' y dy tb ro la le li dn (dB s (vI sv) (vI gv) (vI lv) (vI wv))->Q (.int s.Hw.length) H'))
abbrev NPo:List Str:=["self","start","goal","length","word","last_place"]
abbrev UY:List Str:=["self","start","goal","length","word"]
theorem UZ:aq NPo UY (ag jb):=bM
theorem CD(F:MS K "post" "Yard.post" jb f fd)(T:dz mg)(L:i3 K c)(Y:mG K ys)(W:Wy K TC J)(Rp:Me P w K mg μ TC "ways" 3 kn (dq J))
  (Gw:Ca P w K mg μ "is_within" 2 ko io)
  (Gwo:Ca P w K mg μ "is_word" 2 ["word"] ya)
  (ml:mg "Letter"=Α (.ref ys.HG)) (Ml:Mk K ys.HG fl) (bl:Binds K dl sm []) (Gl:HB P w K mg μ aK 1 fl dl sm (y1 ys.HG))
  (mL:mg "MOST_LENGTH"=Α (.int 60 t1)) (mM:mg "MOST_LETTERS"=Α (.int 60 t2)):
  HB P w K mg μ aK 4 f fd UY (sL K c TC J ys):=by
 refine F.ok UZ λ_ _ _ s H _ Q E m h=>?_
 obtain⟨y,p,tb,ro,la,le,li,dn,lx,HJ,lt,n,HE,ps,S,st,sv,gv,lv,U,rfl,hY,hT,cs,cg,cl,cw,hl9,hd9,e1,e2,X,r,g,q⟩:=h
 have Ra:Il 2 _:=m.mono (by decide)
 refine⟨_,ac (bG 5 UZ.nd (aA cZ (aR (aR (aR (pv 0)))) ah))
  (ac (aC (PW.pt (c9 (ba (aQ (bF Gw m (aa (pv 1) (aa ah (aa (pv 5) ad)))))) (bT (ba (aQ (bF Gw m (aa (pv 2) (aa ah (aa (pv 5) ad)))))))))
   (af b7) ar)
  (ac (aC (ba (aQ (bF Gw m (aa (pv 3) (aa ah (aa (fT (v:=.int 60) Κ mL ⟨_,Κ⟩) ad))))))
   (af b7) ar)
  (ac (aC (ba (aQ (bF Gwo m (aa (pv 4) ad))))
   (af b7) ar)
  (ac (aC (kE (PW.pt (c9 (bJ br (pv 1) (pv 2)) (bT (ba (fq (cE (aR (pv 0)) W.cl Rp m (aa (pv 1) (aa (pv 2) (aa aT ad)))) (λ_=>rfl)))))))
   (af b7) ar)
  (ac (aC (bJ E8 (gq T.len (aR (pv 0))) (fT (v:=.int 60) Κ mM ⟨_,Κ⟩))
   (af b7) ar)
  (ac (aF (ck plainAttrs_list PySem.F.slot_list_append PySem.F.type_list_append bq (aR (pv 0)) (aa (dr Ml Gl Ra Κ ml bl .nil cU (aa (pv 1) (aa (pv 2) (aa (pv 3) (aa (pv 4) ad))))) ad)))
  (ac (aF (ck plainAttrs_list PySem.F.slot_list_append PySem.F.type_list_append bq (aR (pv 0)) (aa (aM (aa bA (aa (pv 1) (aa (pv 2) (aa (pv 3) (aa (pv 4) ad)))))) ad)))
  (af (ao (aA cZ (gq T.len (aR (pv 0))) ah)))))))))),?_⟩
 obtain⟨LB,A,K8,IE,JV⟩:=hT.i
 unfold py at e1 e2 X r g q
 refine⟨y,_,p,_,_,Κ,hY.ρ,Y.cl,Y.n1,Κ,_,_,_,A,_,Κ,K8,W.cl,W.nl,IE,_,_,_,_,_,Κ,hT.l.1,L.cl,L.np,Κ,_,_,Κ,Κ,_,0,_,Κ,cs,_,Κ,?_⟩
 cases B:nD sv 0 ((n:Int) - 1) with
 | false =>
  exact az (az (e1 (by rw[B,Bool.false_and,Θ Κ])))
 |true =>
 refine au ⟨gv,0,(n:Int) - 1,Κ,cg,_,Κ,?_⟩
 cases Z:nD gv 0 ((n:Int) - 1) with
 | false =>
  exact az (e1 (by rw[B,Z,Bool.and_false,Θ Κ]))
 |true =>
 rw[B,Z,Ý,Η (by decide)]at e2 X r g q
 refine au ⟨lv,1,60,Κ,cl,_,Κ,?_⟩
 cases h3:nD lv 1 60 with
 | false =>
  exact az (e2 (by rw[h3,Θ Κ]))
 |true =>
 rw[h3,Η (by decide)]at X r g q
 refine au ⟨U,Κ,cw,_,Κ,?_⟩
 cases h4:Sl U with
 | false =>
  exact az (X (by rw[h4,Θ Κ]))
 |true =>
 rw[h4,Η (by decide)]at r g q
 refine au ?_
 obtain⟨a,rfl⟩:=kJ B
 obtain⟨b,rfl⟩:=kJ Z
 obtain⟨l,rfl⟩:=kJ h3
 obtain⟨u,rfl⟩:∃u,U=.int u:=by
  cases U<;>first|exact⟨_,Κ⟩|cases h4
 have ha:=of_decide_eq_true B
 have hb:=of_decide_eq_true Z
 obtain⟨d,rfl⟩:∃d:Nat,a=(d:Int):=⟨a.toNat,by lia⟩
 obtain⟨e,rfl⟩:∃e:Nat,b=(e:Int):=⟨b.toNat,by lia⟩
 have ev:∀z:Int,vI (.int z)=z:=λ_=>rfl
 rw[ev,ev,Τ,Τ]at r g q
 refine⟨λk C=>Hz H C/\k=decide ((d:Int)=(e:Int)∨S d e Β=[]),?_,?_⟩
 ·refine⟨Κ,_,Κ,?_⟩
  rw[bC]
  by_cases Rq:(d:Int)=(e:Int)
  ·rw[Ε Rq]
   exact az ⟨Hz.refl H,by rw[Ε (kS Rq)]⟩
  ·rw[Ζ Rq]
   refine au ⟨y,ys.HH,p,_,_,Κ,hY.ρ,Y.cl,Y.n1,Κ,tb,LB,A,Κ,K8,JV,tb,n,S,d,e,Β,Κ,hT.j,by lia,by lia,λD C s1 hD gD=>⟨_,.inl ⟨_,HC.of gD,Κ⟩,s1,?_⟩⟩
   cases hw:S d e Β with
   |nil=>rw[Ε (ń Κ)];rfl
   |cons z zs=>rw[Ζ (λz=>z.elim Rq λz=>by cases z)];rfl
 rintro k C ⟨s1,rfl⟩
 have G:=hY.same s1
 by_cases Pc:(d:Int)=(e:Int)∨S d e Β=[]
 ·rw[Ε Pc]
  exact az (r (by rw[Θ Pc]))
 rw[Ζ Pc]
 rw[Η Pc]at g q
 refine au ?_
 obtain⟨NW,JC,pl⟩:=G.χ
 have Kt:=Paired.length pl
 refine⟨y,_,p,_,_,Κ,G.ρ,Y.cl,Y.n4,Κ,_,_,Κ,.inl (HC.of JC),_,_,Κ,Κ,_,Κ,?_⟩
 by_cases Qx:60<=st.Hw.length
 ·rw[Ε (show (60:Int)<=(NW.length:Nat) by lia)]
  exact az (g (by rw[Θ Qx]))
 rw[Ζ (show ¬(60:Int)<=(NW.length:Nat) by lia)]
 rw[Η Qx]at q
 refine au ?_
 refine⟨y,_,p,_,_,Κ,G.ρ,Y.cl,Y.n4,Κ,.inl ⟨Κ,_,HC.of JC⟩,λI Kb nx UI Qk=>⟨I,Kb,(d:Int),(e:Int),l,u,Κ,ae,λM H2 x off Nq Qy=>⟨Κ,?_⟩⟩⟩
 have MY:=λz o ez=>off z o (ai ez nx) (by rw[aj (ai ez nx),aj (ai ez UI)];exact ez)
 have N:C M=Β:=by
  by_cases z1:M=I
  ·rw[z1,ae]at x;cases x
  ·by_cases z2:M=Kb
   ·rw[z2,aj Qk,ae]at x;cases x
   ·rw[aj z1,aj z2]at x;exact x
 have Lx:=G.same MY
 have Va:=MY _ _ JC
 have hlv:Li H2 ys.HG (la:: le:: li:: dn:: ys.ex) (.ref I) ⟨(d:Int),(e:Int),l,u,0,[]⟩:=⟨I,Kb,M,Κ,Nq,Qy,λz=>by obtain⟨xs,hz⟩:=G.MC M z;rw[N]at hz;cases hz⟩
 refine⟨_,_,_,Κ,Κ,Va,by rw[ϊ];lia,?_⟩
 have JN:=Lx.UX Va hlv
 have o3:HP [le,dn] H (ο H2 le (.π (NW++[.ref I]))):=(Hz.Iv (s1.trans MY)).trans (dm (by simp))
 generalize ο H2 le _=H3 at JN o3⊢
 obtain⟨Jx,So,pd⟩:=JN.Lj
 have Lu:=Paired.length pd
 refine⟨y,_,p,_,_,Κ,JN.ρ,Y.cl,Y.n6,Κ,.inl ⟨Κ,_,HC.of So⟩,by show 5<=Χ;decide,λt ht=>?_⟩
 have Sr:=(Hz.refl H3).new (o:=.tup [.str "post",.int (d:Int),.int (e:Int),.int l,.int u]) ht
 have Vb:=aX H3 t (.tup [.str "post",.int (d:Int),.int (e:Int),.int l,.int u])
 generalize ο H3 t _=H4 at Sr Vb⊢
 have LK:=JN.same Sr
 have Vc:=Sr _ _ So
 refine⟨_,_,_,Κ,Κ,Vc,by rw[ϊ];lia,?_⟩
 have Ss:=LK.Qw Vc ⟨t,Κ,Vb⟩
 have o5:HP [le,dn] H (ο H4 dn (.π (Jx++[.ref t]))):=(o3.trans (Hz.Iv Sr)).trans (dm (by simp))
 generalize ο H4 dn _=H5 at Ss o5⊢
 obtain⟨O,R,pl5⟩:=Ss.χ
 have hl5:O.length=st.Hw.length+1:=by rw[Paired.length pl5,ϛ];rfl
 refine⟨y,_,p,_,_,Κ,Ss.ρ,Y.cl,Y.n4,Κ,_,_,Κ,.inl (HC.of R),_,_,Κ,Κ,?_⟩
 have er:((O.length:Nat):Int) - 1=(st.Hw.length:Int):=by lia
 dsimp only
 rw[er]
 exact q Κ H5 o5 Ss
theorem oi(f:Nat->V)(l:xs.length<Χ)(c:HC K H a xs)
  (m:∀(i:Nat)(x:V)(N:V->Hp->Prop),xs[i]?=Α x->N (f i) H->g x σ0 H λd j=>te d j N)
  (n:∀D,H D=Β->Q (.ref D) (ο H D (.π ((Υ xs.length).map f)))):dJ (B7 K a) g oI te σ0 Q H:=by
 refine aW xs.length l (λi acc b=>b=H/\acc=(Υ i).map f) ⟨Κ,Κ⟩ (λi acc b h=>by grind) (λi acc b o h=>?_) (λacc b h=>?_)
 ·obtain⟨rfl,rfl⟩:=h
  refine⟨⟨xs,xs[i],c,by simp[o]⟩,λv j y=>?_⟩
  obtain⟨e,y⟩:=y
  subst e
  exact m i v (λy p=>p=j/\(Υ i).map f++[y]=(Υ (i+1)).map f) (y xs c) ⟨Κ,by rw[É,Ϥ];rfl⟩
 ·obtain⟨rfl,rfl⟩:=h
  exact⟨⟨xs,c,Ξ _⟩,n⟩
theorem l9{a b:Type}(xs:List a)(d:a)(f:a->b):(Υ xs.length).map (λi=>f (xs.getD i d))=xs.map f:=by
 refine List.ext_getElem (by simp) λi e c=>?_
 simp only[ka,List.getElem_range]
 rw[Ω,Λ (by simpa using c)];rfl
def rLen(K:ϧ):List V->Hp->VK->Prop:=λxs H Q=>∃(p:Ο)(ys:List V),xs=[.ref p]/\(HC K H p ys∨HF K H p ys)/\Q (.int (ys.length:Nat)) H
inductive Ew(C:Ο)(vs:List V)(H:Hp)(Q:VK)(E:XK):Prop
 |mk (x dx pa:Ο) (r b:Int) (h:Option Int) (HR:List V) (qs:IPs) (_:vs=[.ref x]) (_:Ii H C x dx pa r b h HR qs) (_:∀(x' KI Nr:Ο)(H':Hp),Hz H H'->H x'=Β->H Nr=Β->Ii H' C x' KI Nr r b h HR qs->Q (.ref x') H')
inductive Ev(C:Ο)(vs:List V)(H:Hp)(Q:VK)(E:XK):Prop
 |mk (x dx wa:Ο) (s:bj) (_:vs=[.ref x]) (_:H x=Α (.ρ C dx (xJ s wa))) (_:H wa=Α (.π (nV s.ω))) (_:∀(x' KI Nt:Ο)(H':Hp),Hz H H'->H x'=Β->H Nt=Β->H' x'=Α (.ρ C KI (xJ s Nt))->H' Nt=Α (.π (nV s.ω))->Q (.ref x') H')
theorem Qz:aq ["self","other"] gj (ag Ft):=bM
theorem FX(F:HZ K "twin" "Lane.twin" Ft f fd)(T:dz mg)(L:EH K C)(N:mg "Lane"=Α (.ref C))(O:Mk K C fl)(R:Binds K dl so [])(Gl:HB P w K mg μ aK 1 fl dl so (y6 C)):
  HB P w K mg μ aK 3 f fd gj (Ew C):=by
 refine F.ok Qz λ_ _ _ s H _ Q E S h=>?_
 obtain⟨x,u,U,r,b,h,X,qs,rfl,j,q⟩:=h
 refine⟨_,ac (bG 1 Qz.nd (dr O Gl S Κ N R .nil cU (aa (aR (pv 0)) ad)))
  (ac (bp (pv 1) (aR (pv 0)) Κ)
  (ac (bp (pv 1) (aR (pv 0)) Κ)
  (ac (bp (pv 1) (bP j1 Κ T.list PySem.Pv.boot_list (aa (aR (pv 0)) ad)) Κ)
  (af (ao (pv 1)))))),?_⟩
 refine⟨x,C,u,_,_,Κ,j.ρ,L.cl,L.n1,Κ,λa d l Y ne=>⟨a,d,r,Κ,ae,λi m Z off B=>⟨Κ,?_⟩⟩⟩
 have D:=λz o c=>off z o (ai c l) (by rw[aj (ai c l),aj (ai c Y)];exact c)
 have v:=B.ρ
 clear Z off B
 refine⟨x,C,u,_,_,Κ,D _ _ j.ρ,L.cl,L.n2,Κ,a,C,d,_,Κ,v,L.cl,L.n2,by show 4<1000;decide,?_⟩
 have G:∀g,Hz H (ο m a g):=λg z o c=>by rw[aj (ai c l)];exact D _ _ c
 refine⟨x,C,u,_,_,Κ,G _ _ _ j.ρ,L.cl,L.n3,Κ,a,C,d,_,Κ,ae,L.cl,L.n3,by show 4<1000;decide,?_⟩
 have o3:∀g n,Hz H (ο (ο m a g) a n):=λg n z o c=>by rw[aj (ai c l)];exact G _ _ _ c
 have p:=o3 (.ρ C d (aO "returning" (.int b) (mP r 0 (hV Β) i))) (.ρ C d (aO "holder" (hV h) (aO "returning" (.int b) (mP r 0 (hV Β) i))))
 have y:(ο (ο m a (.ρ C d (aO "returning" (.int b) (mP r 0 (hV Β) i)))) a (.ρ C d (aO "holder" (hV h) (aO "returning" (.int b) (mP r 0 (hV Β) i))))) a=Α (.ρ C d (mP r b (hV h) i)):=ae
 generalize ο (ο m a (.ρ C d (aO "returning" (.int b) (mP r 0 (hV Β) i)))) a (.ρ C d (aO "holder" (hV h) (aO "returning" (.int b) (mP r 0 (hV Β) i))))=H3 at p y⊢
 refine⟨x,C,u,_,_,Κ,p _ _ j.ρ,L.cl,L.n4,Κ,U,_,Κ,.inl (HC.of (p _ _ j.π)),λt A=>?_⟩
 have I:H t=Β:=by
  cases e:H t with
  |none=>rfl
  |some o=>rw[p _ _ e]at A;cases A
 have J:=ai y A
 refine⟨a,C,d,_,Κ,aI J y _,L.cl,L.n4,by show 4<1000;decide,?_⟩
 have M:∀g,Hz H (ο (ο H3 t (.π X)) a g):=λg z o c=>by rw[aj (ai c l),aj (ai c I)];exact p _ _ c
 exact q a d t _ (M _) l I ⟨ae,aI (ϗ J) ae _,HW.same (M _) j.Jr⟩
theorem Q0:aq ["self","other"] gj (ag zc):=bM
theorem FU(F:HZ K "twin" "Letter.twin" zc f fd)(T:dz mg)(Y:mG K ys)(D:mg "Letter"=Α (.ref ys.HG))(G:Mk K ys.HG fl)(I:Binds K dl sm [])(Gl:HB P w K mg μ aK 1 fl dl sm (y1 ys.HG)):
  HB P w K mg μ aK 3 f fd gj (Ev ys.HG):=by
 refine F.ok Q0 λ_ _ _ s H _ Q E J h=>?_
 obtain⟨x,d,L,t,rfl,g,M,q⟩:=h
 refine⟨_,ac (bG 1 Q0.nd (dr G Gl J Κ D I .nil cU (aa (aR (pv 0)) (aa (aR (pv 0)) (aa (aR (pv 0)) (aa (aR (pv 0)) ad))))))
  (ac (bp (pv 1) (aR (pv 0)) Κ)
  (ac (bp (pv 1) (bP j1 Κ T.list PySem.Pv.boot_list (aa (aR (pv 0)) ad)) Κ)
  (af (ao (pv 1))))),?_⟩
 refine⟨x,_,d,_,_,Κ,g,Y.ct,Y.t1,Κ,x,_,d,_,_,Κ,g,Y.ct,Y.t2,Κ,x,_,d,_,_,Κ,g,Y.ct,Y.t3,Κ,x,_,d,_,_,Κ,g,Y.ct,Y.t4,Κ,λa c i N ne=>⟨a,c,t.start,t.ι,t.len,t.word,Κ,ae,λn m p off O r=>⟨Κ,?_⟩⟩⟩
 have y:Hz H m:=λz o b=>off z o (ai b i) (by rw[aj (ai b i),aj (ai b N)];exact b)
 clear p off r
 refine⟨x,_,d,_,_,Κ,y _ _ g,Y.ct,Y.t5,Κ,a,_,c,_,Κ,O,Y.ct,Y.t5,by show 6<1000;decide,?_⟩
 have j:Hz H (ο m a (.ρ ys.HG c (aO "gone" (.int t.δ) (xJ ⟨t.start,t.ι,t.len,t.word,0,[]⟩ n)))):=y.put i
 have u:(ο m a (.ρ ys.HG c (aO "gone" (.int t.δ) (xJ ⟨t.start,t.ι,t.len,t.word,0,[]⟩ n)))) a=Α (.ρ ys.HG c (xJ ⟨t.start,t.ι,t.len,t.word,t.δ,[]⟩ n)):=ae
 generalize ο m a _=R at j u⊢
 refine⟨x,_,d,_,_,Κ,j _ _ g,Y.ct,Y.t6,Κ,L,_,Κ,.inl (HC.of (j _ _ M)),λl v=>?_⟩
 have A:H l=Β:=by
  cases e:H l with
  |none=>rfl
  |some o=>rw[j _ _ e]at v;cases v
 have B:=ai u v
 refine⟨a,_,c,_,Κ,aI B u _,Y.ct,Y.t6,by show 6<1000;decide,?_⟩
 have S:∀C,Hz H (ο (ο R l (.π (nV t.ω))) a C):=λC z o b=>by rw[aj (ai b i),aj (ai b A)];exact j _ _ b
 exact q a c l _ (S _) i A ae (aI (ϗ B) ae _)
structure YA where
 y:Ο
 dy:Ο
 tb:Ο
 ro:Ο
 la:Ο
 le:Ο
 li:Ο
 dn:Ο
 lx:Ο
 HJ:Ο
 lt:Ο
 n:Nat
 HE:List V
 ps:IPs
 wy:Wf
abbrev Jk(K:ϧ)(ys:Ys)(H:Hp)(a:YA)(s:YS):Prop:=HV K ys H a.y a.dy a.tb a.ro a.la a.le a.li a.dn s
abbrev xE(c:Cs)(TC:Ο)(J:TJ)(H:Hp)(a:YA):Prop:=IM c TC J H a.tb a.lx a.HJ a.lt a.n a.HE a.ps a.wy
abbrev YA.four(a:YA):List Ο:=[a.la,a.le,a.li,a.dn]
theorem Paired.set{v:α}{r:β}(h:R v r):∀{a:List α}{b:List β}(i:Nat),Paired R a b->Paired R (a.set i v) (b.set i r)
 |_,_,_,.nil =>.nil
 |_,_,0,.cons _ t =>.cons h t
 |_,_,i+1,.cons x t =>.cons x (Paired.set h i t)
theorem HP.mono(h:∀b∈ex,b∈Sa)(o:HP ex H H'):HP Sa H H':=λb u a e=>o b u (λz=>a (h b z)) e
theorem qW(h:Jk K ys H a s)(b:H p=Β):p∉a.four:=λz=>by obtain⟨xs,c⟩:=h.Kv p z;grind
theorem nJ(h:Jk K ys H a s)(b:H p=Β):p∉a.la:: a.le:: a.li:: a.dn:: ys.ex:=λz=>by obtain⟨xs,c⟩:=HV.MC h p z;grind
theorem pP(o:HP [x] H H2)(c:H2 x=Α (.π zs))(h:∃xs,H b=Α (.π xs)):∃xs,H2 b=Α (.π xs):=by
 by_cases e:b=x
 ·grind
 ·obtain⟨xs,a⟩:=h
  exact⟨_,o _ _ (by simpa using e) a⟩
theorem Jk.Ll(h:Jk K ys H a s)(f:H a.la=Α (.π vs))(o:HP [a.la] H H2)(d:H2 a.la=Α (.π (vs.set k (.ref x))))
  (L:Ii H2 ys.Ih x dx pa ln.r ln.b ln.h HR ln.qs) (g:H pa=Β):Jk K ys H2 a {s with γ:=s.γ.set k ln}:=by
 obtain⟨i,j,l,m,n,p⟩:=HV.off h (o.mono (by simp))
 obtain⟨F,e,q⟩:=h.υ
 obtain⟨t,u,v⟩:=h.χ
 obtain⟨y,z,A⟩:=h.Lv
 obtain⟨B,C,D⟩:=h.Lj
 rw[f]at e
 cases e
 have ne:=h.ne
 simp only[è,À,Ñ,or_false,not_or,not_false_eq_true,and_true,á]at ne
 exact⟨i,j,⟨_,d,Paired.set ⟨x,dx,pa,HR,Κ,L,nJ h g⟩ k (l _ _ q)⟩,⟨t,o _ _ (by simp;exact ϗ ne.1.1) u,m _ _ v⟩,⟨y,o _ _ (by simp;exact ϗ ne.1.2.1) z,n _ _ A⟩,⟨B,o _ _ (by simp;exact ϗ ne.1.2.2) C,p _ _ D⟩,h.ne,λb E=>pP o d (h.hex b E)⟩
theorem Jk.NX(h:Jk K ys H a s)(e:H a.le=Α (.π vs))(o:HP [a.le] H H2)(c:H2 a.le=Α (.π (vs.set k (.ref x))))
  (f:H2 x=Α (.ρ ys.HG dx (xJ t wa))) (g:H2 wa=Α (.π (nV t.ω))) (i:H wa=Β):Jk K ys H2 a {s with Hw:=s.Hw.set k t}:=by
 obtain⟨j,l,m,n,p,q⟩:=HV.off h (o.mono (by simp))
 obtain⟨r,u,v⟩:=h.υ
 obtain⟨I,d,y⟩:=h.χ
 obtain⟨z,A,B⟩:=h.Lv
 obtain⟨C,D,E⟩:=h.Lj
 rw[e]at d
 cases d
 have ne:=h.ne
 simp only[è,À,Ñ,or_false,not_or,not_false_eq_true,and_true,á]at ne
 exact⟨j,l,⟨r,o _ _ (by simp;exact ne.1.1) u,m _ _ v⟩,⟨_,c,Paired.set ⟨x,dx,wa,Κ,f,g,nJ h i⟩ k (n _ _ y)⟩,⟨z,o _ _ (by simp;exact ϗ ne.2.1.1) A,p _ _ B⟩,⟨C,o _ _ (by simp;exact ϗ ne.2.1.2) D,q _ _ E⟩,h.ne,λb F=>pP o c (h.hex b F)⟩
theorem Jk.Ry(h:Jk K ys H a s)(f:H a.li=Α (.π vs))(o:HP [a.li] H H2)(c:H2 a.li=Α (.π (vs.set k v)))
  (L:J8 H2 v qs):Jk K ys H2 a {s with ε:=s.ε.set k qs}:=by
 obtain⟨g,i,j,l,m,n⟩:=HV.off h (o.mono (by simp))
 obtain⟨p,q,r⟩:=h.υ
 obtain⟨t,u,x⟩:=h.χ
 obtain⟨D,e,y⟩:=h.Lv
 obtain⟨z,A,B⟩:=h.Lj
 rw[f]at e
 cases e
 have ne:=h.ne
 simp only[è,À,Ñ,or_false,not_or,not_false_eq_true,and_true,á]at ne
 exact⟨g,i,⟨p,o _ _ (by simp;exact ne.1.2.1) q,j _ _ r⟩,⟨t,o _ _ (by simp;exact ne.2.1.1) u,l _ _ x⟩,⟨_,c,Paired.set L k (m _ _ y)⟩,⟨z,o _ _ (by simp;exact ϗ ne.2.2) A,n _ _ B⟩,h.ne,λb C=>pP o c (h.hex b C)⟩
inductive yn(K:ϧ)(ys:Ys)(vs:List V)(H:Hp)(Q:VK)(E:XK):Prop
 |mk (a:YA) (s:YS) (k:Nat) (ln:Ie) (HQ:List V) (_:vs=[.ref a.y,.int k]) (_:Jk K ys H a s) (_:s.γ[k]?=Α ln) (_:H a.la=Α (.π HQ)) (_:∀(x dx pa:Ο)(HR:List V)(H':Hp),HP [a.la] H H'->H x=Β->H pa=Β->H' a.la=Α (.π (HQ.set k (.ref x)))->Ii H' ys.Ih x dx pa ln.r ln.b ln.h HR ln.qs->Q (.ref x) H')
inductive ym(K:ϧ)(ys:Ys)(vs:List V)(H:Hp)(Q:VK)(E:XK):Prop
 |mk (a:YA) (s:YS) (k:Nat) (t:bj) (HE:List V) (_:vs=[.ref a.y,.int k]) (_:Jk K ys H a s) (_:s.Hw[k]?=Α t) (_:H a.le=Α (.π HE)) (_:∀(x dx wa:Ο)(H':Hp),HP [a.le] H H'->H x=Β->H wa=Β->H' a.le=Α (.π (HE.set k (.ref x)))->H' x=Α (.ρ ys.HG dx (xJ t wa))->H' wa=Α (.π (nV t.ω))->Q (.ref x) H')
inductive Ex(K:ϧ)(ys:Ys)(vs:List V)(H:Hp)(Q:VK)(E:XK):Prop
 |mk (a:YA) (s:YS) (v:V) (q:Int×Int) (p:Nat) (qs:IPs) (_:vs=[.ref a.y,v,.int p]) (_:Jk K ys H a s) (_:Eh H v q) (_:s.ε[p]?=Α qs) (_:qs.length<=100000) (_:∀H',HP [a.li] H H'->Jk K ys H' a {s with ε:=s.ε.set p (qs++[q])}->Q .HU H')
theorem Fe:aq eC eC (ag yT):=bM
theorem CG(F:HZ K "own_lane" "Yard.own_lane" yT f fd)(Y:mG K ys)(O:Me P w K mg μ ys.Ih "twin" 3 gj (Ew ys.Ih)):
  HB P w K mg μ aK 4 f fd eC (yn K ys):=by
 refine F.ok Fe λ_ _ _ s H _ Q E R h=>?_
 obtain⟨a,st,k,c,e,rfl,i,S,g,q⟩:=h
 refine⟨_,ac (gN (ji (be HN (aR (pv 0)) (pv 1)) Y.L.cl O R) (pw (aR (pv 0)) (pv 1) iZ))
  (af (ao (be HN (aR (pv 0)) (pv 1)))),?_⟩
 obtain⟨u,A,T⟩:=i.υ
 rw[g]at A
 cases A
 obtain⟨v,B,x,C,U,n,rfl,D,_⟩:=Paired.at2 T S
 have G:=(gQ0 B)
 refine⟨_,_,_,_,_,Κ,i.ρ,Y.cl,Y.n3,Κ,_,e,_,_,Κ,Κ,HC.of g,al B,x,C,_,Κ,D.ρ,Κ,x,C,U,_,_,_,n,_,Κ,D,λd I o l j X Z m=>?_⟩
 refine⟨_,_,_,_,_,Κ,j _ _ i.ρ,Y.cl,Y.n3,Κ,_,e,_,k,Κ,Κ,j _ _ g,js G,?_⟩
 have p:HP [a.la] H (ο l a.la (.π (e.set k (.ref d)))):=(Hz.Iv j).trans (dm (by simp))
 have t:=aX l a.la (.π (e.set k (.ref d)))
 have J:Ii (ο l a.la (.π (e.set k (.ref d)))) ys.Ih d I o c.r c.b c.h n c.qs:=by
  have n1:=bc m.ρ (j _ _ g) (by grind)
  have n2:o≠a.la:=λz=>by grind
  exact⟨aI n1 m.ρ _,aI n2 m.π _,HW.Iv (ex:=[a.la]) (λb M=>by simp at M;subst M;exact⟨_,j _ _ g⟩) (dm (by simp)) m.Jr⟩
 generalize ο l a.la _=N at p t J⊢
 have XT:=p _ _ (by simp;exact bc i.ρ g (by grind)) i.ρ
 exact⟨_,_,_,_,_,Κ,XT,Y.cl,Y.n3,Κ,_,_,_,_,Κ,Κ,HC.of t,al (by simp[G]),q d I o n N p X Z t J⟩
theorem Fc:aq qc qc (ag yS):=bM
theorem CF(F:HZ K "own_letter" "Yard.own_letter" yS f fd)(Y:mG K ys)(I:Me P w K mg μ ys.HG "twin" 3 gj (Ev ys.HG)):
  HB P w K mg μ aK 4 f fd qc (ym K ys):=by
 refine F.ok Fc λ_ _ _ s H _ Q E J h=>?_
 obtain⟨a,st,k,t,b,rfl,d,L,e,q⟩:=h
 refine⟨_,ac (gN (ji (be HN (aR (pv 0)) (pv 1)) Y.ct I J) (pw (aR (pv 0)) (pv 1) iZ))
  (af (ao (be HN (aR (pv 0)) (pv 1)))),?_⟩
 obtain⟨NW,n,M⟩:=d.χ
 rw[e]at n
 cases n
 obtain⟨v,o,x,p,N,rfl,r,O,_⟩:=Paired.at2 M L
 have u:=(gQ0 o)
 refine⟨_,_,_,_,_,Κ,d.ρ,Y.cl,Y.n4,Κ,_,b,_,_,Κ,Κ,HC.of e,al o,x,p,_,Κ,r,Κ,x,p,N,t,Κ,r,O,λc R A i g S T B j=>?_⟩
 refine⟨_,_,_,_,_,Κ,g _ _ d.ρ,Y.cl,Y.n4,Κ,_,b,_,k,Κ,Κ,g _ _ e,js u,?_⟩
 have l:HP [a.le] H (ο i a.le (.π (b.set k (.ref c)))):=(Hz.Iv g).trans (dm (by simp))
 have m:=aX i a.le (.π (b.set k (.ref c)))
 have U:=bc B (g _ _ e) (by grind)
 have X:A≠a.le:=λz=>by grind
 have C:=aI U B (.π (b.set k (.ref c)))
 have D:=aI X j (.π (b.set k (.ref c)))
 generalize ο i a.le _=G at l m C D⊢
 have Z:=l _ _ (by simp;exact bc d.ρ e (by grind)) d.ρ
 exact⟨_,_,_,_,_,Κ,Z,Y.cl,Y.n4,Κ,_,_,_,_,Κ,Κ,HC.of m,al (by simp[u]),q c R A G l S T m C D⟩
theorem Vg:aq Bs Bs (ag Fv):=bM
theorem FZ(F:HZ K "lay" "Yard.lay" Fv f fd)(Y:mG K ys):HB P w K mg μ aK 1 f fd Bs (Ex K ys):=by
 refine F.ok Vg λ_ _ _ s H _ Q E hr h=>?_
 obtain⟨a,st,v,R,p,C,rfl,l,D,S,G,q⟩:=h
 refine⟨_,af (gN (aA C2 (be HN (aR (pv 0)) (pv 2)) (aM (aa (pv 1) ad))) (pw (aR (pv 0)) (pv 2) iZ)),?_⟩
 obtain⟨i,j,T⟩:=l.Lv
 obtain⟨v0,m,U,n,rfl,X,x⟩:=Paired.at2 T S
 have I:=(gQ0 m)
 have Pf:=Paired.length x
 refine⟨_,_,_,_,_,Κ,l.ρ,Y.cl,Y.n5,Κ,_,i,_,_,Κ,Κ,HC.of j,al m,by show 1<=Χ;decide,λt Z=>?_⟩
 have d:=(Hz.refl H).new (o:=.tup [v]) Z
 have A:=aX H t (.tup [v])
 generalize ο H t _=B at d A⊢
 have fin:∀(z:Ο)(g:Hp),Hz H g->J8 g (.ref z) (C++[R])->Q .HU (ο g a.li (.π (i.set p (.ref z)))):=λz g c hz=>by
  have J:HP [a.li] H (ο g a.li (.π (i.set p (.ref z)))):=(Hz.Iv c).trans (dm (by simp))
  refine q _ J (Jk.Ry l j J ae ?_)
  obtain⟨tz,vz,ez,L,QW⟩:=hz
  cases ez
  have nz:=bc L (c _ _ j) (by grind)
  exact⟨z,_,Κ,aI nz L _,HW.Iv (ex:=[a.li]) (λb M=>by simp at M;subst M;exact⟨_,c _ _ j⟩) (dm (by simp)) QW⟩
 refine⟨U,t,n,_,Κ,Κ,HF.of (d _ _ X),HF.of A,by simp,by rw[ϊ];simp;lia,λN=>?_,λN r PY=>?_⟩
 ·subst N
  cases x
  refine⟨_,_,_,_,_,Κ,d _ _ l.ρ,Y.cl,Y.n5,Κ,_,i,_,p,Κ,Κ,d _ _ j,js I,?_⟩
  exact fin t B d ⟨t,[v],Κ,A,.cons (let ⟨u,e,hu⟩:=D;⟨u,e,d _ _ hu⟩) .nil⟩
 ·have c:=d.new (o:=.tup (n++[v])) PY
  have O:=aX B r (.tup (n++[v]))
  generalize ο B r _=g at c O⊢
  refine⟨_,_,_,_,_,Κ,c _ _ l.ρ,Y.cl,Y.n5,Κ,_,i,_,p,Κ,Κ,c _ _ j,js I,?_⟩
  exact fin r g c ⟨r,_,Κ,O,HW.snoc (let ⟨u,e,hu⟩:=D;⟨u,e,c _ _ hu⟩) (HW.same c x)⟩
noncomputable def dG(ln:Ie)(m c len:Int):Ie:={ln with r:=ln.r - 1,h:=if decide (c=len - 1)=Γ then Β else Α m,qs:=ln.qs++[(m,c)]}
noncomputable def cG(s:YS)(m:Nat)(c:Int)(l:Nat)(t:bj)(ln:Ie):YS:={s with Hw:=if c=0 then s.Hw.set m {t with ω:=t.ω++[l]} else s.Hw,γ:=s.γ.set l (dG ln m c t.len)}
inductive oP(K:ϧ)(ys:Ys)(vs:List V)(H:Hp)(Q:VK)(E:XK):Prop
 |mk (a:YA) (s:YS) (v:V) (m:Nat) (c:Int) (l:Nat) (t:bj) (ln:Ie) (_:vs=[.ref a.y,v,.int l]) (_:Jk K ys H a s) (_:Eh H v ((m:Int),c)) (_:s.Hw[m]?=Α t) (_:s.γ[l]?=Α ln) (_:bL ln.r ln.h m c=Γ) (_:t.ω.length<=1000) (_:ln.qs.length<100000) (_:∀H',HP [a.la,a.le] H H'->Jk K ys H' a (cG s m c l t ln)->Q .HU H')
noncomputable def cp(s:YS)(m:Nat)(t:bj):YS:={s with Hw:=s.Hw.set m {t with δ:=t.δ+1}}
inductive yD(K:ϧ)(ys:Ys)(vs:List V)(H:Hp)(Q:VK)(E:XK):Prop
 |mk (a:YA) (s:YS) (m l:Nat) (t:bj) (ln:Ie) (_:vs=[.ref a.y,.int m,.int l]) (_:Jk K ys H a s) (_:s.Hw[m]?=Α t) (_:s.γ[l]?=Α ln) (_:bL ln.r ln.h m t.δ=Γ) (_:t.ω.length<=1000) (_:ln.qs.length<100000) (_:∀H',HP [a.la,a.le] H H'->Jk K ys H' a (cG (cp s m t) m t.δ l {t with δ:=t.δ+1} ln)->Q .HU H')
structure Own(P:Program)(w:Å)(K:ϧ)(mg:Str->Option Φ)(μ:Ó)(ys:Ys):Prop where
 Gl:Me P w K mg μ ys.HH "own_lane" 4 eC (yn K ys)
 Gt:Me P w K mg μ ys.HH "own_letter" 4 qc (ym K ys)
 Gp:Me P w K mg μ ys.Ih "put" 2 Bt (Et ys.Ih)
abbrev NEn:List Str:=["self","piece","lane","last"]
abbrev NGi:List Str:=["self","number","lane","letter"]
theorem Vh:aq NEn Br (ag tf):=bM
theorem zX(F:HZ K "enter" "Yard.enter" tf f fd)(Y:mG K ys)(O:Own P w K mg μ ys):
  HB P w K mg μ aK 5 f fd Br (oP K ys):=by
 refine F.ok Vh λ_ _ _ s H _ Q E hr h=>?_
 obtain⟨a,st,v,m,c,l,t,ln,rfl,p,⟨pt,rfl,S⟩,hm,hl,IS,Kh,hql,q⟩:=h
 refine⟨_,ac (vk (aC (bJ br (be HA (pv 1) ah) ah)
   (af (aF (ck plainAttrs_list PySem.F.slot_list_append PySem.F.type_list_append bq (aR (cE (pv 0) Y.cl O.Gt hr (aa (be HA (pv 1) ah) ad))) (aa (pv 2) ad)))) ar))
  (ac (bG 3 Vh.nd (vn br (be HA (pv 1) ah) (aA cZ (aR (be HN (aR (pv 0)) (be HA (pv 1) ah))) ah)))
  (af (aF (cE (cE (pv 0) Y.cl O.Gl hr (aa (pv 2) ad)) Y.L.cl O.Gp hr (aa (be HA (pv 1) ah) (aa (be HA (pv 1) ah) (aa (pv 3) ad))))))),?_⟩
 refine⟨λC H'=>C=start NEn [.ref a.y,.ref pt,.int l]/\HP [a.le] H H'/\∃t1:bj,t1.len=t.len/\Jk K ys H' a {st with Hw:=if c=0 then st.Hw.set m {t with ω:=t.ω++[l]} else st.Hw}/\(if c=0 then st.Hw.set m {t with ω:=t.ω++[l]} else st.Hw)[m]?=Α t1,?_,?_⟩
 ·refine⟨_,_,1,_,Κ,Κ,HF.of S,al (j:=1) Κ,Κ,_,Κ,?_⟩
  rw[bC]
  by_cases u:c=0
  ·rw[Ε u]
   obtain⟨HE,D,pl⟩:=p.χ
   refine az ⟨a.y,a.dy,_,Κ,p.ρ,Κ,pt,_,0,_,Κ,Κ,HF.of S,al (j:=0) Κ,a,st,m,t,HE,Κ,p,hm,D,λx dx wa T U nx nw g1 G n=>?_⟩
   refine⟨x,_,_,_,_,Κ,G,Y.ct,Y.t6,Κ,.inl ⟨Κ,_,HC.of n⟩,_,_,_,Κ,Κ,n,by rw[aw,ϊ];lia,?_⟩
   have nxw:=bc G n (by intro z;cases z)
   have nlw:=ai D nw
   have I:HP [a.le] H (ο T wa (.π (nV t.ω++[.int l]))):=λb o nb e=>by rw[aj (ai e nw)];exact U b o nb e
   have Lx:=Jk.NX p D I (k:=m) (x:=x) (dx:=dx) (wa:=wa) (aI nlw g1 _) (t:={t with ω:=t.ω++[l]}) (aI nxw G _) (by rw[ae,eV];rfl) nw
   have Pg:=(gQ0 hm)
   refine⟨Κ,I,{t with ω:=t.ω++[l]},Κ,?_,?_⟩
   ·rw[Θ u];exact Lx
   ·rw[Θ u];simp[Pg]
  ·rw[Ζ u]
   refine au ⟨Κ,Hz.Iv (Hz.refl H),t,Κ,?_,?_⟩
   ·rw[Η u];exact p
   ·rw[Η u];exact hm
 ·rintro C T ⟨rfl,U,t1,J,B,hm1⟩
  have X:T pt=Α (.tup [.int m,.int c]):=by
   obtain⟨HE,D,_⟩:=p.χ
   exact U _ _ (by simp;exact bc S D (by intro z;cases z)) S
  obtain⟨M,N,pl1⟩:=B.χ
  obtain⟨v1,hv1,x1,dx1,wa1,rfl,G,_⟩:=Paired.at2 pl1 hm1
  refine⟨_,_,1,_,Κ,Κ,HF.of X,al (j:=1) Κ,_,_,_,_,_,Κ,B.ρ,Y.cl,Y.n4,Κ,_,_,0,_,Κ,Κ,HF.of X,al (j:=0) Κ,_,M,_,_,Κ,Κ,HC.of N,al hv1,_,_,_,_,_,Κ,G,Y.ct,Y.t3,Κ,_,_,Κ,Κ,Κ,?_⟩
  obtain⟨HQ,R,Nu⟩:=B.υ
  refine⟨_,_,_,Κ,B.ρ,Κ,a,_,l,_,_,Κ,B,hl,R,λx dx pa HR H2 I nx np g2 Ka=>?_⟩
  have NY:=I _ _ (by simp;exact bc X R (by intro z;cases z)) X
  have hpl:=Paired.length Ka.Jr
  refine⟨x,_,_,Κ,Ka.ρ,Κ,_,_,0,_,Κ,Κ,HF.of NY,al (j:=0) Κ,_,_,1,_,Κ,Κ,HF.of NY,al (j:=1) Κ,x,_,_,_,_,_,_,_,_,c,decide (c=t.len - 1),?_,Ka,by lia,(λho=>by rw[IS]at ho;cases ho),λ_ t3 H3 o3 Le=>?_⟩
  ·rw[bC,J];rfl
  have nxl:=ai R nx
  have npl:=ai R np
  have o4:HP [a.la] T H3:=λb o nb e=>o3 b o (ai e nx) (ai e np) (I b o nb e)
  have JN:=Jk.Ll B R o4 (k:=l) (x:=x) (dx:=dx) (pa:=pa) (o3 _ _ nxl npl g2) (ln:=dG ln m c t.len) Le np
  exact q H3 ((U.mono (by simp)).trans (o4.mono (by simp))) JN
theorem Vi:aq NGi DQ (ag zf):=bM
theorem CY(F:HZ K "go_in" "Yard.go_in" zf f fd)(Y:mG K ys)(O:Own P w K mg μ ys)(M:Me P w K mg μ ys.HH "enter" 5 Br (oP K ys)):
  HB P w K mg μ aK 6 f fd DQ (yD K ys):=by
 refine F.ok Vi λ_ _ _ s H _ Q E G h=>?_
 obtain⟨a,st,m,l,t,N,rfl,j,I,R,S,T,n,q⟩:=h
 refine⟨_,ac (bG 3 Vi.nd (cE (pv 0) Y.cl O.Gt G (aa (pv 1) ad)))
  (ac (fu (pv 3) ah pK)
  (af (aF (cE (pv 0) Y.cl M G (aa (aM (aa (pv 1) (aa (aA cZ (aR (pv 3)) ah) ad))) (aa (pv 2) ad)))))),?_⟩
 obtain⟨U,p,pl⟩:=j.χ
 refine⟨_,_,_,Κ,j.ρ,Κ,a,_,m,t,U,Κ,j,I,p,λx dx wa r X J Z g1 u i=>?_⟩
 refine⟨x,_,_,_,_,Κ,u,Y.ct,Y.t5,Κ,_,_,Κ,Κ,_,_,u,by show 6<1000;decide,?_⟩
 have v:=ai p J
 have OZ:=bc i u (by grind)
 have z:HP [a.le] H (ο r x (.ρ ys.HG dx (aO "gone" (.int (t.δ+1)) (xJ t wa)))):=λb o nb e=>by rw[aj (ai e J)];exact X b o nb e
 have A:(ο r x (.ρ ys.HG dx (aO "gone" (.int (t.δ+1)) (xJ t wa)))) x=Α (.ρ ys.HG dx (xJ {t with δ:=t.δ+1} wa)):=ae
 have B:=Jk.NX j p z (k:=m) (x:=x) (dx:=dx) (wa:=wa) (aI v g1 _) (t:={t with δ:=t.δ+1}) A (aI OZ i _) Z
 generalize ο r x _=C at z A B⊢
 refine⟨_,_,_,Κ,B.ρ,Κ,x,_,_,_,_,Κ,A,Y.ct,Y.t5,Κ,_,_,Κ,Κ,by show 2<=Χ;decide,λpt K1=>?_⟩
 have eg:t.δ+1 - 1=t.δ:=by lia
 have D:=(Hz.refl C).new (o:=.tup [.int m,.int t.δ]) K1
 have L:=aX C pt (.tup [.int m,.int t.δ])
 dsimp only
 rw[eg]
 generalize ο C pt _=H3 at D L⊢
 have Pg:=(gQ0 I)
 refine⟨a,cp st m t,_,m,_,l,{t with δ:=t.δ+1},N,Κ,HV.same B D,⟨pt,Κ,L⟩,by unfold cp;simp[Pg],R,S,T,n,λH' o' Rz=>?_⟩
 exact q H' ((z.mono (by simp)).trans ((Hz.Iv D).trans o')) Rz
theorem ue(us:List Nat)(i:Nat):iQ (nV us) Β (Α (i:Int))=nV (us.take i):=by
 unfold iQ
 have a:HT.K6 (nV us).length 0 Β=0:=rfl
 rw[a,show HT.K6 (nV us).length (nV us).length (Α (i:Int))=min i (nV us).length from HT.Kf _ _ i,List.drop_zero,Nat.sub_zero]
 unfold nV
 rw[List.map_take,Ρ]
 refine ū λj=>?_
 grind
theorem DD(us:List Nat)(i:Nat):iQ (nV us) (Α (i:Int)) (Α ((i:Int)+1))=nV ((us.drop i).take 1):=by
 unfold iQ
 rw[show HT.K6 (nV us).length 0 (Α (i:Int))=min i (nV us).length from HT.Kf _ _ i,show((i:Int)+1)=((i+1:Nat):Int) by lia,show HT.K6 (nV us).length (nV us).length (Α ((i+1:Nat):Int))=min (i+1) (nV us).length from HT.Kf _ _ (i+1),aw]
 by_cases h:i<us.length
 ·rw[Kz (by lia),Kz (by lia),show i+1 - i=1 by lia]
  unfold nV
  rw[List.map_take,List.map_drop]
 ·rw[Tp (by lia),Tp (by lia),Nat.sub_self,List.take_zero,List.drop_eq_nil_of_le (by lia)];rfl
theorem lJ(us:List Nat):nV us=(iz us).map V.int:=(AD us).symm
theorem AI(k:Nat):∀us:List Nat,(iz us).idxOf (k:Int)=us.idxOf k
 |[]=>rfl
 | u:: us=>by
  have a:=AI k us
  unfold iz at a⊢
  grind
inductive Mv
 |IB (k l:Nat)|on (k l:Nat)|J4 (k:Nat)|back (k:Nat)
noncomputable def dY:Mv->List V
 |.IB k l=>[.str "in",.int k,.int l]
 |.on k l=>[.str "on",.int k,.int l]
 |.J4 k=>[.str "lie",.int k]
 |.back k=>[.str "back",.int k]
noncomputable def cW(s:YS)(l:Nat)(m c:Int):Bool:=match s.γ[l]? with
 |some ln=>bL ln.r ln.h m c
 |none=>Δ
noncomputable def aU(s:YS)(k:Nat):Option (Int×Int):=match s.γ[k]? with
 |some ln=>ln.qs.head?
 |none=>Β
noncomputable def ff(a:YA)(l g:Nat):List Nat:=if (a.ps.getD l (0,0)).2=(g:Int) then [] else a.wy (a.ps.getD l (0,0)).2.toNat g (Α l)
noncomputable def bI(a:YA)(s:YS)(k:Nat):List Nat:=match aU s k with
 |none=>[]
 | some q=>match s.Hw[q.1.toNat]? with
  |none=>[]
  |some t=>if q.2=0 then (ff a k t.ι.toNat).filter λl=>!decide (l∈t.ω) else (t.ω.drop (t.ω.idxOf k+1)).take 1
noncomputable def bS(a:YA)(t:bj):List Nat:=if t.δ=0 then a.wy t.start.toNat t.ι.toNat Β else t.ω.take 1
noncomputable def gX(a:YA)(s:YS)(k:Nat):List Mv:=match s.Hw[k]? with
 |none=>[]
 |some t=>if t.δ=t.len then [] else ((bS a t).filter λl=>cW s l k t.δ).map (Mv.IB k)
noncomputable def iM(a:YA)(s:YS)(k:Nat):List Mv:=match aU s k with
 |none=>[]
 |some q=>((bI a s k).filter λl=>cW s l q.1 q.2).map (Mv.on k)
noncomputable def eJ(a:YA)(s:YS)(k:Nat):List Mv:=match aU s k with
 |none=>[]
 | some q=>match s.Hw[q.1.toNat]? with
  |none=>[]
  |some t=>if t.ι=(a.ps.getD k (0,0)).2 then [.J4 k] else []
noncomputable def dh(s:YS)(k:Nat):List Mv:=match s.γ[k]? with
 |some ln=>if 0<ln.b then [.back k] else []
 |none=>[]
structure xK(a:YA):Prop where
 ends:∀(l:Nat)(pr:Int×Int),a.ps[l]?=Α pr->∃e:Nat,pr.2=(e:Int)/\e<a.n
 few:∀p g k,(a.wy p g k).length<=400
structure YOk(a:YA)(s:YS):Prop where
 γ:s.γ.length=a.ps.length
 ε:s.ε.length=a.n
 lets:∀(m:Nat)(t:bj),s.Hw[m]?=Α t->∃x y:Nat,t.start=(x:Int)/\t.ι=(y:Int)/\x<a.n/\y<a.n
 IG:∀(m:Nat)(t:bj),s.Hw[m]?=Α t->(∀l∈t.ω,l<a.ps.length)/\t.ω.length<=1000
 Jr:∀(k:Nat)(ln:Ie),s.γ[k]?=Α ln->∀q∈ln.qs,∃(m:Nat)(t:bj),q.1=(m:Int)/\s.Hw[m]?=Α t/\k∈t.ω
 few:s.Hw.length<=60
structure Nv(K:ϧ)(c:Cs)(TC:Ο)(J:TJ)(ys:Ys)(H:Hp)(a:YA)(s:YS):Prop where
 Y:Jk K ys H a s
 T:xE c TC J H a
 O:xK a
 G:YOk a s
theorem Nv.same(W:Wy K TC J)(h:Nv K c TC J ys H a s)(e:Hz H H'):Nv K c TC J ys H' a s:=⟨HV.same h.Y e,IM.keep W h.T (Hz.HM e),h.O,h.G⟩
inductive uP(K:ϧ)(c:Cs)(TC:Ο)(J:TJ)(ys:Ys)(f:YA->YS->Nat->List Mv)(len:YS->Nat)(vs:List V)(H:Hp)(Q:VK)(E:XK):Prop
 |mk (a:YA) (s:YS) (k:Nat) (_:vs=[.ref a.y,.int k]) (_:Nv K c TC J ys H a s) (_:k<len s) (_:∀(D:Ο)(Ik:List V)(H':Hp),Hz H H'->H D=Β->H' D=Α (.π Ik)->Paired (IQ H') Ik ((f a s k).map dY)->Q (.ref D) H')
def yy(K:ϧ)(c:Cs)(TC:Ο)(J:TJ)(ys:Ys):Sp:=uP K c TC J ys gX (λs=>s.Hw.length)
def yw(K:ϧ)(c:Cs)(TC:Ο)(J:TJ)(ys:Ys):Sp:=uP K c TC J ys iM (λs=>s.γ.length)
def uQ(K:ϧ)(c:Cs)(TC:Ο)(J:TJ)(ys:Ys):Sp:=uP K c TC J ys eJ (λs=>s.γ.length)
def lh(K:ϧ)(c:Cs)(TC:Ο)(J:TJ)(ys:Ys):Sp:=uP K c TC J ys (λ_ s k=>dh s k) (λs=>s.γ.length)
inductive qq(K:ϧ)(c:Cs)(TC:Ο)(J:TJ)(ys:Ys)(vs:List V)(H:Hp)(Q:VK)(E:XK):Prop
 |mk (a:YA) (s:YS) (k:Nat) (_:vs=[.ref a.y,.int k]) (_:Nv K c TC J ys H a s) (_:k<s.γ.length) (_:∀(D:Ο)(H':Hp),Hz H H'->H D=Β->H' D=Α (.π (nV (bI a s k)))->Q (.ref D) H')
inductive yp(c:Cs)(C:Ο)(J:TJ)(vs:List V)(H:Hp)(Q:VK)(E:XK):Prop
 |mk (a:YA) (l g:Nat) (_:vs=[.ref a.tb,.int l,.int g]) (_:xE c C J H a) (_:xK a) (_:l<a.ps.length) (_:g<a.n) (_:∀(D:Ο)(H':Hp),Hz H H'->H D=Β->H' D=Α (.π (nV (ff a l g)))->Q (.ref D) H')
theorem pT(b:Nat->Bool)(f:Nat->Mv)(C:us.length<Χ)(q:H p=Α (.π (nV us)))
  (E:∀(u:Nat)(a:Hp)(acc:List V)(N:List V->Hp->Prop),u∈us->Hz H a->(b u=Γ->∀v c,Hz a c->IQ c v (dY (f u))->N (acc++[v]) c)->(b u=Δ->N acc a)->
   g (.int u) σ0 a λj c=>tt j c λb r=>if b=Γ then te j r λy l=>N (acc++[y]) l else N acc r)
  (F:∀D t a,Hz H a->a D=Β->Paired (IQ a) t (((us.filter b).map f).map dY)->Q (.ref D) (ο a D (.π t))):dJ (B7 K p) g tt te σ0 Q H:=by
 refine aW us.length C (λi acc d=>Hz H d/\Paired (IQ d) acc ((((us.take i).filter b).map f).map dY)) ⟨Hz.refl _,.nil⟩ (λi acc d h=>by
   rw[Paired.length h.2,Ρ,Ρ]
   grind) (λi acc d x h=>?_) (λacc d h=>?_)
 ·obtain⟨s,m⟩:=h
  have n:=Λ x
  refine⟨⟨_,_,HC.of (s _ _ q),bB n⟩,λv c y=>?_⟩
  obtain⟨rfl,y⟩:=y
  have o:=y _ (HC.of (s _ _ q))
  rw[bB n]at o
  cases o
  refine E us[i] c acc (λG l=>Hz H l/\Paired (IQ l) G ((((us.take (i+1)).filter b).map f).map dY)) (ã x) s (λA v r B o=>⟨s.trans B,?_⟩) (λA=>⟨s,?_⟩)
  ·rw[Ì,n,Ĥ]
   have e:(Α us[i]).toList.filter b=[us[i]]:=by simp[A]
   rw[e,Ϥ,Ϥ]
   exact Paired.snoc o (Paired.mono (λ_ _ z=>z.keep (Hz.HM B)) m)
  ·rw[Ì,n,Ĥ]
   grind
 ·obtain⟨s,m⟩:=h
  rw[Æ]at m
  exact⟨⟨_,HC.of (s _ _ q),by rw[aw];grind⟩,λD I=>F D acc d s I m⟩
noncomputable def Ch(s:ϩ):Scope:=match s with
 |.Return (Α (.ListComp _ _ sc _)) _=>sc
 |_=>zQ0
noncomputable def GK(s:ϩ):Scope:=match s with
 |.If _ [s'] _ _=>Ch s'
 |_=>zQ0
abbrev NMi:List Str:=["self","number","letter","wanted"]
abbrev NWa:List Str:=["self","lane","piece","letter","behind"]
abbrev NMo:List Str:=["self","lane","piece","wanted"]
theorem R0:aq NMi qc (ag qF):=bM
theorem bkMi:IP NMi (ag qF) (Ch ((aB qF).getD 3 (.Pass ⟨0,0,0,0⟩))) ["self","number","letter"] [0,1,2]:=_L2.Jv
theorem ndMi:(["lane","self","number","letter"]:List Str).Nodup:=by decide +kernel
theorem CO(F:HZ K "moves_in" "Yard.moves_in" qF f fd)(Y:mG K ys)(W:Wy K TC J)(Rp:Me P w K mg μ TC "ways" 3 kn (dq J))
  (Go:Me P w K mg μ ys.Ih "open_to" 1 ut (oN ys.Ih)):
  HB P w K mg μ aK 4 f fd qc (yy K c TC J ys):=by
 refine F.ok R0 λ_ _ _ s H _ Q E hr h=>?_
 obtain⟨a,st,k,rfl,e,hk,q⟩:=h
 refine⟨_,ac (fR (i:=2) R0.nd Κ (ń Κ) (be HN (aR (pv 0)) (pv 1)))
  (ac (aC (bJ br (aR (pv 2)) (aR (pv 2))) (af (ao (aJ ad))) ar)
  (ac (bG 3 R0.nd (vq (dC (bJ br (aR (pv 2)) ah) (cE (aR (pv 0)) W.cl Rp hr (aa (aR (pv 2)) (aa (aR (pv 2)) (aa aT ad)))) (dW fP (aR (pv 2)) ip (eG ah)))))
  (af (ao (aZ (own:=["lane"]) (capN:=["self","number","letter"]) (cap:=[0,1,2]) bkMi Κ (aL (pv 3)) (λC s' H' fp=>⟨b9 0 ndMi,c7 (aQ (cE (be (show JQ _ (qO K) from HN) (show PE _ _ (oK K (oJ 1) "lanes") from aR (pv 1)) (pv 0)) Y.L.cl Go hr (aa (pv 2) (aa (show PE _ _ (oK K (oJ 3) "gone") from aR (pv 3)) ad)))),aM (aa bA (aa (pv 2) (aa (pv 0) ad)))⟩)))))),?_⟩
 have X:=e.Y
 obtain⟨HE,JC,pl⟩:=X.χ
 obtain⟨t,ht⟩:∃t,st.Hw[k]?=Α t:=⟨_,Λ hk⟩
 obtain⟨v,hv,x,m,wa,rfl,o,hw,_⟩:=Paired.at2 pl ht
 obtain⟨x0,y0,e1,e2,Nw,B⟩:=e.G.lets k t ht
 obtain⟨Kh,hw9⟩:=e.G.IG k t ht
 unfold gX at q
 rw[ht]at q
 refine⟨_,_,_,_,_,Κ,X.ρ,Y.cl,Y.n4,Κ,_,_,_,_,Κ,Κ,HC.of JC,al hv,x,_,m,_,_,Κ,o,Y.ct,Y.t5,Κ,x,_,m,_,_,Κ,o,Y.ct,Y.t3,Κ,Κ,_,Κ,?_⟩
 rw[bC]
 by_cases R:t.δ=t.len
 ·rw[Ε R]
  dsimp only at q
  rw[Θ R]at q
  exact az ⟨ϡ _,λD I=>q D [] _ ((Hz.refl H).new I) I ae .nil⟩
 rw[Ζ R]
 dsimp only at q
 rw[Η R]at q
 refine au ⟨λv S=>∃D,v=.ref D/\Hz H S/\S D=Α (.π (nV (bS a t))),?_,?_⟩
 ·refine⟨x,_,m,_,_,Κ,o,Y.ct,Y.t5,Κ,Κ,_,Κ,?_⟩
  rw[bC]
  unfold bS
  by_cases d:t.δ=0
  ·rw[Ε d,Θ d]
   obtain⟨LB,Z,K8,IE,JV⟩:=e.T.i
   refine az ⟨a.y,ys.HH,a.dy,_,_,Κ,X.ρ,Y.cl,Y.n1,Κ,a.tb,LB,Z,Κ,K8,JV,x,ys.HG,m,_,_,Κ,o,Y.ct,Y.t1,Κ,x,ys.HG,m,_,_,Κ,o,Y.ct,Y.t2,Κ,?_⟩
   rw[e1,e2,Τ,Τ]
   exact⟨_,_,_,_,_,_,Κ,e.T.j,Nw,B,λD S A I U=>⟨D,Κ,A,U⟩⟩
  ·rw[Ζ d,Η d]
   refine au ⟨x,ys.HG,m,_,_,Κ,o,Y.ct,Y.t6,Κ,_,Κ,wa,_,Κ,HC.of hw,λD I=>⟨D,Κ,(Hz.refl H).new I,?_⟩⟩
   rw[ae,show((1:Int))=((1:Nat):Int) from Κ,ue]
 rintro v S ⟨D,rfl,A,U⟩
 have MZ:=e.same W A
 have KO:=MZ.Y
 have JB:=A _ _ o
 obtain⟨HQ,Jg,Nu⟩:=KO.υ
 have Sv:(bS a t).length<=1000:=by
  unfold bS
  by_cases d:t.δ=0
  ·rw[Θ d];exact Í (e.O.few _ _ _) (by decide)
  ·rw[Η d];rw[ņ];lia
 have JF:∀u∈bS a t,u<a.ps.length:=λu p=>by
  unfold bS at p
  by_cases d:t.δ=0
  ·rw[Θ d,e1,e2,Τ,Τ]at p;exact e.T.ok _ _ _ Nw B u p
  ·rw[Η d]at p;exact Kh u (Ā p)
 refine⟨D,Κ,⟨_,HC.of U⟩,?_⟩
 refine pT (λl=>cW st l k t.δ) (Mv.IB k) (by rw[ϊ];lia) U (λu H2 acc N p M Na O9=>?_) (λD2 MD H2 M JA hp=>?_)
 ·have LC:=MZ.same W M
  obtain⟨R3,R4,R5⟩:=LC.Y.υ
  have NZ:u<st.γ.length:=by rw[e.G.γ];exact JF u p
  obtain⟨g,Ib⟩:∃g,st.γ[u]?=Α g:=⟨_,Λ NZ⟩
  obtain⟨vl,Nx,xl,Kb,Q3,R6,rfl,hL,_⟩:=Paired.at2 R5 Ib
  refine⟨_,_,_,_,_,Κ,LC.Y.ρ,Y.cl,Y.n3,Κ,_,_,_,_,Κ,Κ,HC.of R4,al Nx,_,_,_,Κ,hL.ρ,Κ,x,_,m,_,_,Κ,M _ _ JB,Y.ct,Y.t5,Κ,_,_,_,_,_,_,_,_,Κ,hL.ρ,_,Κ,?_⟩
  have eo:cW st u k t.δ=bL g.r g.h k t.δ:=by unfold cW;rw[Ib]
  cases ho:bL g.r g.h k t.δ with
  |false=>exact au (O9 (by rw[eo,ho]))
  |true=>exact az ⟨by show 3<=Χ;decide,λz hz=>Na (by rw[eo,ho]) _ _ ((Hz.refl H2).new hz) ⟨z,Κ,ae⟩⟩
 ·exact q D2 MD _ ((A.trans M).new JA) (A.free (M.free JA)) ae (Paired.mono (λ_ _ z=>z.keep (Hz.HM ((Hz.refl H2).new JA))) hp)
theorem mm(h:HW H HR qs):(qs.head?=Β/\tX HR=.HU)∨∃q pt,qs.head?=Α q/\tX HR=.ref pt/\H pt=Α (.tup [.int q.1,.int q.2]):=by
 cases h with
 |nil=>exact .inl ⟨Κ,Κ⟩
 |cons x r=>obtain⟨t,rfl,a⟩:=x;exact .inr ⟨_,t,Κ,Κ,a⟩
theorem Pj:aq ["table","lane","goal","end"] pZ (ag XG):=bM
theorem FP(F:HZ K "onward" "onward" XG f fd)(L:i3 K c)(W:Wy K C J)(u:Me P w K mg μ C "ways" 3 kn (dq J))
  (v:Me P w K mg μ c.land "end_of" 1 eC (gm c Î)):HB P w K mg μ aK 4 f fd pZ (yp c C J):=by
 refine F.ok Pj λ_ _ _ s H _ Q E p h=>?_
 obtain⟨a,l,g,rfl,b,x,y,z,q⟩:=h
 refine⟨_,ac (bG 3 Pj.nd (cE (aR (pv 0)) L.cl v p (aa (pv 1) ad)))
  (af (ao (dC (bJ br (pv 3) (pv 2)) (aJ ad) (cE (pv 0) W.cl u p (aa (pv 3) (aa (pv 2) (aa (pv 1) ad))))))),?_⟩
 obtain⟨r,fs,t,A,B⟩:=b.i
 have o:=Λ y
 have G:a.ps.getD l (0,0)=a.ps[l]:=by rw[Ω,o];rfl
 unfold ff at q
 rw[G]at q
 obtain⟨e,ee,I⟩:=x.ends l _ o
 refine⟨_,C,r,_,_,Κ,t,W.cl,W.nl,A,_,_,_,Κ,b.l.1,Κ,_,_,_,_,_,_,l,_,Κ,b.l,o,?_⟩
 rw[ee]at q⊢
 rw[Τ]at q
 refine⟨Κ,_,Κ,?_⟩
 rw[bC]
 by_cases d:(e:Int)=(g:Int)
 ·rw[Ε d]
  rw[Θ d]at q
  exact az ⟨ϡ _,λD m=>q D _ ((Hz.refl H).new m) m ae⟩
 ·rw[Ζ d]
  rw[Η d]at q
  exact au ⟨a.tb,r,fs,Κ,t,B,a.tb,a.n,a.wy,e,g,Α l,Κ,b.j,I,z,λD O M m N=>q D _ M m N⟩
theorem Pk:aq NWa eC (ag ja):=bM
theorem bkWa:IP NWa (ag ja) (GK ((aB ja).getD 3 (.Pass ⟨0,0,0,0⟩))) ["letter"] [3]:=_L2.Jv
theorem ndWa:(["way","letter"]:List Str).Nodup:=by decide +kernel
theorem wR(F:HZ K "wanted" "Yard.wanted" ja f fd)(Y:mG K ys)(W:Wy K TC J)
  (Gf:Me P w K mg μ ys.Ih "front" 1 gj (kA ys.Ih))
  (Go:Ca P w K mg μ "onward" 4 pZ (yp c TC J)):
  HB P w K mg μ aK 5 f fd eC (qq K c TC J ys):=by
 refine F.ok Pk λ_ _ _ s H _ Q E hr h=>?_
 obtain⟨a,st,k,rfl,d,hk,q⟩:=h
 refine⟨_,ac (bG 2 Pk.nd (ji (be HN (aR (pv 0)) (pv 1)) Y.L.cl Gf hr))
  (ac (aC (bJ jG (pv 2) aT) (af (ao (aJ ad))) ar)
  (ac (fR (i:=3) Pk.nd Κ (ń Κ) (be HN (aR (pv 0)) (be HA (pv 2) ah)))
  (ac (aC (bJ br (be HA (pv 2) ah) ah)
   (af (ao (aZ (own:=["way"]) (capN:=["letter"]) (cap:=[3]) bkWa Κ (aL (bF Go hr (aa (aR (pv 0)) (aa (pv 1) (aa (aR (pv 3)) ad))))) (λC s' H' fp=>⟨b9 0 ndWa,c7 (bJ (show eB _ (compareOp .NotIn) (Cj K Γ) from bV) (pv 0) (show PE _ _ (oK K (oJ 1) "way") from aR (pv 1))),pv 0⟩)))) ar)
  (ac (bG 4 Pk.nd (aA cQ (ck plainAttrs_list slot_list_index PySem.F.type_list_index nK (aR (pv 3)) (aa (pv 1) ad)) ah))
  (af (ao (dW fP (aR (pv 3)) (eG (pv 4)) (eG (aA cQ (pv 4) ah))))))))),?_⟩
 have o:=d.Y
 obtain⟨HQ,Jg,Nu⟩:=o.υ
 obtain⟨g,Ib⟩:∃g,st.γ[k]?=Α g:=⟨_,Λ hk⟩
 obtain⟨vl,Nx,xl,Kb,Q3,R6,rfl,X,_⟩:=Paired.at2 Nu Ib
 refine⟨_,_,_,_,_,Κ,o.ρ,Y.cl,Y.n3,Κ,_,_,_,_,Κ,Κ,HC.of Jg,al Nx,_,_,_,Κ,X.ρ,Κ,_,_,_,_,_,_,_,_,Κ,X,?_⟩
 unfold bI aU at q
 rw[Ib]at q
 dsimp only at q
 rcases mm X.Jr with ⟨A,Z⟩|⟨pq,pt,A,Z,K1⟩
 ·rw[A]at q
  rw[Z]
  exact⟨Κ,_,Κ,az ⟨ϡ _,λD n=>q D _ ((Hz.refl H).new n) n ae⟩⟩
 rw[A]at q
 rw[Z]
 have hqm:=Ą A
 obtain⟨m,t,em,B,Mj⟩:=d.G.Jr k g Ib pq hqm
 obtain⟨x0,p,e1,e2,Nw,hy0⟩:=d.G.lets m t B
 obtain⟨Kh,hw9⟩:=d.G.IG m t B
 rw[em]at K1
 dsimp only at q
 rw[em,Τ,B]at q
 dsimp only at q
 refine⟨Κ,_,Κ,au ?_⟩
 obtain⟨HE,JC,pl⟩:=o.χ
 obtain⟨v,hv,x,I,wa,rfl,M,R,_⟩:=Paired.at2 pl B
 refine⟨_,_,_,_,_,Κ,o.ρ,Y.cl,Y.n4,Κ,_,_,0,_,Κ,Κ,HF.of K1,al (j:=0) Κ,_,_,_,_,Κ,Κ,HC.of JC,al hv,_,_,1,_,Κ,Κ,HF.of K1,al (j:=1) Κ,Κ,_,Κ,?_⟩
 rw[bC]
 by_cases S:pq.2=0
 ·rw[Ε S]
  rw[Θ S,e2,Τ]at q
  refine az ⟨a.y,ys.HH,a.dy,_,_,Κ,o.ρ,Y.cl,Y.n1,Κ,x,ys.HG,I,_,_,Κ,M,Y.ct,Y.t2,Κ,?_⟩
  rw[e2]
  refine⟨a,k,p,Κ,d.T,d.O,by rw[←d.G.γ];exact hk,hy0,λD H1 U n gD=>⟨D,Κ,⟨_,HC.of gD⟩,?_⟩⟩
  have M6:(ff a k p).length<=400:=by
   unfold ff
   by_cases z:(a.ps.getD k (0,0)).2=(p:Int)
   ·rw[Θ z];exact ϡ _
   ·rw[Η z];exact d.O.few _ _ _
  refine ig (λv=>match v with|.int i=>!decide (i∈iz t.ω)|_=>Δ) (λv=>v) (by rw[aw,ϊ];lia) (HC.of gD) (λy acc N hy h=>?_) (λD2 JA=>?_)
  ·obtain⟨u,hu,rfl⟩:=Aj hy
   refine⟨x,_,I,_,_,Κ,U _ _ M,Y.ct,Y.t6,Κ,_,_,Κ,.inl (HC.of (U _ _ R)),Κ,by rw[lJ];exact fJ _,_,Κ,?_⟩
   rw[lJ,jt]
   have h:N (if (!decide ((u:Int)∈iz t.ω))=Γ then acc++[V.int u] else acc) H1:=h
   cases hb:decide ((u:Int)∈iz t.ω) with
   | true =>
    rw[hb]at h
    exact au h
   | false =>
    rw[hb]at h
    exact az (h)
  ·have e:((nV (ff a k p)).filter (λv=>match v with|.int i=>!decide (i∈iz t.ω)|_=>Δ)).map (λv=>v)=nV ((ff a k p).filter λl=>!decide (l∈t.ω)):=by
    rw[List.map_id']
    unfold nV
    rw[XZ]
    congr 1
    refine A4 λu _=>?_
    show(!decide ((u:Int)∈iz t.ω))=_
    rw[lW]
   rw[e]
   exact q D2 _ (U.new JA) (U.free JA) ae
 ·rw[Ζ S]
  rw[Η S]at q
  refine au ⟨x,ys.HG,I,_,_,Κ,M,Y.ct,Y.t6,Κ,.inl ⟨Κ,_,HC.of R⟩,wa,iz t.ω,(k:Int),Κ,Κ,by rw[←lJ];exact R,IL.mpr ⟨k,Mj,Κ⟩,by unfold iz;rw[Ρ];lia,_,_,Κ,Κ,?_⟩
  rw[AI]
  refine⟨x,_,I,_,_,Κ,M,Y.ct,Y.t6,Κ,_,Κ,_,_,Κ,Κ,_,Κ,_,_,Κ,HC.of R,λD n=>?_⟩
  have e:iQ (nV t.ω) (Α (((t.ω.idxOf k:Nat):Int)+1)) (Α (((t.ω.idxOf k:Nat):Int)+1+1))=nV ((t.ω.drop (t.ω.idxOf k+1)).take 1):=by
   have:=DD t.ω (t.ω.idxOf k+1)
   rw[←this]
   rfl
  dsimp only
  rw[e]
  exact q D _ ((Hz.refl H).new n) n ae
theorem R7:aq NMo eC (ag qD):=bM
theorem bkMo:IP NMo (ag qD) (Ch ((aB qD).getD 2 (.Pass ⟨0,0,0,0⟩))) ["self","lane","piece"] [0,1,2]:=_L2.Jv
theorem ndMo:(["other","self","lane","piece"]:List Str).Nodup:=by decide +kernel
theorem CN(F:HZ K "moves_on" "Yard.moves_on" qD f fd)(Y:mG K ys)(W:Wy K TC J)
  (Gf:Me P w K mg μ ys.Ih "front" 1 gj (kA ys.Ih))
  (Ga:Me P w K mg μ ys.HH "wanted" 5 eC (qq K c TC J ys))
  (Go:Me P w K mg μ ys.Ih "open_to" 1 ut (oN ys.Ih)):
  HB P w K mg μ aK 6 f fd eC (yw K c TC J ys):=by
 refine F.ok R7 λ_ _ _ s H _ Q E U h=>?_
 obtain⟨a,st,k,rfl,n,X,q⟩:=h
 refine⟨_,ac (fR (i:=2) R7.nd Κ (ń Κ) (ji (be HN (aR (pv 0)) (pv 1)) Y.L.cl Gf U))
  (ac (bG 3 R7.nd (cE (pv 0) Y.cl Ga U (aa (pv 1) ad)))
  (af (ao (aZ (own:=["other"]) (capN:=["self","lane","piece"]) (cap:=[0,1,2]) bkMo Κ (aL (pv 3)) (λC s' H' fp=>⟨b9 0 ndMo,c7 (aQ (cE (be (show JQ _ (qO K) from HN) (show PE _ _ (oK K (oJ 1) "lanes") from aR (pv 1)) (pv 0)) Y.L.cl Go U (aa (be (show JQ _ (ki K) from HA) (pv 3) ah) (aa (be (show JQ _ (ki K) from HA) (pv 3) ah) ad)))),aM (aa bA (aa (pv 2) (aa (pv 0) ad)))⟩))))),?_⟩
 have Z:=n.Y
 obtain⟨HQ,Jg,Nu⟩:=Z.υ
 obtain⟨o,Ib⟩:∃o,st.γ[k]?=Α o:=⟨_,Λ X⟩
 obtain⟨vl,Nx,xl,Kb,Q3,R6,rfl,hL,_⟩:=Paired.at2 Nu Ib
 refine⟨_,_,_,_,_,Κ,Z.ρ,Y.cl,Y.n3,Κ,_,_,_,_,Κ,Κ,HC.of Jg,al Nx,_,_,_,Κ,hL.ρ,Κ,_,_,_,_,_,_,_,_,Κ,hL,_,_,_,Κ,Z.ρ,Κ,a,_,k,Κ,n,X,λD H1 x hD R=>?_⟩
 refine⟨D,Κ,⟨_,HC.of R⟩,?_⟩
 have MZ:=n.same W x
 have eF:aU st k=o.qs.head?:=by unfold aU;rw[Ib]
 have JF:∀u∈bI a st k,u<a.ps.length:=λu d=>by
  unfold bI at d
  rw[eF]at d
  cases hq:o.qs.head? with
  |none=>rw[hq]at d;cases d
  | some g =>
   rw[hq]at d
   obtain⟨m,t,em,hm,Mj⟩:=n.G.Jr k o Ib g (Ą hq)
   obtain⟨x0,y0,e1,e2,Nw,hy0⟩:=n.G.lets m t hm
   dsimp only at d
   rw[em,Τ,hm]at d
   dsimp only at d
   by_cases B:g.2=0
   ·rw[Θ B,e2,Τ]at d
    have d:=(Ϫ.mp d).1
    unfold ff at d
    by_cases z:(a.ps.getD k (0,0)).2=(y0:Int)
    ·rw[Θ z]at d;cases d
    ·rw[Η z]at d
     have Sw:k<a.ps.length:=by rw[←n.G.γ];exact X
     obtain⟨e,ee,Nb⟩:=n.O.ends k _ (Λ Sw)
     have ME:a.ps.getD k (0,0)=a.ps[k]:=by rw[Ω,Λ Sw];rfl
     rw[ME,ee,Τ]at d
     exact n.T.ok _ _ _ Nb hy0 u d
   ·rw[Η B]at d
    exact(n.G.IG m t hm).1 u (ew (Ā d))
 have Kh:(bI a st k).length<=1000:=by
  unfold bI
  cases aU st k with
  |none=>exact ϡ _
  | some g =>
   dsimp only
   cases st.Hw[g.1.toNat]? with
   |none=>exact ϡ _
   | some t =>
    dsimp only
    by_cases B:g.2=0
    ·rw[Θ B]
     refine Í (ē _ _) ?_
     unfold ff
     by_cases z:(a.ps.getD k (0,0)).2=((t.ι.toNat:Nat):Int)
     ·rw[Θ z];exact ϡ _
     ·rw[Η z];exact Í (n.O.few _ _ _) (by decide)
    ·rw[Η B,ņ];lia
 unfold iM at q
 rw[eF]at q
 rcases mm hL.Jr with ⟨S,ef⟩|⟨g,pt,S,ef,K1⟩
 ·have e0:bI a st k=[]:=by unfold bI;rw[eF,S]
  rw[S]at q
  rw[e0]at R
  refine pT (λl=>Δ) (Mv.on k) (by rw[ϊ];decide) R (λu A acc N d p Na O9=>by cases d) (λD2 MD A p v hp=>?_)
  exact q D2 MD _ ((x.trans p).new v) (x.free (p.free v)) ae (Paired.mono (λ_ _ z=>z.keep (Hz.HM ((Hz.refl A).new v))) hp)
 rw[S]at q
 dsimp only at q
 rw[ef]
 refine pT (λl=>cW st l g.1 g.2) (Mv.on k) (by rw[ϊ];lia) R (λu A acc N d p Na O9=>?_) (λD2 MD A p v hp=>?_)
 ·have LC:=MZ.same W p
  obtain⟨R3,R4,R5⟩:=LC.Y.υ
  have NZ:u<st.γ.length:=by rw[n.G.γ];exact JF u d
  obtain⟨Iy,J9⟩:∃o,st.γ[u]?=Α o:=⟨_,Λ NZ⟩
  obtain⟨vu,hvu,xu,I,pau,pvu,rfl,M,_⟩:=Paired.at2 R5 J9
  have NY:=p _ _ (x _ _ K1)
  refine⟨_,_,_,_,_,Κ,LC.Y.ρ,Y.cl,Y.n3,Κ,_,_,_,_,Κ,Κ,HC.of R4,al hvu,_,I,_,Κ,M.ρ,Κ,_,_,0,_,Κ,Κ,HF.of NY,al (j:=0) Κ,_,_,1,_,Κ,Κ,HF.of NY,al (j:=1) Κ,_,I,_,_,_,_,_,_,Κ,M.ρ,_,Κ,?_⟩
  have eo:cW st u g.1 g.2=bL Iy.r Iy.h g.1 g.2:=by unfold cW;rw[J9]
  cases ho:bL Iy.r Iy.h g.1 g.2 with
  |false=>exact au (O9 (by rw[eo,ho]))
  |true=>exact az ⟨by show 3<=Χ;decide,λz hz=>Na (by rw[eo,ho]) _ _ ((Hz.refl A).new hz) ⟨z,Κ,ae⟩⟩
 ·exact q D2 MD _ ((x.trans p).new v) (x.free (p.free v)) ae (Paired.mono (λ_ _ z=>z.keep (Hz.HM ((Hz.refl A).new v))) hp)
theorem Vj:aq ["self","lane","piece"] eC (ag sS):=bM
theorem zL(F:HZ K "moves_lie" "Yard.moves_lie" sS f fd)(Y:mG K ys)(L:i3 K c)(W:Wy K TC J)
  (Gf:Me P w K mg μ ys.Ih "front" 1 gj (kA ys.Ih)) (Ge:Me P w K mg μ c.land "end_of" 1 eC (gm c Î)):
  HB P w K mg μ aK 2 f fd eC (uQ K c TC J ys):=by
 refine F.ok Vj λ_ _ _ s H _ Q E M h=>?_
 obtain⟨a,st,k,rfl,g,N,q⟩:=h
 refine⟨_,ac (bG 2 Vj.nd (ji (be HN (aR (pv 0)) (pv 1)) Y.L.cl Gf M))
  (ac (aC (PW.pt (c9 (bJ jG (pv 2) aT) (bT (bJ dc (aR (be HN (aR (pv 0)) (be HA (pv 2) ah))) (cE (aR (aR (pv 0))) L.cl Ge M (aa (pv 1) ad)))))) (af (ao (aJ ad))) ar)
  (af (ao (aJ (aa (aM (aa bA (aa (pv 1) ad))) ad))))),?_⟩
 have p:=g.Y
 obtain⟨HQ,Jg,Nu⟩:=p.υ
 obtain⟨e,Ib⟩:∃e,st.γ[k]?=Α e:=⟨_,Λ N⟩
 obtain⟨vl,Nx,O,R,Q3,R6,rfl,B,_⟩:=Paired.at2 Nu Ib
 refine⟨_,_,_,_,_,Κ,p.ρ,Y.cl,Y.n3,Κ,_,_,_,_,Κ,Κ,HC.of Jg,al Nx,O,R,_,Κ,B.ρ,Κ,O,R,_,_,_,_,_,_,Κ,B,?_⟩
 have eF:aU st k=e.qs.head?:=by unfold aU;rw[Ib]
 unfold eJ at q
 rw[eF]at q
 rcases mm B.Jr with ⟨u,C⟩|⟨pq,pt,u,C,S⟩
 ·rw[u]at q
  rw[C]
  exact⟨Κ,_,Κ,az (az ⟨ϡ _,λD d=>q D [] _ ((Hz.refl H).new d) d ae .nil⟩)⟩
 rw[u]at q
 rw[C]
 obtain⟨m,t,U,X,Mj⟩:=g.G.Jr k e Ib pq (Ą u)
 rw[U]at S
 dsimp only at q
 rw[U,Τ,X]at q
 dsimp only at q
 obtain⟨HE,JC,pl⟩:=p.χ
 obtain⟨v,hv,x,dx,wa,rfl,hx,hw,_⟩:=Paired.at2 pl X
 obtain⟨LB,I,K8,IE,JV⟩:=g.T.i
 have Sw:k<a.ps.length:=by rw[←g.G.γ];exact N
 have Z:=Λ Sw
 have ME:a.ps.getD k (0,0)=a.ps[k]:=by rw[Ω,Z];rfl
 rw[ME]at q
 refine⟨Κ,_,Κ,au ⟨a.y,ys.HH,a.dy,_,_,Κ,p.ρ,Y.cl,Y.n4,Κ,pt,_,0,_,Κ,Κ,HF.of S,al (j:=0) Κ,a.le,HE,(m:Int),_,Κ,Κ,HC.of JC,al hv,x,ys.HG,dx,_,_,Κ,hx,Y.ct,Y.t2,Κ,a.y,ys.HH,a.dy,_,_,Κ,p.ρ,Y.cl,Y.n1,Κ,a.tb,TC,LB,I,_,Κ,K8,W.cl,W.nl,IE,a.lx,a.HJ,_,Κ,g.T.l.1,Κ,a.lx,a.HJ,a.lt,(a.n:Int),a.HE,a.ps,k,_,Κ,g.T.l,Z,Κ,_,Κ,?_⟩⟩
 rw[bC]
 by_cases A:t.ι=a.ps[k].2
 ·rw[Ε A]
  rw[Θ A]at q
  refine au ⟨by show 2<=Χ;decide,λz hz=>⟨by show 1<=Χ;decide,λD d=>?_⟩⟩
  have s2:=(Hz.refl H).new (o:=.tup [.str "lie",.int k]) hz
  have gz:=aX H z (.tup [.str "lie",.int k])
  exact q D [.ref z] _ (s2.new d) (s2.free d) ae (.cons ⟨z,Κ,cf gz d _⟩ .nil)
 ·rw[Ζ A]
  rw[Η A]at q
  exact az ⟨ϡ _,λD d=>q D [] _ ((Hz.refl H).new d) d ae .nil⟩
theorem scMb:aq eC eC (ag oW):=bM
theorem wT(F:HZ K "moves_back" "Yard.moves_back" oW f fd)(Y:mG K ys):HB P w K mg μ aK 1 f fd eC (lh K c TC J ys):=by
 refine F.ok scMb λ_ _ _ s H _ Q E B h=>?_
 obtain⟨a,st,k,rfl,l,m,q⟩:=h
 refine⟨_,af (ao (dC (bJ E7 (aR (be HN (aR (pv 0)) (pv 1))) ah) (aJ (aa (aM (aa bA (aa (pv 1) ad))) ad)) (aJ ad))),?_⟩
 have i:=l.Y
 obtain⟨n,p,r⟩:=i.υ
 obtain⟨g,Ib⟩:∃g,st.γ[k]?=Α g:=⟨_,Λ m⟩
 obtain⟨C,t,u,v,G,I,rfl,x,_⟩:=Paired.at2 r Ib
 unfold dh at q
 rw[Ib]at q
 dsimp only at q
 refine⟨_,_,_,_,_,Κ,i.ρ,Y.cl,Y.n3,Κ,_,n,_,_,Κ,Κ,HC.of p,al t,u,_,v,_,_,Κ,x.ρ,Y.L.cl,Y.L.n2,Κ,_,_,Κ,Κ,_,Κ,?_⟩
 by_cases e:0<g.b
 ·rw[Ε e]
  rw[Θ e]at q
  refine az ⟨by show 2<=Χ;decide,λz A=>⟨by show 1<=Χ;decide,λD d=>?_⟩⟩
  have j:=(Hz.refl H).new (o:=.tup [.str "back",.int k]) A
  have gz:=aX H z (.tup [.str "back",.int k])
  exact q D [.ref z] _ (j.new d) (j.free d) ae (.cons ⟨z,Κ,cf gz d _⟩ .nil)
 ·rw[Ζ e]
  rw[Η e]at q
  exact au ⟨ϡ _,λD d=>q D [] _ ((Hz.refl H).new d) d ae .nil⟩
theorem jp(h:H F=Α (.π xs)):HY H (ο H F o):=λb u e n=>by
 have a:b≠F:=λz=>by rw[z,h]at e;cases e;exact n
 rw[aj a];exact e
theorem dQ{a:Type}(f:Nat->List a)(i:Nat):(Υ (i+1)).flatMap f=(Υ i).flatMap f++f i:=by
 rw[É,Ĭ];simp
theorem bw{a:Type}{f:Nat->List a}(h:∀i,(f i).length<=1000):∀i,((Υ i).flatMap f).length<=1000* i
 |0=>by simp
 |i+1=>by rw[dQ,ϛ];have:=bw h i;have:=h i;lia
theorem fD(O:xK a)(G:YOk a s)(k:Nat):(gX a s k).length<=1000:=by
 unfold gX
 cases d:s.Hw[k]? with
 |none=>exact ϡ _
 | some t =>
  dsimp only
  by_cases b:t.δ=t.len
  ·rw[Θ b];exact ϡ _
  rw[Η b,Ρ]
  refine Í (ē _ _) ?_
  unfold bS
  by_cases c:t.δ=0
  ·rw[Θ c];exact Í (O.few _ _ _) (by decide)
  ·rw[Η c,ņ];lia
theorem fB(O:xK a)(k:Nat):(iM a s k).length<=1000:=by
 unfold iM
 cases d:aU s k with
 |none=>exact ϡ _
 | some b =>
  dsimp only
  rw[Ρ]
  refine Í (ē _ _) ?_
  unfold bI
  rw[d]
  dsimp only
  cases s.Hw[b.1.toNat]? with
  |none=>exact ϡ _
  | some t =>
   dsimp only
   by_cases c:b.2=0
   ·rw[Θ c]
    refine Í (ē _ _) ?_
    unfold ff
    by_cases z:(a.ps.getD k (0,0)).2=((t.ι.toNat:Nat):Int)
    ·rw[Θ z];exact ϡ _
    ·rw[Η z];exact Í (O.few _ _ _) (by decide)
   ·rw[Η c,ņ];lia
theorem dO(a:YA)(s:YS)(k:Nat):(eJ a s k).length<=1000:=by
 unfold eJ
 cases aU s k with
 |none=>exact ϡ _
 | some c =>
  dsimp only
  cases s.Hw[c.1.toNat]? with
  |none=>exact ϡ _
  | some t =>
   dsimp only
   by_cases b:t.ι=(a.ps.getD k (0,0)).2
   ·rw[Θ b];show 1<=1000;decide
   ·rw[Η b];exact ϡ _
theorem lL(s:YS)(k:Nat):(dh s k).length<=1000:=by
 unfold dh
 cases s.γ[k]? with
 |none=>exact ϡ _
 | some c =>
  dsimp only
  by_cases a:0<c.b
  ·rw[Θ a];show 1<=1000;decide
  ·rw[Η a];exact ϡ _
noncomputable def bK(a:YA)(s:YS):List Mv:=(Υ s.Hw.length).flatMap (gX a s)++(Υ s.γ.length).flatMap (iM a s)++(Υ s.γ.length).flatMap (eJ a s)++(Υ s.γ.length).flatMap (dh s)
inductive oO(K:ϧ)(c:Cs)(TC:Ο)(J:TJ)(ys:Ys)(vs:List V)(H:Hp)(Q:VK)(E:XK):Prop
 |mk (a:YA) (s:YS) (_:vs=[.ref a.y]) (_:Nv K c TC J ys H a s) (_:∀(D:Ο)(Ik:List V)(H':Hp),Hz H H'->H D=Β->H' D=Α (.π Ik)->Paired (IQ H') Ik ((bK a s).map dY)->Q (.ref D) H')
theorem Paired.app{a:List α}{b:List β}(h:Paired R a b):∀{as:List α}{bs:List β},Paired R as bs->Paired R (as++a) (bs++b):=λc=>by
 induction c with
 |nil=>exact h
 |cons x r d=>exact .cons x d
theorem jn{xs c:List Mv}(d:H F=Β)(f:Hz H H2)(g:H2 F=Α (.π vs))(h:Paired (IQ H2) vs (xs.map dY))(a:Hz H2 H3)(i:Paired (IQ H3) Ik (c.map dY)):
  Hz H (ο H3 F (.π (vs++Ik)))/\(ο H3 F (.π (vs++Ik))) F=Α (.π (vs++Ik))/\Paired (IQ (ο H3 F (.π (vs++Ik)))) (vs++Ik) ((xs++c).map dY):=by
 refine⟨λb o e=>by rw[aj (ai e d)];exact a _ _ (f _ _ e),ae,?_⟩
 have kk:HY H3 (ο H3 F (.π (vs++Ik))):=jp (a _ _ g)
 rw[Ϥ]
 have j:=Paired.mono (λ_ _ z=>z.keep (HY.trans (Hz.HM a) kk)) h
 have l:=Paired.mono (λ_ _ z=>z.keep kk) i
 exact Paired.app l j
abbrev NMs:List Str:=["self","found","number","lane"]
theorem Nc:aq NMs gj (ag sT):=bM
structure MvM(P:Program)(w:Å)(K:ϧ)(mg:Str->Option Φ)(μ:Ó)(c:Cs)(TC:Ο)(J:TJ)(ys:Ys):Prop where
 Gi:Me P w K mg μ ys.HH "moves_in" 4 qc (yy K c TC J ys)
 Go:Me P w K mg μ ys.HH "moves_on" 6 eC (yw K c TC J ys)
 Gl:Me P w K mg μ ys.HH "moves_lie" 2 eC (uQ K c TC J ys)
 Gb:Me P w K mg μ ys.HH "moves_back" 1 eC (lh K c TC J ys)
theorem zM(F:HZ K "moves" "Yard.moves" sT f fd)(T:dz mg)(Y:mG K ys)(W:Wy K TC J)(M:MvM P w K mg μ c TC J ys):
  HB P w K mg μ aK 7 f fd gj (oO K c TC J ys):=by
 refine F.ok Nc λ_ _ _ s H _ Q E hr h=>?_
 obtain⟨a,st,rfl,d,q⟩:=h
 refine⟨_,ac (bG 1 Nc.nd (aJ ad))
  (ac (eI (aE Κ T.range (aa (gq T.len (aR (pv 0))) ad)) (b9 2 Nc.nd) (af (aF (ck plainAttrs_list slot_list_extend type_list_extend dP (pv 1) (aa (cE (pv 0) Y.cl M.Gi hr (aa (pv 2) ad)) ad)))))
  (ac (eI (aE Κ T.range (aa (gq T.len (aR (pv 0))) ad)) (b9 3 Nc.nd) (af (aF (ck plainAttrs_list slot_list_extend type_list_extend dP (pv 1) (aa (cE (pv 0) Y.cl M.Go hr (aa (pv 3) ad)) ad)))))
  (ac (eI (aE Κ T.range (aa (gq T.len (aR (pv 0))) ad)) (b9 3 Nc.nd) (af (aF (ck plainAttrs_list slot_list_extend type_list_extend dP (pv 1) (aa (cE (pv 0) Y.cl M.Gl hr (aa (pv 3) ad)) ad)))))
  (ac (eI (aE Κ T.range (aa (gq T.len (aR (pv 0))) ad)) (b9 3 Nc.nd) (af (aF (ck plainAttrs_list slot_list_extend type_list_extend dP (pv 1) (aa (cE (pv 0) Y.cl M.Gb hr (aa (pv 3) ad)) ad)))))
  (af (ao (pv 1))))))),?_⟩
 have Oa:=d.G.few
 have R8:st.γ.length<=40:=by rw[d.G.γ];exact d.T.few
 refine⟨ϡ _,λg N=>?_⟩
 have s0:=(Hz.refl H).new (o:=.π []) N
 have g0:=aX H g (.π [])
 generalize ο H g _=H0 at s0 g0⊢
 have R:∃b,Hz H H0/\H0 g=Α (.π b)/\Paired (IQ H0) b (([]:List Mv).map dY):=⟨[],s0,g0,.nil⟩
 obtain⟨QT,S,g0',p0'⟩:=R
 have U:=(d.same W S).Y
 obtain⟨X,gl0,pl0⟩:=U.χ
 have Z:=Paired.length pl0
 refine⟨_,_,_,_,_,Κ,U.ρ,Y.cl,Y.n4,Κ,_,_,Κ,.inl (HC.of gl0),_,Κ,by lia,by lia,?_⟩
 rw[Τ,Z]
 refine aS (n:=st.Hw.length) (λi r e=>∃t u:Option V,(∃b,Hz H e/\e g=Α (.π b)/\Paired (IQ e) b (((Υ i).flatMap (gX a st)).map dY))/\r=[Α (.ref a.y),Α (.ref g),t,u]) ?_ ?_ ?_
 ·exact⟨_,_,⟨QT,S,g0',by grind⟩,Κ⟩
 ·rintro i r e A ⟨t,u,⟨b,m,j,p⟩,rfl⟩
  rw[Õ]
  have v:=d.same W m
  refine⟨.inl ⟨Κ,_,HC.of j⟩,_,_,_,Κ,v.Y.ρ,Κ,a,_,i,Κ,v,A,λD l H3 x hD B z=>?_⟩
  have l1:b.length<=1000000:=by
   rw[Paired.length p,Ρ]
   have h0:=bw (fD d.O d.G) st.Hw.length
   have h1:=bw (fB (s:=st) d.O) st.γ.length
   have h2:=bw (dO a st) st.γ.length
   have hh:=bw (fD d.O d.G) i
   grind
  have l2:l.length<=1000:=by rw[Paired.length z,Ρ];exact(fD d.O d.G) i
  obtain⟨C,I,L⟩:=jn N m j p x z
  refine⟨g,D,b,l,Κ,Κ,x _ _ j,B,by rw[ϊ];lia,_,_,⟨b++l,C,I,?_⟩,Κ⟩
  rw[dQ]
  exact L
 rintro σ0 H1 ⟨a20,a30,inv1,rfl⟩
 obtain⟨vs1,s1',g1',p1'⟩:=inv1
 have KO:=(d.same W s1').Y
 obtain⟨tv1,R9,pl1⟩:=KO.υ
 have hll1:=Paired.length pl1
 refine⟨_,_,_,_,_,Κ,KO.ρ,Y.cl,Y.n3,Κ,_,_,Κ,.inl (HC.of R9),_,Κ,by lia,by lia,?_⟩
 rw[Τ,hll1]
 refine aS (n:=st.γ.length) (λi r e=>∃t u:Option V,(∃b,Hz H e/\e g=Α (.π b)/\Paired (IQ e) b ((((Υ st.Hw.length).flatMap (gX a st))++(Υ i).flatMap (iM a st)).map dY))/\r=[Α (.ref a.y),Α (.ref g),t,u]) ?_ ?_ ?_
 ·grind
 ·rintro i r e A ⟨t,u,⟨b,m,j,p⟩,rfl⟩
  rw[Õ]
  have v:=d.same W m
  refine⟨.inl ⟨Κ,_,HC.of j⟩,_,_,_,Κ,v.Y.ρ,Κ,a,_,i,Κ,v,A,λD l H3 x hD B z=>?_⟩
  have l1:b.length<=1000000:=by
   rw[Paired.length p,Ρ]
   have h0:=bw (fD d.O d.G) st.Hw.length
   have h1:=bw (fB (s:=st) d.O) st.γ.length
   have h2:=bw (dO a st) st.γ.length
   have hh:=bw (fB (s:=st) d.O) i
   grind
  have l2:l.length<=1000:=by rw[Paired.length z,Ρ];exact(fB (s:=st) d.O) i
  obtain⟨C,I,L⟩:=jn N m j p x z
  refine⟨g,D,b,l,Κ,Κ,x _ _ j,B,by rw[ϊ];lia,_,_,⟨b++l,C,I,?_⟩,Κ⟩
  rw[dQ]
  rw[←Ĝ];exact L
 rintro σ1 e ⟨a21,a31,inv2,rfl⟩
 obtain⟨MD,s2',g2',p2'⟩:=inv2
 have Lx:=(d.same W s2').Y
 obtain⟨tv2,gl2,pl2⟩:=Lx.υ
 have Vk:=Paired.length pl2
 refine⟨_,_,_,_,_,Κ,Lx.ρ,Y.cl,Y.n3,Κ,_,_,Κ,.inl (HC.of gl2),_,Κ,by lia,by lia,?_⟩
 rw[Τ,Vk]
 refine aS (n:=st.γ.length) (λi r e=>∃t u:Option V,(∃b,Hz H e/\e g=Α (.π b)/\Paired (IQ e) b ((((Υ st.Hw.length).flatMap (gX a st)++(Υ st.γ.length).flatMap (iM a st))++(Υ i).flatMap (eJ a st)).map dY))/\r=[Α (.ref a.y),Α (.ref g),t,u]) ?_ ?_ ?_
 ·grind
 ·rintro i r e A ⟨t,u,⟨b,m,j,p⟩,rfl⟩
  rw[Õ]
  have v:=d.same W m
  refine⟨.inl ⟨Κ,_,HC.of j⟩,_,_,_,Κ,v.Y.ρ,Κ,a,_,i,Κ,v,A,λD l H3 x hD B z=>?_⟩
  have l1:b.length<=1000000:=by
   rw[Paired.length p,Ρ]
   have h0:=bw (fD d.O d.G) st.Hw.length
   have h1:=bw (fB (s:=st) d.O) st.γ.length
   have h2:=bw (dO a st) st.γ.length
   have hh:=bw (dO a st) i
   grind
  have l2:l.length<=1000:=by rw[Paired.length z,Ρ];exact(dO a st) i
  obtain⟨C,I,L⟩:=jn N m j p x z
  refine⟨g,D,b,l,Κ,Κ,x _ _ j,B,by rw[ϊ];lia,_,_,⟨b++l,C,I,?_⟩,Κ⟩
  rw[dQ]
  rw[←Ĝ];exact L
 rintro σ2 H3 ⟨a22,a32,inv3,rfl⟩
 obtain⟨vs3,s3',Sz,p3'⟩:=inv3
 have JN:=(d.same W s3').Y
 obtain⟨tv3,gl3,pl3⟩:=JN.υ
 have hll3:=Paired.length pl3
 refine⟨_,_,_,_,_,Κ,JN.ρ,Y.cl,Y.n3,Κ,_,_,Κ,.inl (HC.of gl3),_,Κ,by lia,by lia,?_⟩
 rw[Τ,hll3]
 refine aS (n:=st.γ.length) (λi r e=>∃t u:Option V,(∃b,Hz H e/\e g=Α (.π b)/\Paired (IQ e) b ((((Υ st.Hw.length).flatMap (gX a st)++(Υ st.γ.length).flatMap (iM a st)++(Υ st.γ.length).flatMap (eJ a st))++(Υ i).flatMap (dh st)).map dY))/\r=[Α (.ref a.y),Α (.ref g),t,u]) ?_ ?_ ?_
 ·grind
 ·rintro i r e A ⟨t,u,⟨b,m,j,p⟩,rfl⟩
  rw[Õ]
  have v:=d.same W m
  refine⟨.inl ⟨Κ,_,HC.of j⟩,_,_,_,Κ,v.Y.ρ,Κ,a,_,i,Κ,v,A,λD l H3 x hD B z=>?_⟩
  have l1:b.length<=1000000:=by
   rw[Paired.length p,Ρ]
   have h0:=bw (fD d.O d.G) st.Hw.length
   have h1:=bw (fB (s:=st) d.O) st.γ.length
   have h2:=bw (dO a st) st.γ.length
   have hh:=bw (lL st) i
   try simp only[ϛ]
   lia
  have l2:l.length<=1000:=by rw[Paired.length z,Ρ];exact(lL st) i
  obtain⟨C,I,L⟩:=jn N m j p x z
  refine⟨g,D,b,l,Κ,Κ,x _ _ j,B,by rw[ϊ];lia,_,_,⟨b++l,C,I,?_⟩,Κ⟩
  rw[dQ]
  rw[←Ĝ];exact L
 rintro σ3 H4 ⟨a23,a33,inv4,rfl⟩
 obtain⟨b,m,j,p⟩:=inv4
 exact(q g b _ m N j p)
structure Vl(K:ϧ):Prop where
 ss:Ķ K (.type "str") (.type "str")=Α Γ
 ns:Ķ K (.type "int") (.type "str")=Α Δ
 tt:Ķ K (.type "tuple") (.type "tuple")=Α Γ
theorem kh(h:a≠b):decide (V.str a=V.str b)=Δ:=Ζ λz=>h (by injection z)
theorem lm(a:Str):decide (V.str a=V.str a)=Γ:=Ε Κ
inductive yA(vs:List V)(H:Hp)(Q:VK)(E:XK):Prop
 |mk (p:Ο) (xs:List V) (_:vs=[.ref p]) (_:H p=Α (.tup xs)) (_:xs.length<=100) (_:(∀x∈xs,(∃t,x=.str t)∨∃i,x=.int i)) (_:∀H',Hz H H'->Q (.bl Γ) H')
noncomputable def DL(s:ϩ):Scope:=match s with
 |.Return (Α (.BoolOp _ [_,.Call _ [.ListComp _ _ sc _] _ _] _)) _=>sc
 |_=>zQ0
theorem qX(m:Mv):(dY m).length<=100/\∀x∈dY m,(∃t,x=V.str t)∨∃i,x=V.int i:=by
 cases m<;>refine⟨by simp[dY],λx a=>?_⟩<;>simp only[dY,À,Ñ,or_false]at a
 ·grind
 ·grind
 ·grind
 grind
noncomputable def vF(a:YA)(s:YS):Mv->List Mv
 |.IB k _=>gX a s k
 |.on k _=>iM a s k
 |.J4 k=>eJ a s k
 |.back k=>dh s k
def EC(s:YS):Mv->Prop
 |.IB k _=>k<s.Hw.length
 |.on k _=>k<s.γ.length
 |.J4 k=>k<s.γ.length
 |.back k=>k<s.γ.length
inductive y8(K:ϧ)(c:Cs)(TC:Ο)(J:TJ)(ys:Ys)(vs:List V)(H:Hp)(Q:VK)(E:XK):Prop
 |mk (a:YA) (s:YS) (p:Ο) (m:Mv) (_:vs=[.ref a.y,.ref p]) (_:Nv K c TC J ys H a s) (_:H p=Α (.tup (dY m))) (_:EC s m) (_:∀(D:Ο)(Ik:List V)(H':Hp),Hz H H'->H D=Β->H' D=Α (.π Ik)->Paired (IQ H') Ik ((vF a s m).map dY)->Q (.ref D) H')
theorem scIm:aq ["move"] ["move"] (ag qH):=bM
theorem bkIm:IP ["move"] (ag qH) (DL ((aB qH).getD 0 (.Pass ⟨0,0,0,0⟩))) [] []:=_L2.Jv
theorem ndIm:(["thing"]:List Str).Nodup:=by decide +kernel
theorem CU(F:HZ K "is_move" "is_move" qH f fd)(T:dz mg)(Z:Vl K)(G:Ca P w K mg μ "is_whole" 1 uq iX):
  HB P w K mg μ aK 2 f fd ["move"] yA:=by
 refine F.ok scIm λ_ _ _ s H _ Q E c h=>?_
 obtain⟨p,xs,rfl,b,m,d,q⟩:=h
 refine⟨_,af (ao (cv (aH j2 Κ T.O4 ϯ (aa (pv 0) (aa (du (v:=.ty "tuple") Κ T.tuple PySem.Pv.boot_tuple Κ) ad)))
  (cP (aH (ij Κ) Κ T.all ą (aa (aZ (own:=["thing"]) (capN:=[]) (cap:=[]) bkIm Κ (dU (pv 0)) (λC n a o=>⟨b9 0 ndIm,bu,
   SU (aH (show c5 _ (.builtin "isinstance") (TH K) from j2) Κ T.O4 ϯ (aa (pv 0) (aa (du (v:=.ty "str") Κ T.str PySem.Pv.boot_str Κ) ad))) (cP (bF G c (aa (pv 0) ad)))⟩)) ad))))),?_⟩
 refine⟨_,_,_,_,Κ,.tup b,Z.tt,_,Κ,az ⟨p,Κ,⟨_,HF.of b⟩,?_⟩⟩
 refine aW xs.length (by rw[ϊ];lia) (λi acc a=>a=H/\acc=(Ϗ i Γ).map V.bl) ⟨Κ,Κ⟩ (λi acc a h=>by grind) (λi acc a g h=>?_) (λacc a h=>?_)
 ·obtain⟨rfl,rfl⟩:=h
  refine⟨⟨xs,xs[i],HF.of b,Λ g⟩,λv r y=>?_⟩
  obtain⟨rfl,y⟩:=y
  have j:=y xs (HF.of b)
  have e:(Ϗ i Γ).map V.bl++[V.bl Γ]=(Ϗ (i+1) Γ).map V.bl:=by rw[MQ,Ϥ];rfl
  rcases d v (Ψ j) with ⟨t,rfl⟩|⟨z,rfl⟩
  ·exact⟨_,_,_,_,Κ,.str t,Z.ss,_,Κ,az ⟨Κ,e⟩⟩
  ·exact⟨_,_,_,_,Κ,.int z,Z.ns,_,Κ,au ⟨.int z,Κ,.int z,Κ,e⟩⟩
 ·obtain⟨rfl,rfl⟩:=h
  refine⟨⟨xs,HF.of b,Ξ _⟩,λD l=>⟨D,Ϗ xs.length Γ,Κ,HC.of ae,?_⟩⟩
  have e:(Ϗ xs.length Γ).all id=Γ:=by grind
  rw[e]
  exact q _ ((Hz.refl a).new l)
theorem scLk:aq kr kr (ag zb):=bM
theorem CT(F:HZ K "moves_like" "Yard.moves_like" zb f fd)(T:dz mg)(Y:mG K ys)(W:Wy K TC J)(M:MvM P w K mg μ c TC J ys)
  (U:Ca P w K mg μ "is_move" 2 ["move"] yA)
  (R:Ca P w K mg μ "is_within" 2 ko io):
  HB P w K mg μ aK 7 f fd kr (y8 K c TC J ys):=by
 refine F.ok scLk λ_ _ _ s H _ Q E z h=>?_
 obtain⟨a,st,p,m,rfl,S,G,e,q⟩:=h
 refine⟨_,ac (aC (kE (PW.pt (c9 (ba (aQ (bF U z (aa (pv 1) ad)))) (bT (bJ jX (gq T.len (pv 1)) ah))))) (af (ao (aJ ad))) ar)
  (ac (aC (bJ br (be HA (pv 1) ah) bA)
   (af (ao (dC (aQ (bF R z (aa (be HA (pv 1) ah) (aa ah (aa (aA cZ (gq T.len (aR (pv 0))) ah) ad)))))
    (cE (pv 0) Y.cl M.Gi z (aa (be HA (pv 1) ah) ad)) (aJ ad)))) ar)
  (ac (aC (ba (aQ (bF R z (aa (be HA (pv 1) ah) (aa ah (aa (aA cZ (gq T.len (aR (pv 0))) ah) ad)))))) (af (ao (aJ ad))) ar)
  (ac (aC (bJ br (be HA (pv 1) ah) bA) (af (ao (cE (pv 0) Y.cl M.Go z (aa (be HA (pv 1) ah) ad)))) ar)
  (ac (aC (bJ br (be HA (pv 1) ah) bA) (af (ao (cE (pv 0) Y.cl M.Gl z (aa (be HA (pv 1) ah) ad)))) ar)
  (af (ao (dC (bJ br (be HA (pv 1) ah) bA) (cE (pv 0) Y.cl M.Gb z (aa (be HA (pv 1) ah) ad)) (aJ ad)))))))),?_⟩
 refine⟨λb o=>b=Δ/\Hz H o,?_,?_⟩
 ·refine⟨p,_,Κ,G,(qX m).1,(qX m).2,λo x=>⟨_,Κ,au ?_⟩⟩
  refine⟨p,_,Κ,.inr (HF.of (x _ _ G)),_,_,Κ,Κ,_,Κ,?_,x⟩
  cases m<;>rfl
 rintro b o ⟨rfl,x⟩
 refine au ?_
 have B:=S.same W x
 have d:=x _ _ G
 have I:=λD i g r t u v=>q D i g (x.trans r) (x.free t) u v
 have n:=B.Y
 obtain⟨L,X,N⟩:=n.χ
 have Z:=Paired.length N
 obtain⟨C,O,Nu⟩:=n.υ
 have υ:=Paired.length Nu
 clear x q G S
 have A:∀k:Nat,k<st.γ.length->nD (.int k) 0 (((C.length:Nat):Int) - 1)=Γ:=λk hk=>Ε (by lia)
 cases m with
 | IB k l =>
  have d:=d
  have e:k<st.Hw.length:=e
  refine⟨p,_,0,_,Κ,Κ,HF.of d,al (j:=0) Κ,Κ,_,Κ,?_⟩
  rw[lm]
  refine az ⟨p,_,1,_,Κ,Κ,HF.of d,al (j:=1) Κ,a.y,ys.HH,a.dy,_,_,Κ,n.ρ,Y.cl,Y.n4,Κ,a.le,_,Κ,.inl (HC.of X),_,_,Κ,Κ,.int k,0,((L.length:Nat):Int) - 1,Κ,.int _,_,Κ,?_⟩
  rw[show nD (.int k) 0 (((L.length:Nat):Int) - 1)=Γ from Ε (by lia)]
  exact az ⟨a.y,a.dy,_,Κ,n.ρ,Κ,p,_,1,_,Κ,Κ,HF.of d,al (j:=1) Κ,a,st,k,Κ,B,e,λD i g r t u v=>I D i g r t u v⟩
 | on k l =>
  have d:=d
  have e:=e
  refine⟨p,_,0,_,Κ,Κ,HF.of d,al (j:=0) Κ,Κ,_,Κ,?_⟩
  rw[kh (by decide +kernel)]
  refine au ⟨p,_,1,_,Κ,Κ,HF.of d,al (j:=1) Κ,a.y,ys.HH,a.dy,_,_,Κ,n.ρ,Y.cl,Y.n3,Κ,a.la,_,Κ,.inl (HC.of O),_,_,Κ,Κ,.int k,0,((C.length:Nat):Int) - 1,Κ,.int _,_,Κ,?_⟩
  rw[A k e]
  refine au ⟨p,_,0,_,Κ,Κ,HF.of d,al (j:=0) Κ,Κ,_,Κ,?_⟩
  rw[lm]
  exact az ⟨a.y,a.dy,_,Κ,n.ρ,Κ,p,_,1,_,Κ,Κ,HF.of d,al (j:=1) Κ,a,st,k,Κ,B,e,λD i g r t u v=>I D i g r t u v⟩
 | J4 k =>
  have d:=d
  have e:=e
  refine⟨p,_,0,_,Κ,Κ,HF.of d,al (j:=0) Κ,Κ,_,Κ,?_⟩
  rw[kh (by decide +kernel)]
  refine au ⟨p,_,1,_,Κ,Κ,HF.of d,al (j:=1) Κ,a.y,ys.HH,a.dy,_,_,Κ,n.ρ,Y.cl,Y.n3,Κ,a.la,_,Κ,.inl (HC.of O),_,_,Κ,Κ,.int k,0,((C.length:Nat):Int) - 1,Κ,.int _,_,Κ,?_⟩
  rw[A k e]
  refine au ⟨p,_,0,_,Κ,Κ,HF.of d,al (j:=0) Κ,Κ,_,Κ,?_⟩
  rw[kh (by decide +kernel)]
  refine au ⟨p,_,0,_,Κ,Κ,HF.of d,al (j:=0) Κ,Κ,_,Κ,?_⟩
  rw[lm]
  exact az ⟨a.y,a.dy,_,Κ,n.ρ,Κ,p,_,1,_,Κ,Κ,HF.of d,al (j:=1) Κ,a,st,k,Κ,B,e,λD i g r t u v=>I D i g r t u v⟩
 | back k =>
  have d:=d
  have e:=e
  refine⟨p,_,0,_,Κ,Κ,HF.of d,al (j:=0) Κ,Κ,_,Κ,?_⟩
  rw[kh (by decide +kernel)]
  refine au ⟨p,_,1,_,Κ,Κ,HF.of d,al (j:=1) Κ,a.y,ys.HH,a.dy,_,_,Κ,n.ρ,Y.cl,Y.n3,Κ,a.la,_,Κ,.inl (HC.of O),_,_,Κ,Κ,.int k,0,((C.length:Nat):Int) - 1,Κ,.int _,_,Κ,?_⟩
  rw[A k e]
  refine au ⟨p,_,0,_,Κ,Κ,HF.of d,al (j:=0) Κ,Κ,_,Κ,?_⟩
  rw[kh (by decide +kernel)]
  refine au ⟨p,_,0,_,Κ,Κ,HF.of d,al (j:=0) Κ,Κ,_,Κ,?_⟩
  rw[kh (by decide +kernel)]
  refine au ⟨p,_,0,_,Κ,Κ,HF.of d,al (j:=0) Κ,Κ,_,Κ,?_⟩
  rw[lm]
  exact az ⟨a.y,a.dy,_,Κ,n.ρ,Κ,p,_,1,_,Κ,Κ,HF.of d,al (j:=1) Κ,a,st,k,Κ,B,e,λD i g r t u v=>I D i g r t u v⟩
noncomputable def cn(ln:Ie):Ie:={ln with b:=ln.b+1,qs:=ln.qs.tail}
noncomputable def r9(ln:Ie):Ie:={ln with r:=ln.r+1,b:=ln.b - 1}
inductive Kd(a:YA)(s:YS):Mv->YS->Prop
 | IB {k l:Nat} {t:bj} {ln:Ie} (ht:s.Hw[k]?=Α t) (hg:t.δ≠t.len) (hl:l∈bS a t) (Ib:s.γ[l]?=Α ln) (ho:bL ln.r ln.h k t.δ=Γ):
  Kd a s (.IB k l) (cG (cp s k t) k t.δ l {t with δ:=t.δ+1} ln)
 | on {k l m:Nat} {c:Int} {lk ln:Ie} {t:bj} (hk:s.γ[k]?=Α lk) (hq:lk.qs.head?=Α ((m:Int),c)) (ht:s.Hw[m]?=Α t) (hl:l∈bI a s k) (Ib:(s.γ.set k (cn lk))[l]?=Α ln) (ho:bL ln.r ln.h m c=Γ):
  Kd a s (.on k l) (cG {s with γ:=s.γ.set k (cn lk)} m c l t ln)
 | J4 {k m e:Nat} {c:Int} {lk:Ie} {t:bj} {qs:IPs} (hk:s.γ[k]?=Α lk) (hq:lk.qs.head?=Α ((m:Int),c)) (ht:s.Hw[m]?=Α t) (hg:t.ι=(e:Int)) (he:(a.ps.getD k (0,0)).2=(e:Int)) (KA:s.ε[e]?=Α qs):
  Kd a s (.J4 k) {s with γ:=s.γ.set k (cn lk),ε:=s.ε.set e (qs++[((m:Int),c)])}
 |back {k:Nat} {lk:Ie} (hk:s.γ[k]?=Α lk) (hb:0<lk.b):Kd a s (.back k) {s with γ:=s.γ.set k (r9 lk)}
theorem Kd.done(h:Kd a s m s'):s'.done=s.done:=by
 cases h<;>rfl
structure Sml(s:YS):Prop where
 q:∀(k:Nat)(ln:Ie),s.γ[k]?=Α ln->ln.qs.length<=10000
 l:∀(p:Nat)(qs:IPs),s.ε[p]?=Α qs->qs.length<=10000
 d:s.done.length<=100000
theorem lF(h:cW s l m c=Γ):∃a,s.γ[l]?=Α a/\bL a.r a.h m c=Γ:=by
 unfold cW at h
 cases b:s.γ[l]? with
 |none=>rw[b]at h;cases h
 |some a=>rw[b]at h;exact⟨a,Κ,h⟩
theorem Ar(h:m∈gX a s k):∃l t b,m=.IB k l/\s.Hw[k]?=Α t/\t.δ≠t.len/\l∈bS a t/\s.γ[l]?=Α b/\bL b.r b.h k t.δ=Γ:=by
 unfold gX at h
 cases d:s.Hw[k]? with
 |none=>rw[d]at h;cases h
 | some t =>
  rw[d]at h
  dsimp only at h
  by_cases c:t.δ=t.len
  ·rw[Θ c]at h;cases h
  rw[Η c]at h
  obtain⟨l,e,rfl⟩:=Â.mp h
  obtain⟨f,g⟩:=Ϫ.mp e
  obtain⟨b,i,j⟩:=lF g
  exact⟨l,t,b,Κ,Κ,c,f,i,j⟩
theorem Ap(h:m∈iM a s k):∃l q lk c,m=.on k l/\s.γ[k]?=Α lk/\lk.qs.head?=Α q/\l∈bI a s k/\s.γ[l]?=Α c/\bL c.r c.h q.1 q.2=Γ:=by
 unfold iM at h
 cases b:aU s k with
 |none=>rw[b]at h;cases h
 | some q =>
  rw[b]at h
  dsimp only at h
  obtain⟨l,e,rfl⟩:=Â.mp h
  obtain⟨f,g⟩:=Ϫ.mp e
  obtain⟨c,i,j⟩:=lF g
  unfold aU at b
  cases d:s.γ[k]? with
  |none=>rw[d]at b;cases b
  |some lk=>rw[d]at b;exact⟨l,q,_,c,Κ,Κ,b,f,i,j⟩
theorem vB(h:m∈eJ a s k):∃q lk t,m=.J4 k/\s.γ[k]?=Α lk/\lk.qs.head?=Α q/\s.Hw[q.1.toNat]?=Α t/\t.ι=(a.ps.getD k (0,0)).2:=by
 unfold eJ at h
 cases b:aU s k with
 |none=>rw[b]at h;cases h
 | some q =>
  rw[b]at h
  dsimp only at h
  cases c:s.Hw[q.1.toNat]? with
  |none=>rw[c]at h;cases h
  | some t =>
   rw[c]at h
   dsimp only at h
   by_cases d:t.ι=(a.ps.getD k (0,0)).2
   ·rw[Θ d]at h
    have f:m=.J4 k:=by simpa using h
    unfold aU at b
    cases e:s.γ[k]? with
    |none=>rw[e]at b;cases b
    |some lk=>rw[e]at b;exact⟨q,_,t,f,Κ,b,c,d⟩
   ·rw[Η d]at h;cases h
theorem rf(h:m∈dh s k):∃lk,m=.back k/\s.γ[k]?=Α lk/\0<lk.b:=by
 unfold dh at h
 grind
theorem xa(h:m∈bK a s):EC s m/\m∈vF a s m:=by
 unfold bK at h
 rw[Á,Á,Á]at h
 rcases h with ((h|h)|h)|h
 ·obtain⟨k,b,h⟩:=â.mp h
  obtain⟨l,t,c,rfl,_⟩:=Ar h
  exact⟨Ϩ.mp b,h⟩
 ·obtain⟨k,b,h⟩:=â.mp h
  obtain⟨l,q,lk,c,rfl,_⟩:=Ap h
  exact⟨Ϩ.mp b,h⟩
 ·obtain⟨k,b,h⟩:=â.mp h
  obtain⟨q,lk,t,rfl,_⟩:=vB h
  exact⟨Ϩ.mp b,h⟩
 ·obtain⟨k,b,h⟩:=â.mp h
  obtain⟨lk,rfl,_⟩:=rf h
  exact⟨Ϩ.mp b,h⟩
noncomputable def wZ:Mv->û
 |.IB k l =>.tuple [.str "in",.int k,.int l]
 |.on k l =>.tuple [.str "on",.int k,.int l]
 |.J4 k =>.tuple [.str "lie",.int k]
 |.back k =>.tuple [.str "back",.int k]
theorem fQ(h:û.strOk x=Γ):JE (.str x) 0:=⟨by simp[Ź,h],by simp[eH]⟩
theorem j9(m:Mv):JE (wZ m) 1:=by
 cases m<;>refine cT (m:=0) λy a=>?_<;>simp only[À,Ñ,or_false]at a
 ·rcases a with rfl|rfl|rfl
  ·exact fQ (by decide +kernel)
  ·exact cj _
  ·exact cj _
 ·rcases a with rfl|rfl|rfl
  ·exact fQ (by decide +kernel)
  ·exact cj _
  ·exact cj _
 ·rcases a with rfl|rfl
  ·exact fQ (by decide +kernel)
  ·exact cj _
 ·rcases a with rfl|rfl
  ·exact fQ (by decide +kernel)
  ·exact cj _
theorem uc(m:Mv)(h:H p=Α (.tup (dY m))):kx K H (.ref p) (wZ m):=by
 cases m<;>refine .tup (HF.of h) ?_
 ·exact .cons (.str _) (.cons (.int _) (.cons (.int _) .nil))
 ·exact .cons (.str _) (.cons (.int _) (.cons (.int _) .nil))
 ·exact .cons (.str _) (.cons (.int _) .nil)
 ·exact .cons (.str _) (.cons (.int _) .nil)
theorem jx:∀{b:List V}{a:List Mv},Paired (IQ H) b (a.map dY)->ku K H b (a.map wZ)
 |[],[],_ =>.nil
 |_:: _,m:: a,.cons ⟨t,e,h⟩ r=>by subst e;exact .cons (uc m h) (jx r)
 |[],_:: _,h=>by cases h
 |_:: _,[],h=>by cases h
theorem Bd{a:List Mv}(h:m∈a):((a.map wZ).any λy=>į y (wZ m))=Γ:=by
 rw[List.any_eq_true]
 exact⟨_,Â.mpr ⟨m,h,Κ⟩,wh _ (j9 m).1⟩
inductive EZ(K:ϧ)(c:Cs)(TC:Ο)(J:TJ)(ys:Ys)(vs:List V)(H:Hp)(Q:VK)(E:XK):Prop
 |mk (a:YA) (s:YS) (p:Ο) (m:Mv) (_:vs=[.ref a.y,.ref p]) (_:Nv K c TC J ys H a s) (_:H p=Α (.tup (dY m))) (_:m∈bK a s) (_:Sml s) (_:∀(H':Hp)(s':YS),Kd a s m s'->HP a.four H H'->Jk K ys H' a {s' with done:=s.done++[dY m]}->Q .HU H')
structure DoM(P:Program)(w:Å)(K:ϧ)(mg:Str->Option Φ)(μ:Ó)(c:Cs)(TC:Ο)(J:TJ)(ys:Ys):Prop where
 Gk:Me P w K mg μ ys.HH "moves_like" 7 kr (y8 K c TC J ys)
 Gg:Me P w K mg μ ys.HH "go_in" 6 DQ (yD K ys)
 Ge:Me P w K mg μ ys.HH "enter" 5 Br (oP K ys)
 Gp:Me P w K mg μ ys.Ih "pull" 1 gj (sK ys.Ih)
 Gb:Me P w K mg μ ys.Ih "bring" 1 gj (vc ys.Ih)
 Gy:Me P w K mg μ ys.HH "lay" 1 Bs (Ex K ys)
theorem scDo:aq kr kr (ag sDo):=bM
theorem Vm(F:HZ K "do" "Yard.do" sDo f fd)(Y:mG K ys)(L:i3 K c)(W:Wy K TC J)(O:Own P w K mg μ ys)
  (D:DoM P w K mg μ c TC J ys) (Gen:Me P w K mg μ c.land "end_of" 1 eC (gm c Î)):
  HB P w K mg μ aK 8 f fd kr (EZ K c TC J ys):=by
 refine F.ok scDo λ_ _ _ s H _ Q E Z h=>?_
 obtain⟨a,st,p,m,rfl,hI,hp,hm,hS,q⟩:=h
 have hu:=Z.units
 refine⟨_,ac (aC (bJ (nA hu) (pv 1) (cE (pv 0) Y.cl D.Gk Z (aa (pv 1) ad))) (af b7) ar)
  (ac (vk (aC (bJ br (be HA (pv 1) ah) bA)
   (af (aF (cE (pv 0) Y.cl D.Gg Z (aa (be HA (pv 1) ah) (aa (be HA (pv 1) ah) ad)))))
   (af (aC (bJ br (be HA (pv 1) ah) bA)
    (af (aF (cE (pv 0) Y.cl D.Ge Z (aa (ji (cE (pv 0) Y.cl O.Gl Z (aa (be HA (pv 1) ah) ad)) Y.L.cl D.Gp Z) (aa (be HA (pv 1) ah) ad)))))
    (af (aC (bJ br (be HA (pv 1) ah) bA)
     (af (aF (cE (pv 0) Y.cl D.Gy Z (aa (ji (cE (pv 0) Y.cl O.Gl Z (aa (be HA (pv 1) ah) ad)) Y.L.cl D.Gp Z) (aa (cE (aR (aR (pv 0))) L.cl Gen Z (aa (be HA (pv 1) ah) ad)) ad)))))
     (af (aF (ji (cE (pv 0) Y.cl O.Gl Z (aa (be HA (pv 1) ah) ad)) Y.L.cl D.Gb Z)))))))))
  (af (aF (ck plainAttrs_list PySem.F.slot_list_append PySem.F.type_list_append bq (aR (pv 0)) (aa (pv 1) ad))))),?_⟩
 obtain⟨HK,LD⟩:=xa hm
 refine⟨_,_,_,Κ,hI.Y.ρ,Κ,a,_,p,m,Κ,hI,hp,HK,λDl Ik M s1 hDl gDl hpr=>?_⟩
 refine⟨_,_,_,_,Κ,uc m (s1 _ _ hp),HC.of gDl,jx hpr,(j9 m).le (by decide),λz hz=>by obtain⟨m',_,rfl⟩:=Â.mp hz;exact(j9 m').le (by decide),_,Κ,?_⟩
 rw[Bd LD]
 refine au ?_
 have MZ:=hI.same W s1
 have g:=s1 _ _ hp
 have C:=MZ.Y
 refine⟨λσ' H'=>σ'=start kr [.ref a.y,.ref p]/\∃s',Kd a st m s'/\HP a.four M H'/\Jk K ys H' a s',?_,?_⟩
 ·
  have Ob:∀(k:Nat)(lk:Ie)(pq:Int×Int),st.γ[k]?=Α lk->lk.qs.head?=Α pq->∀(HQ:List V),M a.la=Α (.π HQ)->∀(x dx pa:Ο)(HR:List V)(H2:Hp),HP [a.la] M H2->M x=Β->M pa=Β->H2 a.la=Α (.π (HQ.set k (.ref x)))->Ii H2 ys.Ih x dx pa lk.r lk.b lk.h HR lk.qs->
    ∀(Q':VK)(E':XK),(∀(v:V)(I:Hp),Eh I v pq->HP [a.la] M I->Jk K ys I a {st with γ:=st.γ.set k (cn lk)}->Q' v I)->sK ys.Ih [.ref x] H2 Q' E':=by
   intro k lk pq u R HQ U x dx pa HR H2 o2 nx np g2 S Q' E' hQ
   refine⟨x,_,_,_,_,_,_,_,Κ,S,λe0=>?_,λv rest ev I X Le=>?_⟩
   ·exfalso
    have hl:=Paired.length S.Jr
    rw[e0]at hl
    cases KA:lk.qs with
    |nil=>rw[KA]at R;cases R
    |cons _ _=>rw[KA]at hl;cases hl
   ·have o4:=λb o nb e=>X b o (ai e nx) (ai e np) (o2 b o nb e)
    refine hQ v I ?_ o4 (Jk.Ll C U o4 (k:=k) (x:=x) (dx:=dx) (pa:=pa) (X _ _ (ai U nx) (ai U np) g2) (ln:=cn lk) Le np)
    have hz:=Jy.MU X S.ρ S.π S.Jr
    rw[ev]at hz
    cases KA:lk.qs with
    |nil=>rw[KA]at R;cases R
    | cons q0 r0 =>
     rw[KA]at R hz
     cases R
     cases hz with
     |cons z _=>exact z
  obtain⟨HQ,U,Nu⟩:=C.υ
  have p3:∀{I:Hp}{ex:List Ο}{xs:List V},M p=Α (.tup xs)->HP ex M I->(∀b∈ex,b∈a.four)->I p=Α (.tup xs):=λh o he=>o _ _ (λz=>by obtain⟨xs,hz⟩:=C.Kv _ (he _ z);rw[h]at hz;cases hz) h
  cases m with
  | IB k l =>
   have g:=g
   obtain⟨l',t,ln,e0,ht,hg,hl,Ib,ho⟩:=Ar (LD)
   cases e0
   refine⟨p,_,0,_,Κ,Κ,HF.of g,al (j:=0) Κ,Κ,_,Κ,?_⟩
   rw[lm]
   refine az ⟨a.y,a.dy,_,Κ,C.ρ,Κ,p,_,1,_,Κ,Κ,HF.of g,al (j:=1) Κ,p,_,2,_,Κ,Κ,HF.of g,al (j:=2) Κ,a,st,k,l,t,ln,Κ,C,ht,Ib,ho,(hI.G.IG k t ht).2,ë (hS.q l ln Ib) (by decide),λH' o' Rz=>⟨Κ,_,Kd.IB ht hg hl Ib ho,o'.mono (by simp),Rz⟩⟩
  | on k l =>
   have g:=g
   obtain⟨l',pq,lk,ln,e0,u,R,hl,Ib,ho⟩:=Ap (LD)
   cases e0
   obtain⟨m,t,em,ht,Mj⟩:=hI.G.Jr k lk u pq (Ą R)
   obtain⟨m0,cq⟩:=pq
   have em:=em
   subst em
   refine⟨p,_,0,_,Κ,Κ,HF.of g,al (j:=0) Κ,Κ,_,Κ,?_⟩
   rw[kh (by decide +kernel)]
   refine au ⟨p,_,0,_,Κ,Κ,HF.of g,al (j:=0) Κ,Κ,_,Κ,?_⟩
   rw[lm]
   refine az ⟨a.y,a.dy,_,Κ,C.ρ,Κ,a.y,a.dy,_,Κ,C.ρ,Κ,p,_,1,_,Κ,Κ,HF.of g,al (j:=1) Κ,a,st,k,lk,HQ,Κ,C,u,U,λx dx pa HR H2 o2 nx np g2 S=>⟨x,dx,_,Κ,S.ρ,Κ,Ob k lk _ u R HQ U x dx pa HR H2 o2 nx np g2 S _ (λ_ _ _=>False) λv I hv X JN=>?_⟩⟩
   have Sj:=p3 g X (by simp)
   have IX:=(gQ0 u)
   obtain⟨A,Vn,er,eh,eq⟩:∃A,(st.γ.set k (cn lk))[l]?=Α A/\A.r=ln.r/\A.h=ln.h/\A.qs.length<=10000:=by
    by_cases Vo:k=l
    ·subst Vo
     rw[u]at Ib
     cases Ib
     refine⟨cn lk,by simp[IX],Κ,Κ,?_⟩
     have:=hS.q k lk u
     show lk.qs.tail.length<=10000
     rw[List.length_tail];lia
    ·exact⟨_,by rw[Û Vo];exact Ib,Κ,Κ,hS.q l ln Ib⟩
   have KJ:bL A.r A.h m cq=Γ:=by rw[er,eh];exact ho
   refine⟨p,_,2,_,Κ,Κ,HF.of Sj,al (j:=2) Κ,a,_,v,m,_,l,t,A,Κ,JN,hv,ht,Vn,KJ,(hI.G.IG m t ht).2,ë eq (by decide),λH' o' Rz=>⟨Κ,_,Kd.on u R ht hl Vn KJ,(X.mono (by simp)).trans (o'.mono (by simp)),Rz⟩⟩
  | J4 k =>
   have g:=g
   obtain⟨pq,lk,t0,e0,u,R,Q2,hg⟩:=vB (LD)
   obtain⟨m,t,em,ht,Mj⟩:=hI.G.Jr k lk u pq (Ą R)
   obtain⟨m0,cq⟩:=pq
   have em:=em
   subst em
   have Q2:st.Hw[m]?=Α t0:=by rw[←Q2];rfl
   rw[ht]at Q2
   cases Q2
   have IX:=(gQ0 u)
   have Sw:k<a.ps.length:=by rw[←hI.G.γ];exact IX
   have he:=Λ Sw
   have ME:a.ps.getD k (0,0)=a.ps[k]:=by rw[Ω,he];rfl
   obtain⟨e,ee,Nb⟩:=hI.O.ends k _ he
   rw[ME,ee]at hg
   have Q4:e<st.ε.length:=by rw[hI.G.ε];exact Nb
   have KA:=Λ Q4
   refine⟨p,_,0,_,Κ,Κ,HF.of g,al (j:=0) Κ,Κ,_,Κ,?_⟩
   rw[kh (by decide +kernel)]
   refine au ⟨p,_,0,_,Κ,Κ,HF.of g,al (j:=0) Κ,Κ,_,Κ,?_⟩
   rw[kh (by decide +kernel)]
   refine au ⟨p,_,0,_,Κ,Κ,HF.of g,al (j:=0) Κ,Κ,_,Κ,?_⟩
   rw[lm]
   refine az ⟨a.y,a.dy,_,Κ,C.ρ,Κ,a.y,a.dy,_,Κ,C.ρ,Κ,p,_,1,_,Κ,Κ,HF.of g,al (j:=1) Κ,a,st,k,lk,HQ,Κ,C,u,U,λx dx pa HR H2 o2 nx np g2 S=>⟨x,dx,_,Κ,S.ρ,Κ,Ob k lk _ u R HQ U x dx pa HR H2 o2 nx np g2 S _ (λ_ _ _=>False) λv I hv X JN=>?_⟩⟩
   have Sj:=p3 g X (by simp)
   have Mf:=IM.keep W MZ.T (HP.HM (λb hb=>by simp at hb;subst hb;exact⟨_,U⟩) X)
   obtain⟨LB,fst,K8,IE,JV⟩:=Mf.i
   refine⟨_,_,_,_,_,Κ,JN.ρ,Y.cl,Y.n1,Κ,_,_,_,_,_,Κ,K8,W.cl,W.nl,IE,_,_,_,Κ,Mf.l.1,Κ,p,_,1,_,Κ,Κ,HF.of Sj,al (j:=1) Κ,_,_,_,_,_,_,k,_,Κ,Mf.l,he,?_⟩
   rw[ee]
   exact⟨a,_,v,_,e,_,Κ,JN,hv,KA,Í (hS.l e _ KA) (by decide),λH' o' Rz=>⟨Κ,_,Kd.J4 u R ht hg (by rw[ME,ee]) KA,(X.mono (by simp)).trans (o'.mono (by simp)),Rz⟩⟩
  | back k =>
   have g:=g
   obtain⟨lk,e0,u,hb⟩:=rf (LD)
   refine⟨p,_,0,_,Κ,Κ,HF.of g,al (j:=0) Κ,Κ,_,Κ,?_⟩
   rw[kh (by decide +kernel)]
   refine au ⟨p,_,0,_,Κ,Κ,HF.of g,al (j:=0) Κ,Κ,_,Κ,?_⟩
   rw[kh (by decide +kernel)]
   refine au ⟨p,_,0,_,Κ,Κ,HF.of g,al (j:=0) Κ,Κ,_,Κ,?_⟩
   rw[kh (by decide +kernel)]
   refine au ⟨a.y,a.dy,_,Κ,C.ρ,Κ,p,_,1,_,Κ,Κ,HF.of g,al (j:=1) Κ,a,st,k,lk,HQ,Κ,C,u,U,λx dx pa HR H2 o2 nx np g2 S=>⟨x,dx,_,Κ,S.ρ,Κ,x,dx,pa,lk.r,lk.b,lk.h,HR,lk.qs,Κ,S,(λe0=>by rw[e0]at hb;exact Ι hb (by decide)),λ_ I X Le=>?_⟩⟩
   have o4:HP [a.la] M I:=λb o nb e=>X b o (ai e nx) (ai e np) (o2 b o nb e)
   exact⟨Κ,_,Kd.back u hb,o4.mono (by simp),Jk.Ll C U o4 (k:=k) (x:=x) (dx:=dx) (pa:=pa) (X _ _ (ai U nx) (ai U np) g2) (ln:=r9 lk) Le np⟩
 ·rintro σ' H2 ⟨rfl,s',hs,o2,Lx⟩
  obtain⟨Jx,So,pd⟩:=Lx.Lj
  have Lu:Jx.length=st.done.length:=by rw[Paired.length pd,hs.done]
  have PY:=o2 _ _ (λz=>by obtain⟨xs,hz⟩:=C.Kv _ z;rw[g]at hz;cases hz) g
  have hd:=hS.d
  refine⟨_,_,_,_,_,Κ,Lx.ρ,Y.cl,Y.n6,Κ,.inl ⟨Κ,_,HC.of So⟩,_,_,_,Κ,Κ,So,by rw[ϊ];lia,?_⟩
  have JN:=Lx.Qw So ⟨p,Κ,PY⟩
  rw[hs.done]at JN
  exact q _ s' hs ((Hz.Iv s1).trans (o2.trans (dm (by simp)))) JN
theorem bv{a:Type}{L:List a}{y z:a}(h:(L.set k y)[j]?=Α z):(j=k/\z=y)∨(j≠k/\L[j]?=Α z):=by
 by_cases e:k=j
 ·subst e
  rw[List.getElem?_set_self']at h
  cases b:L[k]? with
  |none=>rw[b]at h;cases h
  |some x=>rw[b]at h;cases h;exact .inl ⟨Κ,Κ⟩
 ·rw[Û e]at h
  exact .inr ⟨ϗ e,h⟩
theorem cY{a:Type}{L:List a}{x y:a}(h:L[k]?=Α x):(L.set k y)[k]?=Α y:=by
 have:=(gQ0 h)
 simp[this]
theorem gB{a:Type}(f:a->Nat):∀{L:List a}{k:Nat}{x y:a},L[k]?=Α x->((L.set k y).map f).sum+f x=(L.map f).sum+f y
 |[],_,_,_,h=>by cases h
 |z:: L,0,x,y,h=>by cases h;simp only[List.set_cons_zero,È,ĩ];lia
 | z:: L,k+1,x,y,h=>by
  have:=gB f (L:=L) (k:=k) (x:=x) (y:=y) h
  simp only[Rt,È,ĩ];lia
theorem kY{a:Type}(f:a->Int):∀{L:List a}{k:Nat}{x y:a},L[k]?=Α x->((L.set k y).map f).sum+f x=(L.map f).sum+f y
 |[],_,_,_,h=>by cases h
 |z:: L,0,x,y,h=>by grind
 | z:: L,k+1,x,y,h=>by
  have:=kY f (L:=L) (k:=k) (x:=x) (y:=y) h
  grind
noncomputable def pS(a:YA)(l:Nat):Int:=(a.ps.getD l (0,0)).2
noncomputable def kZ(s:YS):Nat:=(s.γ.map λln=>ln.qs.length).sum
noncomputable def kg(s:YS):Nat:=(s.ε.map λqs=>qs.length).sum
noncomputable def i5(s:YS):Int:=(s.Hw.map λt=>t.δ).sum
structure XU(a:YA)(s:YS)(m:Nat)(c:Int):Prop where
 γ:s.γ.length=a.ps.length
 ε:s.ε.length=a.n
 few:s.Hw.length<=60
 Ny:a.ps.length<=40
 lets:∀(m:Nat)(t:bj),s.Hw[m]?=Α t->∃x y:Nat,t.start=(x:Int)/\t.ι=(y:Int)/\x<a.n/\y<a.n
 IG:∀(m:Nat)(t:bj),s.Hw[m]?=Α t->(∀l∈t.ω,l<a.ps.length)/\t.ω.Nodup
 Jr:∀(k:Nat)(ln:Ie),s.γ[k]?=Α ln->∀q∈ln.qs,∃(m:Nat)(t:bj),q.1=(m:Int)/\s.Hw[m]?=Α t/\k∈t.ω
 Kw:∀(m:Nat)(t:bj),s.Hw[m]?=Α t->0<=t.δ/\t.δ<=t.len/\t.len<=60
 Jc:∀(m':Nat)(t:bj),s.Hw[m']?=Α t->t.δ=0->t.ω=[]/\m'≠m
 last:∀(m:Nat)(t:bj),s.Hw[m]?=Α t->∀(i l:Nat),t.ω[i]?=Α l->pS a l=t.ι->i+1=t.ω.length
 head:∀(m':Nat)(t:bj),s.Hw[m']?=Α t->∀(l:Nat)(ln:Ie),t.ω.getLast?=Α l->s.γ[l]?=Α ln->(m'=m/\c=0)∨((m':Int),(0:Int))∈ln.qs∨pS a l=t.ι
 first:∀(k:Nat)(ln:Ie),s.γ[k]?=Α ln->∀(i j:Nat)(z:Int)(q:Int×Int),ln.qs[i]?=Α (z,0)->j<i->ln.qs[j]?=Α q->q.1≠z
 MF:∀(k:Nat)(ln:Ie),s.γ[k]?=Α ln->∀(m':Nat)(t:bj),((m':Int),(0:Int))∈ln.qs->s.Hw[m']?=Α t->t.ω.getLast?=Α k
 δ:c=0->∀(k:Nat)(ln:Ie),s.γ[k]?=Α ln->((m:Int),(0:Int))∉ln.qs
 sum:(kZ s:Int)+(kg s:Int)+1=i5 s
structure IY(a:YA)(s:YS):Prop where
 γ:s.γ.length=a.ps.length
 ε:s.ε.length=a.n
 few:s.Hw.length<=60
 Ny:a.ps.length<=40
 lets:∀(m:Nat)(t:bj),s.Hw[m]?=Α t->∃x y:Nat,t.start=(x:Int)/\t.ι=(y:Int)/\x<a.n/\y<a.n
 IG:∀(m:Nat)(t:bj),s.Hw[m]?=Α t->(∀l∈t.ω,l<a.ps.length)/\t.ω.Nodup
 Jr:∀(k:Nat)(ln:Ie),s.γ[k]?=Α ln->∀q∈ln.qs,∃(m:Nat)(t:bj),q.1=(m:Int)/\s.Hw[m]?=Α t/\k∈t.ω
 Kw:∀(m:Nat)(t:bj),s.Hw[m]?=Α t->0<=t.δ/\t.δ<=t.len/\t.len<=60
 Jc:∀(m':Nat)(t:bj),s.Hw[m']?=Α t->t.δ=0->t.ω=[]
 last:∀(m:Nat)(t:bj),s.Hw[m]?=Α t->∀(i l:Nat),t.ω[i]?=Α l->pS a l=t.ι->i+1=t.ω.length
 head:∀(m':Nat)(t:bj),s.Hw[m']?=Α t->∀(l:Nat)(ln:Ie),t.ω.getLast?=Α l->s.γ[l]?=Α ln->((m':Int),(0:Int))∈ln.qs∨pS a l=t.ι
 first:∀(k:Nat)(ln:Ie),s.γ[k]?=Α ln->∀(i j:Nat)(z:Int)(q:Int×Int),ln.qs[i]?=Α (z,0)->j<i->ln.qs[j]?=Α q->q.1≠z
 MF:∀(k:Nat)(ln:Ie),s.γ[k]?=Α ln->∀(m':Nat)(t:bj),((m':Int),(0:Int))∈ln.qs->s.Hw[m']?=Α t->t.ω.getLast?=Α k
 sum:(kZ s:Int)+(kg s:Int)=i5 s
theorem dN:∀(n:Nat)(l:List Nat),l.Nodup->(∀x∈l,x<n)->l.length<=n
 | 0,l,_,h=>by
  cases l with
  |nil=>grind
  |cons x _=>exact Ι (h x Ϧ) (by lia)
 | n+1,l,hn,h=>by
  have a:=dN n (l.filter λx=>decide (x≠n)) (hn.filter _) λx c=>by
   grind
  have d:l.length<=(l.filter λx=>decide (x≠n)).length+1:=by
   clear a h
   induction l with
   |nil=>grind
   | cons x l f =>
    rw[è]at hn
    by_cases e:x=n
    ·subst e
     have:(l.filter λy=>decide (y≠x))=l:=kb.mpr λy b=>Ε λz=>hn.1 (z▸b)
     grind
    grind
  lia
theorem IY.ok(h:IY a s):YOk a s:=⟨h.γ,h.ε,h.lets,λm t b=>⟨(h.IG m t b).1,by have:=dN _ _ (h.IG m t b).2 (h.IG m t b).1;have:=h.Ny;lia⟩,h.Jr,h.few⟩
theorem An{a:Type}{x:a}{l:List a}(h:x∈l.tail):x∈l:=List.mem_of_mem_tail h
theorem AK{a:Type}{l:List a}{x:a}(h:l.head?=Α x):l[0]?=Α x:=by cases l with
 |nil=>cases h
 |cons y r=>exact h
theorem pB{a:Type}{l:List a}{x:a}(h:x∈l):∃i:Nat,l[i]?=Α x:=by
 obtain⟨i,b,e⟩:=ì h
 exact⟨i,by rw[Λ b,e]⟩
theorem ql{a:Type}(l:List a)(i:Nat):l.tail[i]?=l[i+1]?:=by grind
theorem rb{k m:Nat}(J:IY a s)(o:s.γ[k]?=Α lk)(g:lk.qs.head?=Α ((m:Int),c)):XU a {s with γ:=s.γ.set k (cn lk)} m c:=by
 have T:=AK g
 have E:∀(j:Nat)(f:Ie),(s.γ.set k (cn lk))[j]?=Α f->∃b,s.γ[j]?=Α b/\(∀q∈f.qs,q∈b.qs)/\∃d,(∀i,f.qs[i]?=b.qs[i+d]?)/\(f.qs=b.qs∨(j=k/\b=lk/\f.qs=lk.qs.tail)):=λj f h=>by
  rcases bv h with ⟨rfl,rfl⟩|⟨ne,h⟩
  ·exact⟨_,o,λq g=>An g,1,λi=>ql _ i,.inr ⟨Κ,Κ,Κ⟩⟩
  ·exact⟨f,h,λq g=>g,0,λi=>rfl,.inl Κ⟩
 have keep:∀(j:Nat)(b:Ie),s.γ[j]?=Α b->∃f,(s.γ.set k (cn lk))[j]?=Α f/\∀q∈b.qs,q=((m:Int),c)∨q∈f.qs:=λj b h=>by
  by_cases e:j=k
  ·subst e
   rw[o]at h
   cases h
   refine⟨_,cY o,λq x=>?_⟩
   show _∨q∈lk.qs.tail
   cases A:lk.qs with
   |nil=>rw[A]at g;cases g
   | cons z r =>
    rw[A]at g x
    cases g
    exact(À.mp x).imp id id
  ·exact⟨b,by rw[Û (ϗ e)];exact h,λq g =>.inr g⟩
 refine⟨by rw[←J.γ];simp,J.ε,J.few,J.Ny,J.lets,J.IG,?_,J.Kw,?_,J.last,?_,?_,?_,?_,?_⟩
 ·intro j f h q x
  obtain⟨b,n,p,_⟩:=E j f h
  exact J.Jr j b n q (p q x)
 ·intro u t B Q
  refine⟨J.Jc u t B Q,λe=>?_⟩
  subst e
  obtain⟨F,N,G,H,I⟩:=J.Jr k lk o _ (Ą g)
  have:u=F:=by have:(u:Int)=(F:Int):=G;lia
  subst this
  rw[B]at H
  cases H
  rw[J.Jc u t B Q]at I
  cases I
 ·intro u t B l f A R
  obtain⟨b,n,p,_⟩:=E l f R
  rcases J.head u t B l b A n with h|h
  ·obtain⟨O,C,S⟩:=keep l b n
   have C:=C
   rw[R]at C
   cases C
   rcases S _ h with e|h
   ·injection e with Z G
    exact .inl ⟨by lia,G.symm⟩
   ·exact .inr (.inl h)
  ·exact .inr (.inr h)
 ·intro j f h i U z q D HS x
  obtain⟨b,n,_,d,C,_⟩:=E j f h
  rw[C]at D x
  exact J.first j b n (i+d) (U+d) z q D (by lia) x
 ·intro j f h u t L B
  obtain⟨b,n,p,_⟩:=E j f h
  exact J.MF j b n u t (p _ L) B
 ·intro X j f h L
  subst X
  obtain⟨b,n,p,d,C,S⟩:=E j f h
  obtain⟨F,N,G,H,_⟩:=J.Jr k lk o _ (Ą g)
  have:m=F:=by have:(m:Int)=(F:Int):=G;lia
  subst this
  have Y:=J.MF k lk o m N (Ą g) H
  have M:=J.MF j b n m N (p _ L) H
  rw[Y]at M
  have M:=ϋ M
  subst M
  rcases bv h with ⟨_,rfl⟩|⟨ne,_⟩
  ·obtain⟨i,D⟩:=pB L
   have D:lk.qs.tail[i]?=Α ((m:Int),0):=D
   rw[ql]at D
   exact J.first k lk o (i+1) 0 _ _ D (by lia) T Κ
  ·exact ne Κ
 ·have:=gB (λb:Ie=>b.qs.length) (y:=cn lk) o
  have A:(cn lk).qs.length+1=lk.qs.length:=by
   show lk.qs.tail.length+1=_
   cases A:lk.qs with
   |nil=>rw[A]at g;cases g
   |cons _ _=>rfl
  have p:=J.sum
  unfold kZ at p⊢
  show((((s.γ.set k (cn lk)).map λb=>b.qs.length).sum:Nat):Int)+(kg s:Int)+1=i5 s
  lia
theorem Am(J:IY a s)(p:s.Hw[k]?=Α t)(I:t.δ≠t.len):XU a (cp s k t) k t.δ:=by
 have L:=J.Kw k t p
 have lk:∀(m:Nat)(b:bj),(s.Hw.set k {t with δ:=t.δ+1})[m]?=Α b->∃c,s.Hw[m]?=Α c/\b.start=c.start/\b.ι=c.ι/\b.ω=c.ω/\b.len=c.len/\((m=k/\b.δ=t.δ+1)∨(m≠k/\b.δ=c.δ)):=λm b h=>by
  rcases bv h with ⟨rfl,rfl⟩|⟨ne,h⟩
  ·exact⟨t,p,Κ,Κ,Κ,Κ,.inl ⟨Κ,Κ⟩⟩
  ·exact⟨b,h,Κ,Κ,Κ,Κ,.inr ⟨ne,Κ⟩⟩
 refine⟨J.γ,J.ε,by show(s.Hw.set _ _).length<=60;rw[ī];exact J.few,J.Ny,?_,?_,?_,?_,?_,?_,?_,J.first,?_,?_,?_⟩
 ·intro m b h
  obtain⟨c,d,r,o,_⟩:=lk m b h
  rw[r,o];exact J.lets m c d
 ·intro m b h
  obtain⟨c,d,r,o,n,_⟩:=lk m b h
  rw[n];exact J.IG m c d
 ·intro j u h q D
  obtain⟨m,c,e,d,x⟩:=J.Jr j u h q D
  by_cases B:m=k
  ·subst B
   rw[p]at d
   cases d
   exact⟨m,_,e,cY p,x⟩
  ·exact⟨m,c,e,by show(s.Hw.set _ _)[m]?=_;rw[Û (ϗ B)];exact d,x⟩
 ·intro m b h
  obtain⟨c,d,r,o,n,v,f⟩:=lk m b h
  have:=J.Kw m c d
  rcases f with ⟨rfl,f⟩|⟨_,f⟩
  ·rw[p]at d
   cases d
   rw[v,f];lia
  ·rw[v,f];exact this
 ·intro m b h M
  obtain⟨c,d,r,o,n,v,f⟩:=lk m b h
  rcases f with ⟨rfl,f⟩|⟨ne,f⟩
  ·lia
  ·rw[n];exact⟨J.Jc m c d (by lia),ne⟩
 ·intro m b h i l C z
  obtain⟨c,d,r,o,n,v,f⟩:=lk m b h
  rw[n]at C⊢
  rw[o]at z
  exact J.last m c d i l C z
 ·intro m b h l u z E
  obtain⟨c,d,r,o,n,v,f⟩:=lk m b h
  rw[n]at z
  rw[o]
  exact .inr (J.head m c d l u z E)
 ·intro j u h m b A F
  obtain⟨c,d,r,o,n,v,f⟩:=lk m b F
  rw[n]
  exact J.MF j u h m c A d
 ·intro G j u h A
  obtain⟨m,c,e,d,x⟩:=J.Jr j u h _ A
  have:k=m:=by have:(k:Int)=(m:Int):=e;lia
  subst this
  rw[p]at d
  cases d
  rw[J.Jc k t p G]at x
  cases x
 ·have:=kY (λt:bj=>t.δ) (y:={t with δ:=t.δ+1}) p
  have H:=J.sum
  unfold i5 at H⊢
  show (kZ s:Int)+(kg s:Int)+1=((s.Hw.set k {t with δ:=t.δ+1}).map λt=>t.δ).sum
  have:({t with δ:=t.δ+1}:bj).δ=t.δ+1:=rfl
  lia
theorem AA{l:List Nat}(h:l.getLast?=Α x):l[l.length - 1]?=Α x:=by grind
theorem nN(M:XU a s m c)(D:s.Hw[m]?=Α t)(F:s.γ[l]?=Α o)(U:c=0->l∉t.ω/\∀x∈t.ω,pS a x≠t.ι)(h1:c≠0->l∈t.ω):IY a (cG s m c l t o):=by
 have Kt:l<a.ps.length:=by rw[←M.γ];exact(gQ0 F)
 have lk:∀(b:Nat)(d:bj),(cG s m c l t o).Hw[b]?=Α d->∃f,s.Hw[b]?=Α f/\d.start=f.start/\d.ι=f.ι/\d.len=f.len/\d.δ=f.δ/\((c=0/\b=m/\f=t/\d.ω=t.ω++[l])∨(¬(c=0/\b=m)/\d.ω=f.ω)):=λb d h=>by
  have h:(if c=0 then s.Hw.set m {t with ω:=t.ω++[l]} else s.Hw)[b]?=Α d:=h
  by_cases n:c=0
  ·rw[Θ n]at h
   rcases bv h with ⟨rfl,rfl⟩|⟨ne,h⟩
   ·exact⟨t,D,Κ,Κ,Κ,Κ,.inl ⟨n,Κ,Κ,Κ⟩⟩
   ·exact⟨d,h,Κ,Κ,Κ,Κ,.inr ⟨λz=>ne z.2,Κ⟩⟩
  ·rw[Η n]at h
   exact⟨d,h,Κ,Κ,Κ,Κ,.inr ⟨λz=>n z.1,Κ⟩⟩
 have H:∀(b:Nat)(f:bj),s.Hw[b]?=Α f->∃d,(cG s m c l t o).Hw[b]?=Α d/\(∀x∈f.ω,x∈d.ω)/\(b=m->l∈d.ω):=λb f h=>by
  by_cases n:c=0
  ·by_cases e:b=m
   ·subst e
    rw[D]at h
    cases h
    refine⟨_,by show(if c=0 then s.Hw.set b {t with ω:=t.ω++[l]} else s.Hw)[b]?=_;rw[Θ n];exact cY D,λx g=>ï _ g,λ_=>by show l∈t.ω++[l];simp⟩
   ·exact⟨f,by show(if c=0 then s.Hw.set m {t with ω:=t.ω++[l]} else s.Hw)[b]?=_;rw[Θ n,Û (ϗ e)];exact h,λx g=>g,λz=>Ι z e⟩
  ·refine⟨f,by show(if c=0 then s.Hw.set m {t with ω:=t.ω++[l]} else s.Hw)[b]?=_;rw[Η n];exact h,λx g=>g,λz=>?_⟩
   subst z
   rw[D]at h
   cases h
   exact h1 n
 have O:∀(j:Nat)(p:Ie),(cG s m c l t o).γ[j]?=Α p->(j=l/\p.qs=o.qs++[((m:Int),c)])∨(j≠l/\s.γ[j]?=Α p):=λj p h=>by
  rcases bv h with ⟨rfl,rfl⟩|⟨ne,h⟩
  ·exact .inl ⟨Κ,Κ⟩
  ·exact .inr ⟨ne,h⟩
 have I:∀(j:Nat)(p:Ie),(cG s m c l t o).γ[j]?=Α p->∀q∈p.qs,(j=l/\q=((m:Int),c))∨∃E,s.γ[j]?=Α E/\q∈E.qs:=λj p h q r=>by
  rcases O j p h with ⟨rfl,e⟩|⟨ne,h⟩
  ·rw[e,Á]at r
   rcases r with r|r
   ·exact .inr ⟨o,F,r⟩
   ·exact .inl ⟨Κ,by simpa using r⟩
  ·exact .inr ⟨p,h,r⟩
 refine⟨by rw[←M.γ];show(s.γ.set _ _).length=_;simp,M.ε,?_,M.Ny,?_,?_,?_,?_,?_,?_,?_,?_,?_,?_⟩
 ·show(if c=0 then s.Hw.set m {t with ω:=t.ω++[l]} else s.Hw).length<=60
  by_cases n:c=0
  ·rw[Θ n,ī];exact M.few
  ·rw[Η n];exact M.few
 ·intro b d h
  obtain⟨f,u,Q,B,_⟩:=lk b d h
  rw[Q,B];exact M.lets b f u
 ·intro b d h
  obtain⟨f,u,_,_,_,_,e⟩:=lk b d h
  obtain⟨R,S⟩:=M.IG b f u
  rcases e with ⟨n,rfl,rfl,e⟩|⟨_,e⟩
  ·rw[e]
   refine⟨λx g=>?_,?_⟩
   ·rcases Á.mp g with g|g
    ·exact R x g
    ·rw[ϙ.mp g];exact Kt
   ·rw[Ĵ]
    exact⟨S,by simp,λx g y hy=>by rw[ϙ.mp hy];exact λz=>(U n).1 (z▸g)⟩
  ·rw[e];exact⟨R,S⟩
 ·intro j p h q r
  rcases I j p h q r with ⟨rfl,rfl⟩|⟨E,u,r⟩
  ·obtain⟨d,C,_,G⟩:=H m t D
   exact⟨m,d,Κ,C,G Κ⟩
  ·obtain⟨b,f,e,C,hj⟩:=M.Jr j E u q r
   obtain⟨d,G,X,_⟩:=H b f C
   exact⟨b,d,e,G,X j hj⟩
 ·intro b d h
  obtain⟨f,u,_,_,Y,Z,_⟩:=lk b d h
  rw[Y,Z];exact M.Kw b f u
 ·intro b d h hz
  obtain⟨f,u,_,_,_,Z,e⟩:=lk b d h
  rw[Z]at hz
  obtain⟨R,S⟩:=M.Jc b f u hz
  rcases e with ⟨n,rfl,_⟩|⟨_,e⟩
  ·exact Ι Κ S
  ·rw[e];exact R
 ·intro b d h i x A g
  obtain⟨f,u,_,B,_,_,e⟩:=lk b d h
  rw[B]at g
  rcases e with ⟨n,rfl,rfl,e⟩|⟨_,e⟩
  ·rw[e]at A⊢
   by_cases J:i<f.ω.length
   ·rw[Ϛ J]at A
    exact Ι g ((U n).2 x (Ψ A))
   ·have:=(gQ0 A)
    rw[ϛ,Ã]at this⊢
    lia
  ·rw[e]at A⊢
   exact M.last b f u i x A g
 ·intro b d h x p g JZ
  obtain⟨f,u,_,B,_,_,e⟩:=lk b d h
  rcases e with ⟨n,rfl,rfl,e⟩|⟨ne,e⟩
  ·rw[e]at g
   have g:l=x:=by simpa using g
   subst g
   rcases O l p JZ with ⟨_,L⟩|⟨ne,_⟩
   ·left
    rw[L,n];simp
   ·exact Ι Κ ne
  ·rw[e]at g
   rcases O x p JZ with ⟨rfl,L⟩|⟨ne',N⟩
   ·rcases M.head b f u x o g F with z|z|z
    ·exact Ι ⟨z.2,z.1⟩ ne
    ·exact .inl (by rw[L];exact ï _ z)
    ·rw[B];exact .inr z
   ·rcases M.head b f u x p g N with z|z|z
    ·exact Ι ⟨z.2,z.1⟩ ne
    ·exact .inl z
    ·rw[B];exact .inr z
 ·intro j p h i i' z q A J r
  rcases O j p h with ⟨rfl,e⟩|⟨_,N⟩
  ·rw[e]at A r
   by_cases J5:i<o.qs.length
   ·rw[Ϛ J5]at A
    rw[Ϛ (by lia)]at r
    exact M.first j o F i i' z q A J r
   ·have C:=(gQ0 A)
    rw[ϛ,Ã]at C
    have ei:i=o.qs.length:=by lia
    subst ei
    rw[ö]at A
    have A:=ϋ A
    injection A with Q B
    subst Q
    rw[Ϛ J]at r
    intro ez
    obtain⟨b,f,Y,G,X⟩:=M.Jr j o F q (Ψ r)
    have em0:(b:Int)=(m:Int):=by rw[←Y];exact ez
    have:m=b:=by lia
    subst this
    rw[D]at G
    cases G
    exact(U B).1 X
  ·exact M.first j p N i i' z q A J r
 ·intro j p h b d T N
  obtain⟨f,u,_,_,_,_,e⟩:=lk b d N
  rcases I j p h _ T with ⟨rfl,L⟩|⟨E,C,T⟩
  ·injection L with Q B
   have em:b=m:=by lia
   subst em
   rcases e with ⟨_,_,_,e⟩|⟨ne,_⟩
   ·rw[e];simp
   ·exact Ι ⟨B.symm,Κ⟩ ne
  ·rcases e with ⟨n,rfl,rfl,e⟩|⟨ne,e⟩
   ·exact Ι T (M.δ n j E C)
   ·rw[e];exact M.MF j E C b f T u
 ·have q1:=gB (λo:Ie=>o.qs.length) (y:=dG o m c t.len) F
  have q2:(dG o m c t.len).qs.length=o.qs.length+1:=by show(o.qs++[_]).length=_;simp
  have q3:i5 (cG s m c l t o)=i5 s:=by
   unfold i5
   show((if c=0 then s.Hw.set m {t with ω:=t.ω++[l]} else s.Hw).map λt=>t.δ).sum=_
   by_cases n:c=0
   ·rw[Θ n]
    have:=kY (λt:bj=>t.δ) (y:={t with ω:=t.ω++[l]}) D
    have e:({t with ω:=t.ω++[l]}:bj).δ=t.δ:=rfl
    lia
   ·rw[Η n]
  have u:=M.sum
  rw[q3]
  unfold kZ at u⊢
  show((((s.γ.set l (dG o m c t.len)).map λo=>o.qs.length).sum:Nat):Int)+(kg s:Int)=i5 s
  lia
theorem Do(M:XU a s m c)(j:s.Hw[m]?=Α t)(l:s.ε[e]?=Α b)(n:c=0->∀x,t.ω.getLast?=Α x->pS a x=t.ι):IY a {s with ε:=s.ε.set e (b++[((m:Int),c)])}:=by
 refine⟨M.γ,by show(s.ε.set _ _).length=_;rw[ī];exact M.ε,M.few,M.Ny,M.lets,M.IG,M.Jr,M.Kw,λd f h z=>(M.Jc d f h z).1,M.last,?_,M.first,M.MF,?_⟩
 ·intro d f h x o i p
  rcases M.head d f h x o i p with ⟨rfl,q⟩|z|z
  ·have h:=h
   rw[j]at h
   cases h
   exact .inr (n q x i)
  ·exact .inl z
  ·exact .inr z
 ·have:=gB (λb:IPs=>b.length) (y:=b++[((m:Int),c)]) l
  have r:=M.sum
  unfold kg at r⊢
  show (kZ s:Int)+((((s.ε.set e (b++[((m:Int),c)])).map λb=>b.length).sum:Nat):Int)=i5 s
  rw[ϛ,Ã]at this
  lia
theorem IY.back(J:IY a s)(n:s.γ[k]?=Α lk)(e:Vp.qs=lk.qs):IY a {s with γ:=s.γ.set k Vp}:=by
 have g:∀(j:Nat)(b:Ie),(s.γ.set k Vp)[j]?=Α b->∃c,s.γ[j]?=Α c/\b.qs=c.qs:=λj b h=>by
  rcases bv h with ⟨rfl,rfl⟩|⟨_,h⟩
  ·exact⟨_,n,e⟩
  ·exact⟨b,h,Κ⟩
 refine⟨by rw[←J.γ];simp,J.ε,J.few,J.Ny,J.lets,J.IG,?_,J.Kw,J.Jc,J.last,?_,?_,?_,?_⟩
 ·intro j b h q o
  obtain⟨c,d,f⟩:=g j b h
  rw[f]at o
  exact J.Jr j c d q o
 ·intro m t p x b r u
  obtain⟨c,d,f⟩:=g x b u
  rw[f]
  exact J.head m t p x c r d
 ·intro j b h
  obtain⟨c,d,f⟩:=g j b h
  rw[f]
  exact J.first j c d
 ·intro j b h
  obtain⟨c,d,f⟩:=g j b h
  rw[f]
  exact J.MF j c d
 ·have:=gB (λl:Ie=>l.qs.length) (y:=Vp) n
  have v:=J.sum
  have z:=congrArg p0 e
  unfold kZ at v⊢
  show((((s.γ.set k Vp).map λl=>l.qs.length).sum:Nat):Int)+(kg s:Int)=i5 s
  lia
theorem IY.step(J:IY a s)(h:Kd a s m s'):IY a s':=by
 cases h with
 | @IB k l t ln ht hg hl Ib ho =>
  have M:=Am J ht hg
  refine nN (t:={t with δ:=t.δ+1}) M (cY ht) Ib (λb=>?_) (λb=>?_)
  ·have g:=J.Jc k t ht b
   rw[g]
   exact⟨by simp,by simp⟩
  ·unfold bS at hl
   rw[Η b]at hl
   exact Ā hl
 | @on k l m c lk ln t hk hq ht hl Ib ho =>
  have M:=rb J hk hq
  have g:bI a s k=if c=0 then (ff a k t.ι.toNat).filter (λl=>!decide (l∈t.ω)) else (t.ω.drop (t.ω.idxOf k+1)).take 1:=by
   unfold bI aU
   rw[hk]
   dsimp only
   rw[hq]
   dsimp only
   rw[Τ,ht]
  rw[g]at hl
  refine nN M ht Ib (λb=>?_) (λb=>?_)
  ·rw[Θ b]at hl
   obtain⟨j,r⟩:=Ϫ.mp hl
   refine⟨by simpa using r,λx d ex=>?_⟩
   subst b
   obtain⟨i,q⟩:=pB d
   have v:=J.last m t ht i x q ex
   have n:=J.MF k lk hk m t (Ą hq) ht
   have f:=AA n
   rw[show t.ω.length - 1=i by lia,q]at f
   have f:=ϋ f
   subst f
   unfold ff at j
   obtain⟨y,z,A,u,_,_⟩:=J.lets m t ht
   rw[Θ (by show pS a x=_;rw[ex,u,Τ])]at j
   cases j
  ·rw[Η b]at hl
   exact ew (Ā hl)
 | @J4 k m e c lk t qs hk hq ht hg he KA =>
  have M:=rb J hk hq
  have:=Do (s:={s with γ:=s.γ.set k (cn lk)}) M ht KA (λb x d=>?_)
  ·exact this
  ·subst b
   have n:=J.MF k lk hk m t (Ą hq) ht
   rw[n]at d
   have d:=ϋ d
   subst d
   show(a.ps.getD k (0,0)).2=t.ι
   rw[he,hg]
 | @back k lk hk hb=>exact J.back hk Κ
noncomputable def xY(s:YS):Int:=(s.Hw.map λt=>t.len).sum
theorem uH{a:Type}(f g:a->Int):∀{L:List a},(∀(m:Nat)(t:a),L[m]?=Α t->f t<=g t)->(L.map f).sum<=(L.map g).sum
 |[],_=>by simp
 | x:: L,h=>by
  have c:=h 0 x Κ
  have d:=uH f g (L:=L) λm t b=>h (m+1) t b
  grind
theorem nj{a:Type}(g:a->Int):∀{L:List a},(∀(m:Nat)(t:a),L[m]?=Α t->g t<=60)->(L.map g).sum<=60* L.length
 |[],_=>by simp
 | x:: L,h=>by
  have c:=h 0 x Κ
  have d:=nj g (L:=L) λm t b=>h (m+1) t b
  grind
theorem IY.Vq(J:IY a s):(kg s:Int)<=xY s/\(kZ s:Int)+(kg s:Int)<=3600:=by
 have d:=uH (λt:bj=>t.δ) (λt=>t.len) (L:=s.Hw) λm t b=>(J.Kw m t b).2.1
 have c:=J.sum
 have e:=nj (λt:bj=>t.len) (L:=s.Hw) λm t b=>(J.Kw m t b).2.2
 have f:=J.few
 unfold i5 at c
 unfold xY
 lia
theorem lO{a:Type}(f:a->Nat):∀{L:List a}{k:Nat}{x:a},L[k]?=Α x->f x<=(L.map f).sum
 |[],_,_,h=>by cases h
 |z:: L,0,x,h=>by grind
 | z:: L,k+1,x,h=>by
  have:=lO f (L:=L) (k:=k) (x:=x) h
  grind
theorem IY.sml(J:IY a s)(d:s.done.length<=100000):Sml s:=by
 have h:=J.Vq.2
 refine⟨λk b e=>?_,λp c f=>?_,d⟩
 ·have:=lO (λb:Ie=>b.qs.length) e
  unfold kZ at h
  lia
 ·have:=lO (λc:IPs=>c.length) f
  unfold kg at h
  lia
abbrev yx(ys:Ys)(ex:List Ο):Ys:={ys with ex:=ex}
def ScV(x:V):Prop:=(∃i,x=.int i)∨∃t,x=.str t/\û.strOk t=Γ
structure Pst(a:YA)(s:YS):Prop where
 γ:s.γ.length=a.ps.length
 ε:s.ε.length=a.n
 q0:∀(k:Nat)(ln:Ie),s.γ[k]?=Α ln->ln.qs=[]
 l0:∀(p:Nat)(qs:IPs),s.ε[p]?=Α qs->qs=[]
 lets:∀(m:Nat)(t:bj),s.Hw[m]?=Α t->t.δ=0/\t.ω=[]/\0<=t.len/\t.len<=60/\∃x y:Nat,t.start=(x:Int)/\t.ι=(y:Int)/\x<a.n/\y<a.n
 done:∀d∈s.done,∀x∈d,ScV x
theorem BH{a:Type}(f:a->Nat):∀{L:List a},(∀(k:Nat)(x:a),L[k]?=Α x->f x=0)->(L.map f).sum=0
 |[],_=>rfl
 | x:: L,h=>by
  have c:=h 0 x Κ
  have d:=BH f (L:=L) λk y b=>h (k+1) y b
  grind
theorem Ep{a:Type}(f:a->Int):∀{L:List a},(∀(k:Nat)(x:a),L[k]?=Α x->f x=0)->(L.map f).sum=0
 |[],_=>rfl
 | x:: L,h=>by
  have c:=h 0 x Κ
  have d:=Ep f (L:=L) λk y b=>h (k+1) y b
  grind
theorem Pst.jnv(h:Pst a s)(few:s.Hw.length<=60)(v:a.ps.length<=40):IY a s:=by
 refine⟨h.γ,h.ε,few,v,λm t b=>(h.lets m t b).2.2.2.2,λm t b=>?_,λk c d q o=>?_,λm t b=>?_,λm t b _=>(h.lets m t b).2.1,λm t b i l e=>?_,λm t b l c f=>?_,λk c d i j z q e=>?_,λk c d m t r=>?_,?_⟩
 ·rw[(h.lets m t b).2.1];exact⟨(λl f=>by cases f),á⟩
 ·rw[h.q0 k c d]at o;cases o
 ·obtain⟨g,u,n,x,_⟩:=h.lets m t b
  rw[g];exact⟨by lia,n,x⟩
 ·rw[(h.lets m t b).2.1]at e;cases e
 ·rw[(h.lets m t b).2.1]at f;cases f
 ·rw[h.q0 k c d]at e;cases e
 ·rw[h.q0 k c d]at r;cases r
 ·have g:kZ s=0:=BH _ λk c d=>by rw[h.q0 k c d];rfl
  have u:kg s=0:=BH _ λp y A=>by rw[h.l0 p y A];rfl
  have n:i5 s=0:=Ep _ λm t b=>(h.lets m t b).1
  rw[g,u,n];rfl
theorem n8(f:a<n)(g:b<n)(c:1<=l/\l<=60)(d:Sl (.int u)=Γ)(i:a≠b)(e:wy a b Β≠[])(j:m<60):py n wy m (.int a) (.int b) (.int l) (.int u)=.good:=by
 unfold py
 rw[show nD (.int (a:Int)) 0 ((n:Int) - 1)=Γ from Ε (by lia),show nD (.int (b:Int)) 0 ((n:Int) - 1)=Γ from Ε (by lia),show nD (.int l) 1 60=Γ from Ε c,d,Η (by decide),Η (by decide),Η (by decide)]
 rw[Η (by
  rintro (h|h)
  ·have h:(a:Int)=(b:Int):=h
   lia
  ·have h:wy ((a:Int)).toNat ((b:Int)).toNat Β=[]:=h
   rw[Τ,Τ]at h
   exact e h),Η (by lia)]
theorem qz(s:Hz H H1)(o:HP ex H1 H2)(a:∀b∈ex,H b=Β):Hz H H2:=λb u e=>o b _ (λz=>by grind) (s b u e)
theorem IY.done(J:IY a s)(d:List (List V)):IY a {s with done:=d}:=⟨J.γ,J.ε,J.few,J.Ny,J.lets,J.IG,J.Jr,J.Kw,J.Jc,J.last,J.head,J.first,J.MF,J.sum⟩
theorem pst0(h:HX.length=a.ps.length):Pst a (Y0 HX a.n):=by
 refine⟨by show(HX.map rp).length=_;rw[Ρ];exact h,by show(Ϗ a.n []).length=_;rw[é],λk i b=>?_,λp j c=>?_,λm t e=>?_,λd f=>?_⟩
 ·have b:(HX.map rp)[k]?=Α i:=b
  rw[ώ]at b
  cases g:HX[k]? with
  |none=>rw[g]at b;cases b
  |some v=>rw[g]at b;cases b;rfl
 ·have c:=c
  exact Ln (Ψ c)
 ·have e:=e
  cases e
 ·have f:=f
  cases f
noncomputable def vw(p:Int×Int):û:=.tuple [.int p.1,.int p.2]
theorem mx:∀{a:List V}{b:IPs},HW H a b->ku K H a (b.map vw)
 |_,_,.nil =>.nil
 |_,_,.cons ⟨t,e,h⟩ r =>.cons (by subst e;exact .tup (HF.of h) (.cons (.int _) (.cons (.int _) .nil))) (mx r)
theorem wD(b:IPs):JE (.list (b.map vw)) 64:=(iY (m:=1) λz c=>by
 obtain⟨p,_,rfl⟩:=Â.mp c
 exact cT (m:=0) λy a=>by
  simp only[À,Ñ,or_false]at a
  rcases a with rfl|rfl<;>exact cj _).le (by decide)
theorem ve(a:List Mv):JE (.list (a.map wZ)) 64:=(iY (m:=1) λz b=>by
 obtain⟨m,_,rfl⟩:=Â.mp b
 exact j9 m).le (by decide)
theorem MH:JE (.list []) 64:=(iY (m:=0) λz a=>by cases a).le (by decide)
theorem vY{a:Type}(f:a->û)(l:List a):į (.list (l.map f)) (.list [])=l.isEmpty:=by
 cases l<;>simp[į,û.eqvAll]
theorem eqN{a:Type}{f:a->û}{l:List a}(b:kx K H x (.list (l.map f)))(c:kx K H y (.list []))(s:JE (.list (l.map f)) 64)(q:Q (.bl l.isEmpty) H):F5 K x y H Q:=
 ⟨_,_,b,c,s.shaped (Ξ _),MH.shaped (Ξ _),by rw[vY];exact q⟩
theorem neN{a:Type}{f:a->û}{l:List a}(b:kx K H x (.list (l.map f)))(c:kx K H y (.list []))(s:JE (.list (l.map f)) 64)(q:Q (.bl (!l.isEmpty)) H):F4 K x y H Q:=
 ⟨_,_,b,c,s.shaped (Ξ _),MH.shaped (Ξ _),by rw[vY];exact q⟩
theorem Kd.rooms(h:Kd a s m s'):s'.rooms=s.rooms:=by cases h<;>rfl
theorem Kd.len(h:Kd a s m s'):s'.Hw.length=s.Hw.length:=by
 cases h with
 | @IB k l t ln ht hg hl Ib ho =>
  show(if t.δ=0 then (cp s k t).Hw.set k _ else (cp s k t).Hw).length=_
  have:(cp s k t).Hw.length=s.Hw.length:=ī ..
  split
  ·rw[ī];exact this
  ·exact this
 | @on k l m c lk ln t hk hq ht hl Ib ho =>
  show(if c=0 then s.Hw.set m _ else s.Hw).length=_
  split
  ·exact ī ..
  ·rfl
 |J4=>rfl
 |back=>rfl
theorem IY.post(J:IY a s)(B:x<a.n)(C:y<a.n)(f:0<=l/\l<=60)(N:s.Hw.length<60):IY a (dB s x y l u):=by
 have c:∀(m:Nat)(t:bj),(dB s x y l u).Hw[m]?=Α t->s.Hw[m]?=Α t∨(m=s.Hw.length/\t=⟨x,y,l,u,0,[]⟩):=λm t b=>by
  have b:(s.Hw++[(⟨(x:Int),(y:Int),l,u,0,[]⟩:bj)])[m]?=Α t:=b
  by_cases g:m<s.Hw.length
  ·rw[Ϛ g]at b;exact .inl b
  ·have D:=(gQ0 b)
   rw[ϛ,Ã]at D
   have E:m=s.Hw.length:=by lia
   subst E
   rw[ö]at b
   cases b
   exact .inr ⟨Κ,Κ⟩
 have F:∀(m:Nat)(t:bj),s.Hw[m]?=Α t->(dB s x y l u).Hw[m]?=Α t:=λm t b=>by
  show(s.Hw++[(⟨(x:Int),(y:Int),l,u,0,[]⟩:bj)])[m]?=Α t
  rw[Ϛ (gQ0 b)];exact b
 refine⟨J.γ,J.ε,?_,J.Ny,λm t b=>?_,λm t b=>?_,λk d j q G=>?_,λm t b=>?_,λm t b H=>?_,λm t b i p v I=>?_,λm t b p d z L=>?_,J.first,λk d j m t g b=>?_,?_⟩
 ·show(s.Hw++[_]).length<=60
  rw[ϛ,Ã];lia
 ·rcases c m t b with h|⟨_,rfl⟩
  ·exact J.lets m t h
  ·exact⟨x,y,Κ,Κ,B,C⟩
 ·rcases c m t b with h|⟨_,rfl⟩
  ·exact J.IG m t h
  ·exact⟨(λl f=>by cases f),á⟩
 ·obtain⟨m,t,e,b,M⟩:=J.Jr k d j q G
  exact⟨m,t,e,F m t b,M⟩
 ·rcases c m t b with h|⟨_,rfl⟩
  ·exact J.Kw m t h
  ·exact⟨ĺ _,f.1,f.2⟩
 ·rcases c m t b with h|⟨_,rfl⟩
  ·exact J.Jc m t h H
  ·rfl
 ·rcases c m t b with h|⟨_,rfl⟩
  ·exact J.last m t h i p v I
  ·cases v
 ·rcases c m t b with h|⟨_,rfl⟩
  ·exact J.head m t h p d z L
  ·cases z
 ·obtain⟨A,O,o,r,_⟩:=J.Jr k d j _ g
  have o:=o
  have o:m=A:=by lia
  subst o
  rcases c m t b with h|⟨e,_⟩
  ·exact J.MF k d j m t g h
  ·rw[e]at r
   rw[Ë (Ξ _)]at r
   cases r
 ·have h:=J.sum
  have e:i5 (dB s x y l u)=i5 s:=by
   show((s.Hw++[(⟨(x:Int),(y:Int),l,u,0,[]⟩:bj)]).map _).sum=_
   rw[Ϥ,ph]
   simp[i5]
  rw[e];exact h
theorem G0{a:List Int}(b:a.length=m)(c:∀r∈a,1<=r/\r<=60):vx m (a.map V.int)=Γ:=by
 unfold vx
 rw[Ρ,b,Ε Κ,Ý,ù]
 intro v d
 obtain⟨r,e,rfl⟩:=Â.mp d
 exact Ε (c r e)
def YdP(K:ϧ)(c:Cs)(TC:Ο)(J:TJ)(ys:Ys)(ex:List Ο)(H:Hp)(tb:Ο)(ps:IPs)(n:Nat)(wy:Wf)(rs:List Int):VK:=λv H'=>∃a:YA,v=.ref a.y/\a.tb=tb/\a.ps=ps/\a.n=n/\a.wy=wy/\Hz H H'/\(∀z∈a.four,H z=Β)/\Nv K c TC J (yx ys ex) H' a (Y0 (rs.map V.int) n)/\IY a (Y0 (rs.map V.int) n)
theorem oC{P:Program}{w:Å}(W:Wy K TC J)
  (x:IM c TC J H tb lx HJ lt n HE ps wy) (G:∀p g k,(wy p g k).length<=400) (I:∀p∈ps,iK n p=Γ) (L:HC K H ra (rs.map V.int)) (A:rs.length=ps.length) (M:∀r∈rs,1<=r/\r<=60) (hp:ps.length<=40) (t:∀b∈ex,∃xs,H b=Α (.π xs)):
  ∀y d,H y=Β->H d=Β->d≠y->lg K c TC J (yx ys ex) [.ref y,.ref tb,.ref ra] (ο (ο H d (.own y)) y (.ρ ys.HH d [])) (λv N=>v=.HU/\YdP K c TC J ys ex H tb ps n wy rs (.ref y) N) E:=by
 intro y d B O Q
 have f:Hz H (ο (ο H d (.own y)) y (.ρ ys.HH d [])):=Hz.new (Hz.new (Hz.refl H) O) (aI (ϗ Q) B _)
 have j:=G0 A M
 refine⟨y,d,_,_,_,_,n,_,_,_,_,_,Κ,ae,x.keep W (Hz.HM f),(λb R=>let ⟨xs,i⟩:=t b R;⟨xs,f _ _ i⟩),.inr ⟨ra,Κ,.inl (f.seq L),by rw[Ρ];lia,(λv S=>by obtain⟨r,_,rfl⟩:=Â.mp S;exact .int r),λh=>by rw[j]at h;cases h⟩,λ_ s m le q dn T U X Y Z XS hY=>⟨Κ,?_⟩⟩
 have C:=λb o e=>U b o (λz=>by rw[ϙ.mp z,B]at e;cases e) (f _ _ e)
 have hO:xK ⟨y,d,tb,s,m,le,q,dn,lx,HJ,lt,n,HE,ps,wy⟩:=by
  refine⟨λl u hl=>?_,G⟩
  have D:=I u (Ψ hl)
  unfold iK at D
  simp only[Ù,decide_eq_true_eq,Ľ,decide_eq_false_iff_not]at D
  exact⟨u.2.toNat,by lia,by show u.2.toNat<n;lia⟩
 have F:IY ⟨y,d,tb,s,m,le,q,dn,lx,HJ,lt,n,HE,ps,wy⟩ (Y0 (rs.map V.int) n):=(pst0 (a:=⟨y,d,tb,s,m,le,q,dn,lx,HJ,lt,n,HE,ps,wy⟩) (by rw[Ρ];exact A)).jnv (ϡ _) (by show ps.length<=40;lia)
 refine⟨⟨y,d,tb,s,m,le,q,dn,lx,HJ,lt,n,HE,ps,wy⟩,Κ,Κ,Κ,Κ,Κ,C,λz i=>?_,⟨hY,x.keep W (Hz.HM C),hO,F.ok⟩,F⟩
 have i:=i
 simp only[À,Ñ,or_false]at i
 rcases i with rfl|rfl|rfl|rfl
 ·exact f.free X
 ·exact f.free Y
 ·exact f.free Z
 ·exact f.free XS
theorem AW{R:Hp->V->α->Prop}(mono:∀{H b:Hp},Hz H b->∀v a,R H v a->R b v a)(as:List α)(o:as.length<Χ)
  (p:∀(i:Nat)(a:α)(c:Hp)(N:V->Hp->Prop),as[i]?=Α a->Hz H c->(∀v d,Hz c d->R d v a->N v d)->g (.int i) σ0 c λf d=>te f d N)
  (q:∀D l c,Hz H c->c D=Β->Paired (R c) l as->Q (.ref D) (ο c D (.π l))):dJ (B4 0 as.length) g oI te σ0 Q H:=by
 refine aW as.length o (λi acc b=>Hz H b/\Paired (R b) acc (as.take i)) ⟨Hz.refl _,.nil⟩ (λi acc b h=>by rw[Paired.length h.2];exact ü _ _) (λi acc b j h=>?_) (λacc b h=>?_)
 ·obtain⟨s,e⟩:=h
  refine⟨j,λv d y=>?_⟩
  obtain⟨rfl,rfl⟩:=y
  rw[Õ]
  refine p i as[i] d (λy m=>Hz H m/\Paired (R m) (acc++[y]) (as.take (i+1))) (Λ j) s λv u n r=>⟨s.trans n,?_⟩
  rw[Ì,Λ j]
  exact Paired.snoc r (Paired.mono (mono n) e)
 ·obtain⟨s,e⟩:=h
  rw[Æ]at e
  exact⟨Ξ _,λD t=>q D acc b s t e⟩
noncomputable def rL(s:YS):Bool:=decide ((s.Hw.map (·.len)).sum=(s.ε.map λq=>(q.length:Int)).sum)
noncomputable def DE:Option Nat->Nat
 |none=>0
 |some k=>k+1
theorem nX(h:eY n ps r=Γ):∀k∈r.s,k<ps.length:=by
 unfold eY at h
 simp only[Ù,ù,decide_eq_true_eq]at h
 intro k a
 exact Ϩ.mp (Ϫ.mp (h.2.2 k a)).1
noncomputable def kT(rs:List Rw)(k:bo):Nat:=match dI rs k with
 |some r=>Yd.Ic r.s 0
 |none=>0
theorem lU(h:dI rs k=Α r):r∈rs:=List.mem_reverse.mp (Jp h)
noncomputable def Ej(rs:List Rw):Wf:=λp g k=>mN (kT rs (aP ⟨(p:Int),(g:Int),k,[]⟩))
def KP(P:Program)(w:Å)(ts:Ts):TJ:=λH x n wy=>∃(dx de:Ο)(lv:V)(kvs:List eR)(rs:List Rw),H x=Α (.ρ ts.told dx [("land",lv),("entries",.ref de)])/\ID P w H de kvs/\(∀k,cM kvs k=(dI rs k).map yL)/\(∀r∈rs,∀k∈r.s,k<40)/\wy=Ej rs
theorem KP.keep(h:KP P w ts H x n wy)(k:HY H H'):KP P w ts H' x n wy:=by
 obtain⟨b,c,d,a,e,f,⟨g,i⟩,j⟩:=h
 exact⟨b,c,d,a,e,k _ _ f ϥ,⟨k _ _ g ϥ,λy l=>k _ _ (i y l) ϥ⟩,j⟩
theorem GA(h:z∈mN (Yd.Ic ks 0)):z∈ks:=by
 have:=(Ϫ.mp h).2
 have a:=this
 rw[wB,decide_eq_true_eq]at a
 obtain⟨n,b,e⟩:=IL.mp a
 grind
theorem rh(m:Nat):(mN m).Nodup:=Wb.filter _
theorem xM(h:∀r∈rs,∀k∈r.s,k<n)(p g:Nat)(k:Option Nat):(∀z∈Ej rs p g k,z<n)/\(Ej rs p g k).length<=n:=by
 have c:∀z∈Ej rs p g k,z<n:=λz a=>by
  unfold Ej kT at a
  cases b:dI rs (aP ⟨(p:Int),(g:Int),k,[]⟩) with
  |none=>rw[b]at a;exact Ι a (by show z∉mN 0;intro h;cases h)
  |some r=>rw[b]at a;exact h r (lU b) z (GA a)
 exact⟨c,dN n _ (rh _) c⟩
theorem sH(G:HB P w K mg μ aK 3 f fd kn (uL P w ts)):HB P w K mg μ aK 3 f fd kn (dq (KP P w ts)):=
 G.imp λy H Q E h=>by
 obtain⟨x,n,z,p,g,k,e,⟨i,j,l,a,b,m,o,s,t,u⟩,A,B,q⟩:=h
 exact⟨x,i,j,l,a,⟨(p:Int),(g:Int),k,[]⟩,kT b (aP ⟨(p:Int),(g:Int),k,[]⟩),e,m,o,by
  rw[s]
  unfold kT
  cases dI b (aP ⟨(p:Int),(g:Int),k,[]⟩)<;>rfl,by
  unfold kT
  cases v:dI b (aP ⟨(p:Int),(g:Int),k,[]⟩) with
  |none=>exact VR _
  |some r=>exact Ϝ (yK (t r (lU v))) (ç (by decide) (by decide)),λC D c d=>q D _ (c.new d) (c.free d) (by rw[ae,u];rfl)⟩
theorem wj(e:ps.length<Χ)
  (f:∀(i:Nat)(acc:List V)(N:List V->Hp->Prop)(a:Int×Int),ps[i]?=Α a->N (if decide (sel a=pl)=Γ then acc++[V.int i] else acc) H->g (.int i) σ0 H λc j=>tt c j λb d=>if b=Γ then te c d λy l=>N (acc++[y]) l else N acc d)
  (m:∀D,H D=Β->Q (.ref D) (ο H D (.π (c8 (ia sel ps pl))))):dJ (B4 0 ps.length) g tt te σ0 Q H:=by
 refine jz (lo:=0) (λk=>decide (sel (ps.getD k (0,0))=pl)) (λk=>V.int k) e (λi acc N n h=>?_) m
 obtain⟨a,hpr⟩:∃a,ps[i]?=Α a:=⟨ps[i],Λ n⟩
 have o:ps.getD i (0,0)=a:=by rw[Ω,hpr];rfl
 rw[Õ]
 rw[o]at h
 exact f i acc N a hpr h
theorem Vr(m k:Nat):decide (V.int (Ě ((m:Int) / 2^(k:Int).toNat) 1)=V.int 1)=m.testBit k:=by
 rw[bR,Τ,←Yd.M5 m k]
theorem oh(q:Nat->Bool)(f:xs.length<Χ)(i:HC K H a (c8 xs))
  (j:∀(k:Nat)(acc:List V)(N:List V->Hp->Prop),k∈xs->N (if q k then acc++[V.int (k:Int)] else acc) H->g (.int (k:Int)) σ0 H λc l=>tt c l λb d=>if b=Γ then te c d λy m=>N (acc++[y]) m else N acc d)
  (n:∀D,H D=Β->Q (.ref D) (ο H D (.π (c8 (xs.filter q))))):dJ (B7 K a) g tt te σ0 Q H:=by
 refine ig (xs:=c8 xs) (λv=>match v with|.int k=>q k.toNat|_=>Δ) (λv=>v) (by unfold c8;rw[Ρ];exact f) i (λx acc N o h=>?_) λD p=>?_
 ·obtain⟨k,r,rfl⟩:=Â.mp o
  exact j k acc N r h
 ·have e:((c8 xs).filter (λv=>match v with|.int k=>q k.toNat|_=>Δ)).map (λv=>v)=c8 (xs.filter q):=by
   unfold c8
   rw[List.map_id'',XZ]
   ·congr 1
   ·intro _;rfl
  rw[e]
  exact n D p
theorem AS{n:Nat}(a:1<=n)(b:n<=12)(c:ps.length<=40)(h:∀p∈ps,iK n p=Γ):ie n ps=.good:=by
 unfold ie
 rw[Ε (show (1:Int)<=(n:Int)/\(n:Int)<=12 by lia),Η (by decide),Η (by lia),m9 h]
noncomputable def pX(s:ϩ):Scope:=match s with
 |.Assign _ (.ListComp _ _ sc _) _=>sc
 |_=>zQ0
noncomputable def iL(b:List ϩ)(i:Nat):ϩ:=b.getD i (.Pass ⟨0,0,0,0⟩)
noncomputable def jO(s:ϩ):List ϩ:=match s with
 |.For _ _ b _ _=>b
 |_=>[]
theorem uk{kV doc pm cdv ct:Φ}(e:K.lookup T=Α o)(f:o.data=.seq #[ý] n):
  Binds K (oo "__init__" "Yard.__init__" (bX jA) (aB jA) (ag jA) (.ref T) kV doc pm an cdv ct) kq []:=λs us g d=>by
 have d:us.length=3:=by rw[Ų]at d;exact d
 obtain⟨a,h,rfl,i⟩:=_L2.PN d
 obtain⟨b,j,rfl,l⟩:=_L2.PN i
 obtain⟨c,m,rfl,p⟩:=_L2.PN l
 obtain rfl:=p4 p
 exact N1 Κ (g _ _ e) f Κ Κ
theorem rY{kV doc pm cdv ct:Φ}(i:K.lookup T=Α o)(j:o.data=.seq #[Ű 0 tk] n):
  Binds K (oo "post" "Yard.post" (bX jb) (aB jb) (ag jb) (.ref T) kV doc pm an cdv ct) UY []:=λs us l f=>by
 have f:us.length=5:=by rw[Ų]at f;exact f
 obtain⟨a,m,rfl,p⟩:=_L2.PN f
 obtain⟨b,q,rfl,r⟩:=_L2.PN p
 obtain⟨c,t,rfl,u⟩:=_L2.PN r
 obtain⟨d,v,rfl,g⟩:=_L2.PN u
 obtain⟨e,x,rfl,h⟩:=_L2.PN g
 obtain rfl:=p4 h
 exact N1 Κ (l _ _ i) j Κ Κ
theorem vE(c:H l=Α (.π xs)):∀{a:List V}{b:IPs},HW H a b->HW (ο H l o) a b:=λd=>by
 induction d with
 |nil=>exact .nil
 |cons f r g=>obtain⟨t,e,q⟩:=f;exact .cons ⟨t,e,by rw[aj (bc q c (by grind))];exact q⟩ g
theorem dE:∀(n:Nat)(l:List Nat),l.Nodup->(∀x∈l,x<n)->l.length<=n
 | 0,l,_,h=>by
  cases l with
  |nil=>grind
  |cons x l=>exact Ι (h x Ϧ) (Ņ _)
 | n+1,l,hn,h=>by
  by_cases a:n∈l
  ·have e:=K7 a
   have:=dE n (l.erase n) (hn.erase n) λx b=>by
    grind
   lia
  ·have:=dE n l hn λx b=>by
    grind
   lia
theorem GJ(h:k∈ia sel ps pl):k<ps.length:=Ϩ.mp (Ϫ.mp h).1
def RwX(x:Ο)(H:Hp)(v:V)(r:Rw):Prop:=∃t l,v=.ref t/\Rc H t l r/\l≠x
abbrev KC(x:Ο)(H:Hp):List V->List Rw->Prop:=Paired (RwX x H)
theorem KC.imp{H H':Hp}(h:∀v r,RwX x H v r->G v r):∀{a:List V}{b:List Rw},KC x H a b->Paired G a b:=λc=>by
 induction c with
 |nil=>exact .nil
 |cons z r d=>exact .cons (h _ _ z) d
theorem KC.rws(h:KC x H vs rs):Md H vs rs:=KC.imp (H':=H) (λ_ _ ⟨t,l,e,z,_⟩=>⟨t,l,e,z⟩) h
theorem KC.same(s:Hz H H')(h:KC x H vs rs):KC x H' vs rs:=KC.imp (H':=H) (λ_ _ ⟨t,l,e,z,n⟩=>⟨t,l,e,z.same s,n⟩) h
theorem KC.off(a:H x=Α (.π xs))(h:KC x H vs rs):KC x (ο H x o) vs rs:=
 KC.imp (H':=H) (λ_ _ b=>by obtain⟨t,l,e,z,n⟩:=b;exact⟨t,l,e,⟨by rw[aj (bc z.1 a (by grind))];exact z.1,aI n z.2 _⟩,n⟩) h
theorem KC.snoc(h:RwX x H v r):∀{a:List V}{b:List Rw},KC x H a b->KC x H (a++[v]) (b++[r]):=λc=>by
 induction c with
 |nil=>exact .cons h .nil
 |cons z t d=>exact .cons z d
noncomputable def jl:Scope:=zQ0
inductive oQ(K:ϧ)(vs:List V)(H:Hp)(Q:VK)(E:XK):Prop
 |mk (a:Ο) (ns:List Int) (k:Nat) (_:vs=[.ref a,.int k]) (_:HC K H a (ns.map V.int)) (_:∀d,Q (.int d) H)
inductive qt(vs:List V)(H:Hp)(Q:VK)(E:XK):Prop
 |mk (c:Int) (k:Nat) (_:vs=[.int c,.int k]) (_:k<=1000000) (_:∀d:Int,0<=d->Q (.int d) H)
theorem Fi:aq uy uy (ag zg):=bM
theorem Db(F:HZ K "_law_cell_at" "_law_cell_at" zg f fd)(T:dz mg):HB P w K mg μ aK 1 f fd uy (oQ K):=by
 refine F.ok Fi λ_ _ _ s H _ Q E g h=>?_
 obtain⟨a,b,k,rfl,c,q⟩:=h
 refine⟨_,ac (aC (bJ jX (pv 1) (gq T.len (pv 0)))
   (af (ao (be HN (pv 0) (pv 1)))) ar) (af (ao ah)),?_⟩
 refine⟨a,_,Κ,.inl c,_,_,Κ,Κ,_,Κ,?_⟩
 refine Z5 (λh=>?_) λ_=>q _
 have d:=of_decide_eq_true h
 rw[Ρ]at d
 have e:k<b.length:=by lia
 exact⟨a,_,k,V.int b[k],Κ,Κ,c,al (by simp[e]),q _⟩
theorem Q5:aq ["_law_cell","_law_k","_law_number"] ux (ag Fq):=bM
theorem FQ(F:HZ K "_law_mixed" "_law_mixed" Fq f fd):HB P w K mg μ aK 1 f fd ux qt:=by
 refine F.ok Q5 λ_ _ _ s H _ Q E g h=>?_
 obtain⟨c,k,rfl,i,q⟩:=h
 refine⟨_,ac (aC (bJ br (aA bQ (pv 0) ah) ah) (af (ao (aA bQ (aA p5 (pv 0) (aA cQ ah (aA p7 ah (aA bQ (pv 1) ah)))) (aA tF ah ah)))) ar)
  (ac (bG 2 Q5.nd (aA bQ (aA p7 (aA cQ (aA cQ (aA bQ (aA fU (pv 0) ah) ah) (aA p7 ah (pv 1))) ah) ah) ah))
  (af (ao (aA bQ (aA p7 (pv 2) (aA cQ (aA fU (pv 2) ah) ah)) ah)))),?_⟩
 have a:(0:Int)<2147483647:=by decide
 refine⟨_,_,Κ,Κ,(by grind),Κ,_,Κ,?_⟩
 dsimp only
 by_cases b:c% 2=1
 ·rw[Ε (show V.int (c% 2)=V.int 1 by rw[b])]
  have j:=Į (k:Int) (show (120:Int)≠0 by decide)
  refine az ⟨_,_,Κ,Κ,(by grind),_,_,Κ,Κ,.inl ⟨by decide,by decide⟩,_,_,Κ,Κ,_,_,Κ,Κ,(by grind),_,_,Κ,Κ,⟨by decide,by decide,by decide⟩,_,_,Κ,Κ,(by grind),?_⟩
  grind
 rw[Ζ (λz=>b (V.int.inj z))]
 refine au ⟨_,_,Κ,Κ,⟨by decide,by decide⟩,_,_,Κ,Κ,a,_,_,Κ,Κ,.inl ⟨by decide,by decide⟩,_,_,Κ,Κ,_,_,Κ,Κ,_,_,Κ,Κ,.inr ⟨by decide,by decide⟩,_,_,Κ,Κ,a,?_⟩
 dsimp only
 have d:=Į ((c / 2% 2147483647+7919* (k:Int)+1)* 48271) (show (2147483647:Int)≠0 by decide)
 have e:=Ĕ ((c / 2% 2147483647+7919* (k:Int)+1)* 48271) a
 generalize (c / 2% 2147483647+7919* (k:Int)+1)* 48271% 2147483647=m at d e
 refine⟨_,_,Κ,Κ,⟨by decide,by decide⟩,_,_,Κ,Κ,_,_,Κ,Κ,.inl ⟨by lia,by lia⟩,_,_,Κ,Κ,a,?_⟩
 grind
abbrev Es:=List (Nat×Nat)
noncomputable def lk(fs:Es)(p:Nat):Option Nat:=(fs.find? λx=>decide (x.1=p)).map (·.2)
theorem Dt(h:lk fs p=Α d):(p,d)∈fs:=by
 unfold lk at h
 cases e:fs.find? (λx=>decide (x.1=p)) with
 |none=>grind
 | some x =>
  grind
theorem Lm:lk fs p=Β↔p∉fs.map (·.1):=by
 unfold lk
 rw[Option.map_eq_none_iff,Ď]
 grind
theorem pC(b:(fs.map (·.1)).Nodup)(h:(p,d)∈fs):lk fs p=Α d:=by
 cases e:lk fs p with
 |none=>exact Ι (Â.mpr ⟨_,h,Κ⟩) (Lm.mp e)
 | some a =>
  have c:=Dt e
  have:∀{l:Es},(l.map (·.1)).Nodup->(p,d)∈l->(p,a)∈l->a=d:=by
   intro l
   induction l with
   |nil=>grind
   | cons x l f =>
    grind
  grind
structure Od(n:Nat)(g:Nat)(fs:Es)(i:Nat):Prop where
 nd:(fs.map (·.1)).Nodup
 lt:∀x∈fs,x.1<n
 g0:(g,0)∈fs
 le:i<=fs.length
theorem Od.few(b:Od n g fs i):fs.length<=n:=by
 have:=dE n (fs.map (·.1)) b.nd λx a=>by
  obtain⟨y,c,rfl⟩:=Â.mp a
  exact b.lt y c
 rwa [Ρ]at this
theorem xB(a:g<n):Od n g [(g,0)] 0:=⟨by simp,λx b=>by rw[ϙ.mp b];exact a,ϙ.mpr Κ,ϡ _⟩
theorem Od.push(b:Od n g fs i)(j:s<n)(l:lk fs s=Β):Od n g (fs++[(s,d)]) i where
 nd:=by
  rw[Ϥ,Ĵ]
  refine⟨b.nd,by simp,λa f c e=>?_⟩
  have e:c=s:=by simpa using e
  intro z
  rw[z,e]at f
  exact Lm.mp l f
 lt:=λx m=>by
  rcases Á.mp m with h|h
  ·exact b.lt x h
  ·rw[ϙ.mp h];exact j
 g0:=ï _ b.g0
 le:=Í b.le (by rw[ϛ];lia)
structure Hu(n:Nat)(g:Nat)(fs:Es):Prop where
 nd:(fs.map (·.1)).Nodup
 lt:∀x∈fs,x.1<n
 g0:lk fs g=Α 0
theorem Od.MI(b:Od n g fs fs.length):Hu n g fs:=⟨b.nd,b.lt,pC b.nd b.g0⟩
noncomputable def fk(x:Nat×Nat):_L2.Key×V:=(ϫ (x.1:Int),V.int (x.2:Int))
noncomputable def zp(x:Nat×Nat):Int×Int:=((x.1:Int),(x.2:Int))
theorem iT(p:Nat):∀fs:Es,cC (fs.map fk) (ϫ (p:Int))=(lk fs p).map λd:Nat=>V.int (d:Int)
 |[]=>rfl
 | x:: fs=>by
  have b:=iT p fs
  unfold cC lk at b⊢
  rw[È,ć,ć]
  by_cases h:x.1=p
  ·have a:(fk x).1=(ϫ (p:Int):_L2.Key):=by rw[←h];rfl
   rw[Ε h,Ε a];rfl
  ·have a:¬(fk x).1=(ϫ (p:Int):_L2.Key):=λz=>h (by have:=LU z;lia)
   rw[Ζ h,Ζ a];exact b
theorem F6{s d:Nat}(h:lk fs s=Β):cX (fs.map fk) (ϫ (s:Int)) (V.int (d:Int))=(fs++[(s,d)]).map fk:=by
 rw[lB _ (by rw[iT,h];rfl),Ϥ];rfl
noncomputable def pN(es:Es)(p:Nat):List Nat:=(Υ es.length).filter λk=>decide ((es.getD k (0,0)).2=p)
noncomputable def i9(es:Es)(p:Nat):List Nat:=(Υ es.length).filter λk=>decide ((es.getD k (0,0)).1=p)
theorem oA(a:Es)(k:Nat):(a.map zp).getD k (0,0)=zp (a.getD k (0,0)):=by
 rw[Ω,Ω,ώ]
 cases a[k]?<;>rfl
theorem Vs(a:Es)(p:Nat):pG Î (a.map zp) (p:Int) (a.map zp).length=nV (pN a p):=by
 unfold pG pN nV
 rw[Ρ]
 congr 1
 refine A4 λk _=>?_
 rw[oA]
 show decide (((a.getD k (0,0)).2:Int)=(p:Int))=decide ((a.getD k (0,0)).2=p)
 grind
theorem FE(a:Es)(p:Nat):pG Ä (a.map zp) (p:Int) (a.map zp).length=nV (i9 a p):=by
 unfold pG i9 nV
 rw[Ρ]
 congr 1
 refine A4 λk _=>?_
 rw[oA]
 show decide (((a.getD k (0,0)).1:Int)=(p:Int))=decide ((a.getD k (0,0)).1=p)
 grind
theorem Cy(a:Es)(p:Nat):(i9 a p).length<=a.length:=by
 unfold i9
 grind
theorem Vt(h:k∈pN es p):∃s,es[k]?=Α (s,p)/\es.getD k (0,0)=(s,p):=by
 obtain⟨a,b⟩:=Ϫ.mp h
 grind
def XW(n:Nat)(es:Es):Prop:=∀e∈es,e.1<n/\e.2<n
inductive Ey(c:Cs)(vs:List V)(H:Hp)(Q:VK)(E:XK):Prop
 |mk (lx HJ lt:Ο) (HE:List V) (n:Nat) (es:Es) (g:Nat) (_:vs=[.ref lx,.int g]) (_:cK H c lx HJ lt (n:Int) HE (es.map zp)) (_:XW n es) (_:es.length<=100) (_:n<=100) (_:g<n) (_:∀(fa:Ο)(fs:Es)(H':Hp),Hz H H'->H fa=Β->Hu n g fs->H' fa=Α (.dK (fs.map fk))->Q (.ref fa) H')
abbrev NH:List Str:=["land","goal","far","line","looked_at","place","lane","start"]
theorem Q7:aq NH ["land","goal"] (ag Fw):=bM
theorem Gq(F:HZ K "how_far" "how_far" Fw f fd)(T:dz mg)(L:i3 K c)
  (Gs:Me P w K mg μ c.land "start_of" 1 eC (gm c Ä)) (Gi:Me P w K mg μ c.land "into" 1 ww (wC c Î)):HB P w K mg μ aK 2 f fd ["land","goal"] (Ey c):=by
 refine F.ok Q7 λ_ _ _ s H _ Q E hr h=>?_
 obtain⟨C,U,lt,HE,n,B,g,rfl,hL,Kx,Q4,hn,hg,q⟩:=h
 have hu:=ma hr
 refine⟨_,ac (bG 2 Q7.nd (Cw (zt (pv 1) ah Cp) Κ Κ (by intro z;cases z) (by decide)))
  (ac (bG 3 Q7.nd (aJ (aa (pv 1) ad)))
  (ac (bG 4 Q7.nd ah)
  (ac (dS ñ (bJ jX (pv 4) (gq T.len (pv 3)))
   (ac (bG 5 Q7.nd (be HN (pv 3) (pv 4)))
   (ac (pi (i:=4) Q7.nd Κ (kS Κ) ah pJ)
   (af (eI (aL (cE (pv 0) L.cl Gi hr (aa (pv 5) ad))) (b9 6 Q7.nd)
    (ac (bG 7 Q7.nd (cE (pv 0) L.cl Gs hr (aa (pv 6) ad)))
    (af (aC (jE (fz hu (pv 7) (pv 2)))
     (ac (kF hu (pv 2) (pv 7) (aA cQ (jk hu (pv 2) (pv 5) (λ_ _=>rfl)) ah) Κ)
     (af (aF (ck plainAttrs_list PySem.F.slot_list_append PySem.F.type_list_append bq (pv 3) (aa (pv 7) ad))))) ar))))))))
  (af (ao (pv 2)))))),?_⟩
 have land:∀{u:Hp},Hz H u->cK u c C U lt (n:Int) HE (B.map zp):=λs'=>⟨s' _ _ hL.1,s' _ _ hL.2.1,HW.same s' hL.2.2⟩
 refine λl Ke=>⟨ae,[fk (g,0)],Κ,(by show 1<=15;decide),?_⟩
 have s0:Hz H (ο (ο H l (.dK [])) l (.dK (gZ [] [fk (g,0)]))):=λb o e=>by rw[aj (ai e Ke),aj (ai e Ke)];exact e
 have S0:(ο (ο H l (.dK [])) l (.dK (gZ [] [fk (g,0)]))) l=Α (.dK ([(g,0)].map fk)):=ae
 generalize ο (ο H l (.dK [])) l (.dK (gZ [] [fk (g,0)]))=H0 at s0 S0⊢
 refine⟨by show 1<=Χ;decide,λr Ib=>?_⟩
 have s1:=s0.new (o:=.π [.int g]) Ib
 have RC:=s0.free Ib
 have R9:(ο H0 r (.π [.int g])) r=Α (.π (nV ([(g,0)].map (·.1)))):=ae
 have XX:=cf S0 Ib (.π [.int g])
 generalize ο H0 r _=H1 at s1 R9 XX⊢
 refine⟨λm G u=>∃(fs:Es)(i:Nat)(O x y:Option V),m=n - i/\Od n g fs i/\Hz H u/\u l=Α (.dK (fs.map fk))/\u r=Α (.π (nV (fs.map (·.1))))/\G=[Α (.ref C),Α (.int g),Α (.ref l),Α (.ref r),Α (.int (i:Nat)),O,x,y],
  ⟨n - 0,[(g,0)],0,Β,Β,Β,Κ,xB hg,s1,XX,R9,Κ⟩,?_⟩
 rintro m G H2 ⟨fs,i,O,x,y,rfl,X,s2,gf,Y,rfl⟩
 have Jj:=X.few
 refine⟨r,_,Κ,.inl (HC.of Y),_,_,Κ,Κ,_,Κ,?_⟩
 by_cases hi:i<fs.length
 rotate_left
 ·have e:i=fs.length:=by have:=X.le;lia
  subst e
  rw[Ζ (by rw[aw,Ρ];lia)]
  exact au (q l fs H2 s2 Ke X.MI gf)
 rw[Ε (by rw[aw,Ρ];lia)]
 have hy:=Λ hi
 generalize fs[i]=pd at hy
 obtain⟨p,d⟩:=pd
 have hp:=X.lt _ (Ψ hy)
 have hpl:(nV (fs.map (·.1)))[i]?=Α (.int (p:Int)):=bB (by rw[ώ,hy];rfl)
 refine az ⟨λZ u=>∃(j:Es)(O x y:Option V),Od n g j (i+1)/\Hz H u/\u l=Α (.dK (j.map fk))/\u r=Α (.π (nV (j.map (·.1))))/\Z=[Α (.ref C),Α (.int g),Α (.ref l),Α (.ref r),Α (.int ((i:Int)+1)),O,x,y],
  λZ u HD=>by obtain⟨j,O,x,y,h1,h2,h3,h4,h5⟩:=HD;exact⟨_,by lia,j,_,O,x,y,Κ,h1,h2,h3,h4,h5⟩,?_⟩
 refine⟨r,_,_,_,Κ,Κ,HC.of Y,al hpl,_,_,Κ,Κ,C,U,_,Κ,(land s2).1,Κ,C,U,_,_,_,_,_,Κ,land s2,by rw[Ρ];lia,λH3 I s3 J=>?_⟩
 rw[Vs]
 have u3:=s3.new (o:=.π (nV (pN B p))) J
 have gI:=aX H3 I (.π (nV (pN B p)))
 have nIl:=ϗ (ai (s3 _ _ Y) J)
 have nIf:=ϗ (ai (s3 _ _ gf) J)
 have Vu:=bc Y gf (by intro z;cases z)
 generalize ο H3 I _=H4 at u3 gI⊢
 refine⟨I,Κ,⟨_,HC.of gI⟩,?_⟩
 refine b8 (K:=K) (a:=I) (xs:=nV (pN B p)) (λm G A=>∃(j:Es)(x y:Option V),Od n g j i/\j[i]?=Α (p,d)/\Hz H A/\A I=Α (.π (nV (pN B p)))/\A l=Α (.dK (j.map fk))/\A r=Α (.π (nV (j.map (·.1))))/\
   G=[Α (.ref C),Α (.int g),Α (.ref l),Α (.ref r),Α (.int ((i:Int)+1)),Α (.int p),x,y])
  ⟨fs,_,_,X,hy,s2.trans u3,gI,u3 _ _ gf,u3 _ _ Y,Κ⟩ (λm G A _ HD=>by obtain⟨_,_,_,_,_,_,g5,_⟩:=HD;exact HC.of g5) ?_ ?_
 ·rintro m v G A hv ⟨j,x,y,D,t,R,M,S,XY,rfl⟩
  have hm:m<(pN B p).length:=by have:=(gQ0 hv);rw[aw]at this;exact this
  have N:=Λ hm
  have JK:=bB N
  rw[JK]at hv
  have hv:=ϋ hv
  subst hv
  generalize hke:(pN B p)[m]=k at N
  obtain⟨st,hk1,hk2⟩:=Vt (Ψ N)
  have Pl:=Ψ hk1
  have Jh:=(Kx _ Pl).1
  refine⟨C,U,_,Κ,(land R).1,Κ,C,U,_,_,_,_,k,zp (st,p),Κ,land R,by rw[ώ,hk1];rfl,l,_,Κ,II.k (k:=ϫ (st:Int)) S,_,Κ,?_⟩
  rw[iT]
  have hfew':=D.few
  cases LD:lk j st with
  |some d'=>exact au ⟨j,_,_,D,t,R,M,S,XY,Κ⟩
  | none =>
   refine az ?_
   refine⟨l,.int (d:Int),Κ,?_,_,_,Κ,Κ,l,_,Κ,L8.k (k:=ϫ (st:Int)) S (by rw[ϊ,Ρ];lia),?_⟩
   ·have:=II.k (k:=ϫ (p:Int)) S
    rw[iT,pC D.nd (Ψ t)]at this
    exact this
   dsimp only
   have ep:cX (j.map fk) (ϫ (st:Int)) (V.int ((d:Int)+1))=(j++[(st,d+1)]).map fk:=F6 (d:=d+1) LD
   have gI6:=aI nIf M (.dK (cX (j.map fk) (ϫ (st:Int)) (V.int ((d:Int)+1))))
   have OB:=aI Vu XY (.dK (cX (j.map fk) (ϫ (st:Int)) (V.int ((d:Int)+1))))
   have OC:(ο A l (.dK (cX (j.map fk) (ϫ (st:Int)) (V.int ((d:Int)+1))))) l=Α (.dK ((j++[(st,d+1)]).map fk)):=by rw[ae,ep]
   have s6:Hz H (ο A l (.dK (cX (j.map fk) (ϫ (st:Int)) (V.int ((d:Int)+1))))):=R.put Ke
   generalize ο A l _=H6 at gI6 OB OC s6⊢
   refine⟨.inl ⟨Κ,_,HC.of OB⟩,r,_,_,Κ,Κ,OB,by rw[ϊ,aw,Ρ];lia,?_⟩
   have RD:=(gQ0 t)
   refine⟨_,_,_,D.push Jh LD,by rw[Ϛ RD];exact t,s6.put RC,aI nIl gI6 _,aI (ϗ Vu) OC _,?_,Κ⟩
   rw[ae,Ϥ,eV];rfl
 ·rintro G A ⟨j,x,y,D,t,R,M,S,XY,rfl⟩
  exact⟨j,_,_,_,⟨D.nd,D.lt,D.g0,(gQ0 t)⟩,R,S,XY,Κ⟩
noncomputable def jZ(fs:Es)(d:Nat)(e:Nat):Bool:=match lk fs e with
 |some d'=>decide (d'+1=d)
 |none=>Δ
noncomputable def dX(es fs:Es)(p d:Nat):List Nat:=(i9 es p).filter λk=>jZ fs d (es.getD k (0,0)).2
theorem zA(a:Es)(p:Nat):(i9 a p).Pairwise (· < ·):=Č _ A2
theorem wY(a fs:Es)(p d:Nat):(dX a fs p d).Pairwise (· < ·):=Č _ (zA a p)
theorem vy(h:k∈dX es fs p d):k<es.length:=Ϩ.mp (Ϫ.mp (Ϫ.mp h).1).1
theorem rc(h:ks.Pairwise (· < ·)):fF (Yd.Ic ks 0)=nV ks:=by
 rw[Dp,lQ (ks:=ks) (ms:=iz ks) ?_ (λk=>Iff.rfl),AD];rfl
 unfold iz
 grind
theorem FF(h:k∈i9 es p):∃e,es[k]?=Α (p,e)/\es.getD k (0,0)=(p,e):=by
 obtain⟨a,b⟩:=Ϫ.mp h
 grind
noncomputable def vN:V->Nat
 |.int z=>z.toNat
 |_=>0
theorem jY(a fs:Es)(d:Nat):∀l:List Nat,((nV l).filter λv=>jZ fs d (a.getD (vN v) (0,0)).2).map (λv=>v)=nV (l.filter λk=>jZ fs d (a.getD k (0,0)).2)
 |[]=>rfl
 | x:: l=>by
  have b:=jY a fs d l
  show((V.int (x:Int):: nV l).filter _).map _=_
  rw[List.filter_cons,List.filter_cons]
  have e:vN (V.int (x:Int))=x:=Τ x
  rw[e]
  cases jZ fs d (a.getD x (0,0)).2 with
  |true=>rw[Θ Κ,Θ Κ,È,b];rfl
  |false=>grind
inductive Vv(c:Cs)(vs:List V)(H:Hp)(Q:VK)(E:XK):Prop
 |mk (lx HJ lt fa:Ο) (HE:List V) (n:Nat) (es fs:Es) (g p d:Nat) (_:vs=[.ref lx,.ref fa,.int p]) (_:cK H c lx HJ lt (n:Int) HE (es.map zp)) (_:es.length<=100) (_:Rd H fa (.dK (fs.map fk))) (_:Hu n g fs) (_:lk fs p=Α d) (_:∀(D:Ο)(H':Hp),Hz H H'->H D=Β->H' D=Α (.π (nV (dX es fs p d)))->Q (.ref D) H')
theorem zo(h:Rd H fa (.dK (fs.map fk)))(p:Nat):II H fa (.int (p:Int)) ((lk fs p).map λd:Nat=>V.int (d:Int)):=.inl ⟨_,ϫ (p:Int),h,Κ,(iT p fs).symm⟩
theorem pf(s:Hz H H')(h:Rd H a u):Rd H' a u:=by
 rcases h with h|⟨o,h⟩
 ·exact .inl (s _ _ h)
 ·exact .inr ⟨o,s _ _ h⟩
noncomputable def Vw(s:ϩ):Scope:=match aB s with
 |.Return (Α (.ListComp _ _ sc _)) _:: _=>sc
 |_=>zQ0
theorem scNl:aq uw uw (ag Up):=bM
theorem bkNl:IP uw (ag Up) (Vw Up) uw [0,1,2]:=_L2.Jv
theorem ndNl:(["lane","land","far","place"]:List Str).Nodup:=by decide +kernel
theorem Vx(F:HZ K "nearer_lanes" "nearer_lanes" Up f fd)(T:dz mg)(L:i3 K c)
  (R:Me P w K mg μ c.land "end_of" 1 eC (gm c Î)) (Go:Me P w K mg μ c.land "out_of" 1 ww (wC c Ä)):HB P w K mg μ aK 2 f fd uw (Vv c):=by
 refine F.ok scNl λ_ _ _ s H _ Q E t h=>?_
 obtain⟨m,r,lt,z,A,n,i,fs,g,p,d,rfl,j,Q4,u,hF,S,q⟩:=h
 have B:=ma t
 refine⟨_,af (ao (aZ (own:=["lane"]) (capN:=["land","far","place"]) (cap:=[0,1,2]) bkNl Κ (aL (cE (pv 0) L.cl Go t (aa (pv 2) ad)))
  (λC s' H' fp=>⟨b9 0 ndNl,c7 (bJ br (zw B (pv 2) (cE (pv 1) L.cl R t (aa (pv 0) ad)) ⟨Κ,Κ,Κ,Κ⟩) (aA cZ (jk B (pv 2) (pv 3) (λ_ _=>rfl)) ah)),pv 0⟩))),?_⟩
 refine⟨m,r,_,Κ,j.1,Κ,m,r,_,_,A,_,_,Κ,j,by grind,λG O U X=>?_⟩
 rw[FE]
 have b:=U.new (o:=.π (nV (i9 i p))) X
 have x:=aX G O (.π (nV (i9 i p)))
 generalize ο G O _=I at b x⊢
 have M6:=Cy i p
 refine⟨O,Κ,⟨_,HC.of x⟩,ig (λv=>jZ fs d (i.getD (vN v) (0,0)).2) (λv=>v) (by rw[ϊ,aw];lia) (HC.of x) ?_ ?_⟩
 ·intro v acc N Y a
  obtain⟨k,Z,rfl⟩:=Aj Y
  obtain⟨e,he1,PX⟩:=FF Z
  have ek:vN (V.int (k:Int))=k:=Τ k
  rw[ek,PX]at a
  have a:=a
  have J:=zo (pf b u) p
  rw[S]at J
  refine⟨z,Κ,.inl ⟨_,pf b u⟩,m,r,_,Κ,b _ _ j.1,Κ,m,r,_,_,A,_,k,zp (p,e),Κ,⟨b _ _ j.1,b _ _ j.2.1,HW.same b j.2.2⟩,by grind,_,zo (pf b u) e,z,_,Κ,J,_,_,Κ,Κ,?_⟩
  unfold jZ at a
  cases l:lk fs e with
  | none =>
   rw[l]at a
   refine⟨Κ,_,Κ,?_⟩
   exact au a
  | some y =>
   rw[l]at a
   refine⟨Κ,_,Κ,?_⟩
   show(if decide (V.int (y:Int)=V.int ((d:Int) - 1))=Γ then _ else _)
   by_cases hd:y+1=d
   ·have a:N (if decide (y+1=d)=Γ then acc++[V.int (k:Int)] else acc) I:=a
    rw[Ε hd,Θ Κ]at a
    rw[Ε (by grind)]
    exact az (a)
   grind
 ·intro D M
  rw[jY]
  exact q D _ (b.new M) (b.free M) ae
structure wu where
 tab:Ο
 near:Ο
noncomputable def kk(p g:Nat):bo:=[Α (p:Int),Α (g:Int)]
theorem Mm:kk p g=kk p' g'↔p=p'/\g=g':=by
 unfold kk
 grind
noncomputable def xq(es fs:Es)(p:Nat):Option V:=(lk fs p).map λd=>V.int (Yd.Ic (dX es fs p d) 0:Nat)
def qd(n:Nat)(es:Es)(kvs:List eR)(G:Nat):Prop:=(∀g,g<G->∃fs,Hu n g fs/\∀p,cM kvs (kk p g)=xq es fs p)/\∀g,G<=g->∀p,cM kvs (kk p g)=Β
def B5(n:Nat)(es:Es)(kvs:List eR)(G:Nat)(fs:Es)(j:Nat):Prop:=(∀g,g<G->∃fs,Hu n g fs/\∀p,cM kvs (kk p g)=xq es fs p)/\(∀p,cM kvs (kk p G)=if p∈(fs.take j).map (·.1) then xq es fs p else Β)/\∀g,G<g->∀p,cM kvs (kk p g)=Β
theorem xp(h:qd n es kvs G):B5 n es kvs G fs 0:=
 ⟨h.1,λp=>by rw[h.2 G (Ξ _) p,Η (by simp)],λg a p=>h.2 g (by lia) p⟩
theorem DB(f:Hu n G fs)(h:B5 n es kvs G fs fs.length):qd n es kvs (G+1):=by
 refine⟨λg c=>?_,λg c p=>h.2.2 g (by lia) p⟩
 rcases ă g G with b|b
 ·exact h.1 g b
 ·have e:g=G:=by lia
  subst e
  refine⟨_,f,λp=>?_⟩
  rw[h.2.1 p,Æ]
  by_cases a:p∈fs.map (·.1)
  ·rw[Θ a]
  ·rw[Η a];unfold xq;rw[Lm.mpr a];rfl
theorem AQ(i:(fs.map (·.1)).Nodup)(c:fs[j]?=Α (p,d))(h:B5 n es kvs G fs j):
  B5 n es (gK kvs (kk p G) b (.int (Yd.Ic (dX es fs p d) 0:Nat))) G fs (j+1):=by
 have l:=pC i (Ψ c)
 refine⟨λg f=>?_,λa=>?_,λg f a=>?_⟩
 ·obtain⟨m,o,q⟩:=h.1 g f
  refine⟨m,o,λa=>?_⟩
  rw[iV,Η (λz=>by have:=(Mm.mp z).2;lia),q a]
 ·rw[iV]
  by_cases e:a=p
  ·subst e
   rw[Θ Κ,Θ (by rw[Ì,c,Ϥ];grind)]
   unfold xq;rw[l];rfl
  ·rw[Η (λz=>e (Mm.mp z).1),h.2.1 a,Ì,c,Ϥ]
   grind
 ·rw[iV,Η (λz=>by have:=(Mm.mp z).2;lia),h.2.2 g f a]
def Eg(P:Program)(w:Å)(H:Hp)(ts:wu)(x dx:Ο)(lx:Ο)(de:Ο)(kvs:List eR):Prop:=H x=Α (.ρ ts.near dx [("land",.ref lx),("entries",.ref de)])/\ID P w H de kvs
inductive yu(P:Program)(w:Å)(c:Cs)(ts:wu)(vs:List V)(H:Hp)(Q:VK)(E:XK):Prop
 |mk (x dx lx HJ lt:Ο) (HE:List V) (n:Nat) (es:Es) (_:vs=[.ref x,.ref lx]) (_:H x=Α (.ρ ts.near dx [])) (_:cK H c lx HJ lt (n:Int) HE (es.map zp)) (_:XW n es) (_:es.length<=100) (_:n<=100) (_:∀H' de kvs,Off x H H'->Eg P w H' ts x dx lx de kvs->qd n es kvs n->Q .HU H')
structure TbN(K:ϧ)(mg:Str->Option Φ)(ts:wu)(f1:Ο)(d1:Đ):Prop where
 cl:Km K ts.near
 n1:HL K ts.near "land"
 n2:HL K ts.near "entries"
 mt:mg "Table"=Α (.ref ts.tab)
 cm:B6 K ts.tab "__init__" f1
 bt:Binds K d1 xG []
abbrev NNr:List Str:=["self","land","goal","far","place"]
theorem Pm:aq NNr xG (ag yX):=bM
theorem CL(F:HZ K "__init__" "Nearer.__init__" yX f fd)(T:dz mg)(L:i3 K c)(B:TbN K mg ts ft dt)(G1:HB P w K mg μ aK 1 ft dt xG (ye K))
  (Gh:Ca P w K mg μ "how_far" 2 ["land","goal"] (Ey c))
  (Gn:Ca P w K mg μ "nearer_lanes" 2 uw (Vv c))
  (Gs:Ca P w K mg μ "set_of" 1 qa (yh K)):
  HB P w K mg μ aK 3 f fd xG (yu P w c ts):=by
 refine F.ok Pm λ_ _ _ s H _ Q E U h=>?_
 obtain⟨x,C,t,HJ,lt,HE,n,u,rfl,Z,hL,Kx,Q4,hn,q⟩:=h
 have hr1:Il 1 _:=U.mono (by decide)
 have hu:=ma U
 refine⟨_,ac (aF (qQ (fT (v:=.ref ts.tab) Κ B.mt Κ) B.cm G1 hr1 B.bt .nil cU (aa (pv 0) (aa (pv 1) ad))))
  (ac (bp (pv 0) (show PE _ _ (xW P w) from vt) Κ)
  (af (eI (aE Κ T.range (aa (aR (pv 1)) ad)) (b9 2 Pm.nd)
   (ac (bG 3 Pm.nd (bF Gh U (aa (pv 1) (aa (pv 2) ad))))
   (af (eI (kG (pv 3)) (b9 4 Pm.nd)
    (af (vm hu (aR (pv 0)) (aM (aa (pv 4) (aa (pv 2) ad))) (bF Gs U (aa (bF Gn U (aa (pv 1) (aa (pv 3) (aa (pv 4) ad)))) ad)) Κ)))))))),?_⟩
 refine⟨Κ,x,_,C,_,Κ,Z,B.cl,B.n1,?_⟩
 refine λl OX=>⟨x,ts.near,C,[("land",.ref t)],Κ,cf ae OX _,B.cl,B.n2,by grind,?_⟩
 have Qh:=ai ae OX
 have NP:H l=Β:=by rw[aj (ϗ Qh)]at OX;exact OX
 generalize NC:ο (ο (ο H x (.ρ ts.near C [("land",.ref t)])) l (mO P w l [])) x (.ρ ts.near C (aO "entries" (.ref l) [("land",.ref t)]))=H2
 have o2:Off x H H2:=λb o hb e=>by rw[←NC,aj hb,aj (ai e NP),aj hb];exact e
 have x2:H2 x=Α (.ρ ts.near C [("land",.ref t),("entries",.ref l)]):=by rw[←NC,ae];rfl
 have d2:ID P w H2 l []:=⟨by rw[←NC,aj (ϗ Qh),ae],λy X=>by cases X⟩
 have Ka:=Off.land o2 Z hL
 refine⟨t,_,_,_,_,Κ,Ka.1,L.cl,L.np,Κ,_,Κ,by lia,by lia,?_⟩
 rw[Τ]
 refine aS (n:=n) (λG I H3=>∃(a2 a3 J:Option V)(kvs:List eR),Off x H H3/\Eg P w H3 ts x C t l kvs/\kvs.length<=G* 100/\qd n u kvs G/\I=[Α (.ref x),Α (.ref t),a2,a3,J])
  ⟨Β,Β,Β,[],o2,⟨x2,d2⟩,ϡ _,⟨λg hg=>Ι hg (Ņ _),λg _ p=>rfl⟩,Κ⟩ ?_ ?_
 ·rintro G I H3 hG ⟨a2,a3,J,kvs,o3,n3,l3,e3,rfl⟩
  rw[Õ]
  have Le:=Off.land o3 Z hL
  refine⟨t,_,_,_,n,u,G,Κ,Le,Kx,Q4,hn,hG,λr m H4 s4 Ke M gfa=>?_⟩
  have Jj:m.length<=n:=by
   have:=dE n (m.map (·.1)) M.nd λy X=>by
    obtain⟨z,hz,rfl⟩:=Â.mp X
    exact M.lt z hz
   grind
  refine⟨r,_,Κ,gfa,λob=>?_⟩
  have Vy:=aX H4 r (.Jm ob (.dK (m.map fk)))
  have s5:Hz H3 (ο H4 r (.Jm ob (.dK (m.map fk)))):=s4.put Ke
  generalize ο H4 r _=H5 at Vy s5⊢
  have nfa:H r=Β∨r=x:=by
   by_cases h:r=x
   ·exact .inr h
   ·exact .inl (by cases e:H r with|none=>rfl|some o=>rw[o3 _ _ h e]at Ke;cases Ke)
  refine rG (a:=r) (o:=ob) (kvs:=m.map fk) (λj I N=>∃(J:Option V)(kvs:List eR),Off x H N/\Eg P w N ts x C t l kvs/\kvs.length<=G* 100+j/\B5 n u kvs G m j/\N r=Α (.Jm ob (.dK (m.map fk)))/\I=[Α (.ref x),Α (.ref t),Α (.int G),Α (.ref r),J])
   ⟨_,kvs,o3.same s5,⟨s5 _ _ n3.1,n3.2.same s5⟩,l3,xp e3,Vy,Κ⟩ (λj I N _ HD=>by obtain⟨_,_,_,_,_,_,R,_⟩:=HD;exact R) ?_ ?_
  ·rintro j k I N hk ⟨J,kvs,o6,Y,l6,e6,R,rfl⟩
   have hj:j<m.length:=by grind
   have A:=Λ hj
   generalize m[j]=pd at A
   obtain⟨p,d⟩:=pd
   have ek:k=ϫ (p:Int):=by
    rw[ώ,ώ,A]at hk
    exact(ϋ hk).symm
   subst ek
   rw[show kV (ϫ (p:Int))=V.int (p:Int) from Κ]
   have LD:=pC M.nd (Ψ A)
   have hL6:=Off.land o6 Z hL
   refine⟨t,_,_,r,_,n,u,m,G,p,d,Κ,hL6,Q4,.inr ⟨_,R⟩,M,LD,λO H7 s7 hO gO=>?_⟩
   refine⟨O,_,Κ,HC.of gO,λk hk=>by have:=vy hk;lia,?_⟩
   have n7x:=s7 _ _ Y.1
   refine⟨x,_,C,_,_,Κ,n7x,B.cl,B.n2,Κ,by show 2<=Χ;decide,λD hkt=>?_⟩
   have S:=s7.new (o:=.tup [.int p,.int G]) hkt
   have k8:(ο H7 D (.tup [.int p,.int G])) D=Α (.tup ((kk p G).map xI)):=ae
   generalize ο H7 D _=H8 at S k8⊢
   have d8:=Y.2.same S
   refine⟨l,_,_,D,Κ,d8,Κ,k8,by rw[ϊ];grind,?_⟩
   have nfd:r≠l:=λz=>by
    have h1:=S _ _ R
    rw[z,d8.1]at h1
    cases h1
   have Vz:∀b ks,H8 b=Α (.tup ks)->(ο H8 l (mO P w l (gK kvs (kk p G) D (.int (Yd.Ic (dX u m p d) 0:Nat))))) b=Α (.tup ks):=λb ks e=>by
    rw[aj (λz=>by rw[z,d8.1]at e;cases e)];exact e
   refine⟨_,_,λb o hb e=>?_,⟨?_,ae,n0 (F:=λk a=>(ο H8 l (mO P w l (gK kvs (kk p G) D (.int (Yd.Ic (dX u m p d) 0:Nat))))) a=Α (.tup (k.map xI))) (λy X=>Vz _ _ (d8.2 y X)) (Vz _ _ k8)⟩,?_,AQ M.nd A e6,?_,Κ⟩
   ·rw[aj (ai e NP)];exact S _ _ (o6 _ _ hb e)
   ·rw[aj Qh];exact S _ _ Y.1
   ·have:=gJ (kvs:=kvs) (k:=kk p G) (b:=D) (v:=.int (Yd.Ic (dX u m p d) 0:Nat));lia
   ·rw[aj nfd];exact S _ _ R
  ·rintro I N ⟨J,kvs,o6,Y,l6,e6,R,rfl⟩
   rw[Ρ]at l6 e6
   refine⟨_,_,_,_,o6,Y,?_,DB M e6,Κ⟩
   grind
 grind
noncomputable def kU(es fs:Es)(p:Nat):List Nat:=match lk fs p with
 |some d=>dX es fs p d
 |none=>[]
theorem kR(a fs:Es)(p:Nat):(kU a fs p).Pairwise (· < ·):=by
 unfold kU
 split
 ·exact wY _ _ _ _
 ·exact ŏ
theorem xO(h:k∈kU es fs p):k<es.length:=by
 unfold kU at h
 split at h
 ·exact vy h
 ·cases h
theorem Dq(h:ks.Pairwise (· < ·)):mN (Yd.Ic ks 0)=ks:=Ak (rc h)
noncomputable def V0(kvs:List eR):Wf:=λp g _=>mN (vN ((cM kvs (kk p g)).getD (.int 0)))
def S2(P:Program)(w:Å)(ts:wu):TJ:=λH x n wy=>∃(dx lx de:Ο)(kvs:List eR)(es:Es),Eg P w H ts x dx lx de kvs/\qd n es kvs n/\es.length<=100/\∀p g k,p<n->g<n->wy p g k=V0 kvs p g k
theorem oE(h:qd n es kvs n)(b:g<n)(p:Nat)(k:Option Nat):∃fs,Hu n g fs/\V0 kvs p g k=kU es fs p/\(cM kvs (kk p g)).getD (.int 0)=.int (Yd.Ic (kU es fs p) 0:Nat):=by
 obtain⟨fs,c,d⟩:=h.1 g b
 have a:(cM kvs (kk p g)).getD (.int 0)=.int (Yd.Ic (kU es fs p) 0:Nat):=by
  rw[d p]
  unfold xq kU
  cases lk fs p<;>rfl
 refine⟨_,c,?_,a⟩
 unfold V0
 rw[a]
 show mN (((Yd.Ic (kU es fs p) 0:Nat):Int)).toNat=_
 rw[Τ,Dq (kR es fs p)]
theorem EK(h:qd n es kvs n)(b:g<n)(a:z∈V0 kvs p g k):z<es.length:=by
 obtain⟨fs,_,e,_⟩:=oE h b p k
 rw[e]at a
 exact xO a
theorem S2.keep(h:S2 P w ts H x n wy)(k:HY H H'):S2 P w ts H' x n wy:=by
 obtain⟨b,c,d,a,e,⟨f,g,i⟩,j⟩:=h
 exact⟨b,c,d,a,e,⟨k _ _ f ϥ,k _ _ g ϥ,λy l=>k _ _ (i y l) ϥ⟩,j⟩
inductive uT(vs:List V)(H:Hp)(Q:VK)(E:XK):Prop
 |mk (n m:Nat) (c:Int) (_:vs=[.int n,.int m,.int c]) (_:2<=n) (_:n<=12) (_:m<=100) (_:∀(D:Ο)(HQ:List V)(es:Es)(H':Hp),Hz H H'->H D=Β->H' D=Α (.π HQ)->HW H' HQ (es.map zp)->XW n es->(∀e∈es,e.1≠e.2)->es.length=m->Q (.ref D) H')
abbrev NLn:List Str:=["_law_places","_law_amount","_law_cell","_law_lanes_here","_law_k","_law_draw","_law_start"]
theorem BT:aq eC eC (ag sP):=bM
theorem qU(F:HZ K "start_of" "Land.start_of" sP f fd)(L:i3 K c):HB P w K mg μ aK 1 f fd eC (gm c Ä):=by
 refine F.ok BT λ_ _ _ s H _ Q E m h=>?_
 obtain⟨x,a,t,n,o,p,k,r,rfl,⟨b,d,e⟩,g,q⟩:=h
 refine⟨_,af (ao (be HA (be HA (aR (pv 0)) (pv 1)) ah)),?_⟩
 obtain⟨v,i,u,rfl,l⟩:=HW.LZ e g
 refine⟨x,_,a,_,_,Κ,b,L.cl,L.nl,Κ,t,_,_,_,Κ,Κ,HF.of d,al i,u,_,0,_,Κ,Κ,HF.of l,al (j:=0) Κ,q⟩
theorem scWy:aq kn kn (ag yO):=bM
theorem zE(F:HZ K "ways" "Nearer.ways" yO f fd)(B:TbN K mg ts f1 d1)(l:Ca P w K mg μ "members" 2 ["some"] nn):HB P w K mg μ aK 3 f fd kn (dq (S2 P w ts)):=by
 refine F.ok scWy λ_ _ _ s H _ Q E e h=>?_
 obtain⟨x,n,I,p,g,k,rfl,⟨m,J,o,a,r,b,u,L,c⟩,v,i,q⟩:=h
 rw[c p g k v i]at q
 have y:=ma e
 refine⟨_,af (ao (bF l e (aa (qP y (aR (pv 0)) (aa (aM (aa (pv 1) (aa (pv 2) ad))) (aa ah ad))) ad))),x,_,m,_,_,Κ,b.1,B.cl,B.n2,Κ,o,a,Κ,b.2,by show 2<=Χ;decide,λt z=>?_⟩
 have d:Hz H (ο H t (.tup [.int p,.int g])):=(Hz.refl H).new z
 refine⟨_,_,_,Κ,⟨a,kk p g,t,b.2.same d,Κ,ae,Κ⟩,?_⟩
 obtain⟨fs,M,A,C⟩:=oE u i p k
 rw[C]
 refine⟨_,Κ,Ϝ (yK λk G=>xO G) (ç (by decide) (by lia)),λD j=>?_⟩
 exact q D _ (d.new j) (d.free j) (by rw[ae,rc (kR r fs p),A])
theorem Oe:aq NLn DY (ag sU):=bM
theorem zR(F:HZ K "_law_lanes" "_law_lanes" sU f fd)(T:dz mg)(Gm:Ca P w K mg μ "_law_mixed" 1 ux qt):HB P w K mg μ aK 2 f fd DY uT:=by
 refine F.ok Oe λ_ _ _ s H _ Q E hr h=>?_
 obtain⟨n,m,c,rfl,Nk,Rj,hm,q⟩:=h
 refine⟨_,ac (bG 3 Oe.nd (aJ ad))
  (ac (eI (aE Κ T.range (aa (pv 1) ad)) (b9 4 Oe.nd)
   (ac (bG 5 Oe.nd (bF Gm hr (aa (pv 2) (aa (pv 4) ad))))
   (ac (bG 6 Oe.nd (aA bQ (pv 5) (pv 0)))
   (af (aF (ck plainAttrs_list PySem.F.slot_list_append PySem.F.type_list_append bq (pv 3) (aa (aM (aa (pv 6) (aa (aA bQ (aA cQ (aA cQ (pv 6) ah) (aA bQ (aA fU (pv 5) ah) (aA cZ (pv 0) ah))) (pv 0)) ad))) ad)))))))
  (af (ao (pv 3)))),?_⟩
 have two:(2:Nat)<=Χ:=by decide
 refine⟨ϡ _,λD I=>?_⟩
 have s0:=(Hz.refl H).new (o:=.π []) I
 refine⟨_,Κ,by lia,by lia,?_⟩
 rw[Τ]
 refine aS (n:=m) (λi J a=>∃(L M N:Option V)(r:List V)(g:Es),Hz H a/\a D=Α (.π r)/\HW a r (g.map zp)/\XW n g/\(∀e∈g,e.1≠e.2)/\g.length=i/\J=[Α (.int n),Α (.int m),Α (.int c),Α (.ref D),L,M,N])
  ⟨Β,Β,Β,[],[],s0,ae,.nil,(λe j=>by cases j),(λe j=>by cases j),Κ,Κ⟩ ?_ ?_
 ·rintro i J a hi ⟨L,M,N,r,g,O,x,B,R,S,U,rfl⟩
  have C:(0:Int)<(n:Int):=by lia
  have y:(0:Int)<(n:Int) - 1:=by lia
  rw[Õ]
  refine⟨c,i,Κ,by lia,λd hd=>?_⟩
  refine⟨_,_,Κ,Κ,C,.inl ⟨Κ,_,HC.of x⟩,_,_,Κ,Κ,_,_,Κ,Κ,⟨by decide,by decide⟩,_,_,Κ,Κ,_,_,Κ,Κ,y,_,_,Κ,Κ,_,_,Κ,Κ,C,two,λA v=>?_⟩
  dsimp only at v⊢
  have e1:=Į d (show (n:Int)≠0 by lia)
  have e2:=Ĕ d C
  have e3:=Į (d / 16) (show (n:Int) - 1≠0 by lia)
  have e4:=Ĕ (d / 16) y
  generalize d% (n:Int)=st at e1 e2 v⊢
  generalize d / 16% ((n:Int) - 1)=l at e3 e4 v⊢
  have e5:=Į (st+1+l) (show (n:Int)≠0 by lia)
  have e6:=Ĕ (st+1+l) C
  have e7:(st+1+l)% (n:Int)≠st:=by
   intro z
   rcases Int.lt_or_le (st+1+l) (n:Int) with h|h
   ·rw[Ul (by lia) h]at z;lia
   ·have:(st+1+l)% (n:Int)=st+1+l - n:=by
     rw[show st+1+l=(st+1+l - n)+n by lia,Int.add_emod_right,Ul (by lia) (by lia)];lia
    lia
  generalize (st+1+l)% (n:Int)=X at e5 e6 e7 v⊢
  obtain⟨t,O1,hs'n⟩:∃t:Nat,st=(t:Int)/\t<n:=⟨st.toNat,by lia,by lia⟩
  obtain⟨u,YY,hn'n⟩:∃u:Nat,X=(u:Int)/\u<n:=⟨X.toNat,by lia,by lia⟩
  subst O1 YY
  have G:=(Hz.refl a).new (o:=.tup [.int (t:Int),.int (u:Int)]) v
  have Y:=aX a A (.tup [.int (t:Int),.int (u:Int)])
  have nT:=ϗ (ai x v)
  generalize ο a A _=H3 at G Y⊢
  have Z:=G _ _ x
  have Kt:r.length=g.length:=by rw[Paired.length B,Ρ]
  refine⟨D,r,_,Κ,Κ,Z,by rw[ϊ];lia,_,_,_,_,g++[(t,u)],λb o e=>by rw[aj (ai e I)];exact G _ _ (O _ _ e),ae,?_,λe j=>?_,λe j=>?_,by grind,Κ⟩
  ·rw[Ϥ]
   exact HW.snoc (p:=zp (t,u)) ⟨A,Κ,aI nT Y _⟩ (vE Z (HW.same G B))
  ·rcases Á.mp j with j|j
   ·exact R e j
   grind
  grind
 ·rintro J a ⟨L,M,N,r,g,O,x,B,R,S,U,rfl⟩
  exact(q D r g a O I x B R S U)
noncomputable def zm(r:Rw):Nat:=(r.p.toNat* 100+r.g.toNat)* 100+DE r.c
theorem GE(h:aP a=aP b):zm a=zm b:=by
 unfold aP at h
 injection h with e d
 injection d with d f
 injection f with f _
 injection e with e
 injection d with d
 have i:a.c=b.c:=by
  cases j:a.c with
  | none=>cases g:b.c with
   |none=>rfl
   |some k=>grind
  | some k=>cases g:b.c with
   |none=>grind
   | some l =>
    grind
 unfold zm
 grind
structure MJ(n:Nat)(ps:IPs)(B:Nat)(rs:List Rw):Prop where
 sort:(rs.map zm).Pairwise (· < ·)
 low:∀r∈rs,zm r<B
 fit:∀r∈rs,eY n ps r=Γ
 few:∀r∈rs,r.s.length<=40
theorem MJ.up(h:MJ n ps B rs)(l:B<=B'):MJ n ps B' rs:=⟨h.sort,λr a=>Ϝ (h.low r a) l,h.fit,h.few⟩
theorem MJ.snoc(h:MJ n ps B rs)(c:B<=zm r)(d:eY n ps r=Γ)(e:r.s.length<=40):MJ n ps (zm r+1) (rs++[r]):=by
 refine⟨?_,λx a=>?_,λx a=>?_,λx a=>?_⟩
 ·rw[Ϥ,eu]
  refine⟨h.sort,by simp,λx a y b=>?_⟩
  obtain⟨f,g,rfl⟩:=Â.mp a
  have b:y=zm r:=by simpa using b
  rw[b]
  exact Ϝ (h.low f g) c
 ·rcases Á.mp a with a|a
  ·have:=h.low x a;lia
  ·rw[ϙ.mp a];lia
 ·rcases Á.mp a with a|a
  ·exact h.fit x a
  ·rw[ϙ.mp a];exact d
 ·rcases Á.mp a with a|a
  ·exact h.few x a
  ·rw[ϙ.mp a];exact e
theorem MJ.good(h:MJ n ps B rs):eA n ps rs rs.length=Β:=by
 refine iC λk c=>?_
 have g:=Λ c
 have d:rs.getD k ⟨0,0,Β,[]⟩=rs[k]:=by rw[Ω,g];rfl
 rw[d,m8,h.fit _ (ã c)]
 have b:((rs.take k).any λa=>decide (aP a=aP rs[k]))=Δ:=by
  rw[Tx]
  intro a i l
  have e:=GE (of_decide_eq_true l)
  obtain⟨j,o,m⟩:=ic.mp i
  have f:j<k:=by lia
  have:=hX.mp h.sort j k (by rw[Ρ];lia) (by rw[Ρ];exact c) f
  rw[ka,ka,m]at this
  lia
 rw[b];rfl
theorem MJ.len(h:MJ n ps B rs):rs.length<=B:=by
 have:=dN B (rs.map zm) (h.sort.imp λh=>ϳ h) λx a=>by
  obtain⟨r,b,rfl⟩:=Â.mp a
  exact h.low r b
 rw[Ρ]at this
 exact this
noncomputable def lim(xs:List Nat)(t:Nat):Nat:=if t=0 then 0 else xs.getD (t - 1) 0+1
theorem GB(c:xs.Pairwise (· < ·))(h:xs[t]?=Α p):lim xs t<=p:=by
 unfold lim
 by_cases a:t=0
 ·rw[Θ a];lia
 ·rw[Η a]
  obtain⟨d,e⟩:=ϝ.mp h
  have b:=hX.mp c (t - 1) t (by lia) d (by lia)
  rw[Ω,Λ (by lia)]
  rw[e]at b
  exact b
theorem Ax(h:xs[t]?=Α p):lim xs (t+1)=p+1:=by
 unfold lim
 rw[Η (by lia),Nat.add_sub_cancel,Ω,h];rfl
theorem Dv(h:∀p∈xs,p<100):lim xs xs.length<=100:=by
 unfold lim
 by_cases a:xs.length=0
 ·grind
 ·rw[Η a,Ω,Λ (show xs.length - 1<xs.length by lia)]
  exact h _ (ã _)
noncomputable def ci(ps:IPs)(p:Nat):List (Option Nat):=Β:: (ia Î ps (p:Int)).map Α
theorem DF(a:IPs)(p:Nat):[V.HU]++c8 (ia Î a (p:Int))=(ci a p).map cV:=by
 unfold ci c8
 rw[È,Ú];rfl
theorem ug(c:IPs)(p:Nat):((ci c p).map DE).Pairwise (· < ·):=by
 unfold ci
 rw[È,Ú,Q8]
 refine⟨λx d=>?_,?_⟩
 ·obtain⟨k,_,rfl⟩:=Â.mp d
  show 0<k+1
  lia
 ·refine E1 _ (λa b h=>?_) (Č _ A2)
  show a+1<b+1
  lia
theorem om(h:cc∈ci ps p):DE cc<=ps.length/\∀k,cc=Α k->k∈ia Î ps (p:Int):=by
 rcases À.mp h with rfl|h
 ·exact⟨ϡ _,λk e=>by cases e⟩
 ·obtain⟨k,a,rfl⟩:=Â.mp h
  refine⟨?_,λb e=>by grind⟩
  have:=Ϩ.mp (Ϫ.mp a).1
  show k+1<=_
  lia
inductive yj(vs:List V)(H:Hp)(Q:VK)(E:XK):Prop
 |mk (l:Ο) (HQ:List V) (ps:IPs) (n:Nat) (cl:Int) (_:vs=[.int n,.ref l,.int cl]) (_:H l=Α (.π HQ)) (_:HW H HQ ps) (_:(∀p∈ps,iK n p=Γ)) (_:ps.length<=10) (_:2<=n) (_:n<=5) (_:∀(D:Ο)(HX:List V)(rs:List Rw)(H':Hp),Hz H H'->H D=Β->H' D=Α (.π HX)->Md H' HX rs->MJ n ps 50000 rs->Q (.ref D) H')
abbrev Yb:List Str:=["_law_places","_law_lanes_here","_law_cell","_law_rows_here","_law_place","_law_out","_law_cames","_law_goal","_law_came","_law_draw","_law_ways"]
noncomputable def Hg(s:ϩ):Scope:=match s with
 |.Assign _ (.BinOp _ _ (.ListComp _ _ sc _) _) _=>sc
 |_=>zQ0
noncomputable def pz:List ϩ:=jO (iL (aB lp) 1)
noncomputable def Dz:List ϩ:=jO (iL (jO (iL pz 2)) 0)
theorem JG:aq Yb DX (ag lp):=bM
theorem V1:IP Yb (ag lp) (pX (iL pz 0)) ["_law_lanes_here","_law_place"] [1,4]:=_L2.Jv
theorem V2:IP Yb (ag lp) (Hg (iL pz 1)) ["_law_lanes_here","_law_place"] [1,4]:=_L2.Jv
theorem V3:IP Yb (ag lp) (pX (iL Dz 1)) ["_law_draw"] [9]:=_L2.Jv
theorem EA:(["_law_lane","_law_lanes_here","_law_place"]:List Str).Nodup:=by decide +kernel
theorem V4:(["_law_lane","_law_draw"]:List Str).Nodup:=by decide +kernel
theorem C9(F:HZ K "_law_rows" "_law_rows" lp f fd)(T:dz mg)(Gm:Ca P w K mg μ "_law_mixed" 1 ux qt):
  HB P w K mg μ aK 2 f fd DX yj:=by
 refine F.ok JG λ_ _ _ s H _ Q E X h=>?_
 obtain⟨l,HQ,ps,n,cl,rfl,gl,NQ,HK,hpl,Nk,V5,q⟩:=h
 refine⟨_,ac (bG 3 JG.nd (aJ ad))
  (ac (eI (aE Κ T.range (aa (pv 0) ad)) (jj (i:=4) JG.nd Κ (ń Κ))
   (ac (bU (i:=5) (own:=["_law_lane"]) (capN:=["_law_lanes_here","_law_place"]) (cap:=[1,4]) V1 Κ JG.nd Κ Κ (aE Κ T.range (aa (gq T.len (pv 1)) ad))
    (λC s' H' fp=>⟨b9 0 EA,c7 (bJ br (be (show JQ _ (ki K) from HA) (be (show JQ _ (qO K) from HN) (pv 1) (pv 0)) ah) (pv 2)),pv 0⟩))
   (ac (bG 6 JG.nd (aA tH (aJ (aa aT ad)) (aZ (own:=["_law_lane"]) (capN:=["_law_lanes_here","_law_place"]) (cap:=[1,4]) V2 Κ (aE Κ T.range (aa (gq T.len (pv 1)) ad))
    (λC s' H' fp=>⟨b9 0 EA,c7 (bJ br (be (show JQ _ (ki K) from HA) (be (show JQ _ (qO K) from HN) (pv 1) (pv 0)) ah) (pv 2)),pv 0⟩))))
   (af (eI (aE Κ T.range (aa (pv 0) ad)) (b9 7 JG.nd)
    (af (eI (aL (pv 6)) (b9 8 JG.nd)
     (ac (fR (i:=9) JG.nd Κ (ń Κ) (bF Gm X (aa (pv 2) (aa (gq T.len (pv 3)) ad))))
     (ac (bU (i:=10) (own:=["_law_lane"]) (capN:=["_law_draw"]) (cap:=[9]) V3 Κ JG.nd Κ Κ (aL (pv 5))
      (λC s' H' fp=>⟨b9 0 V4,c7 (PW.pt (c9 (bJ br (aA tI (aA p5 (pv 1) (aA cQ ah (pv 0))) ah) ah) (bT (bJ br (aA bQ (pv 1) ah) ah)))),pv 0⟩))
     (af (aC (bJ dc (pv 4) (pv 7))
      (af (aF (ck plainAttrs_list PySem.F.slot_list_append PySem.F.type_list_append bq (pv 3) (aa (aM (aa (pv 4) (aa (pv 7) (aa (pv 8) (aa (pv 10) ad))))) ad)))) ar)))))))))))
  (af (ao (pv 3)))),?_⟩
 have Kt:=Paired.length NQ
 refine⟨ϡ _,λD hD=>?_⟩
 have s0:=(Hz.refl H).new (o:=.π []) hD
 have g0:=aX H D (.π [])
 generalize ο H D _=H0 at s0 g0⊢
 refine⟨_,Κ,by lia,by lia,?_⟩
 rw[Τ]
 refine aS (n:=n) (λi G J=>∃(a4 a5 a6 Y L M O:Option V)(t:List V)(y:List Rw),Hz H J/\J D=Α (.π t)/\KC D J t y/\MJ n ps (i* 10000) y/\G=[Α (.int n),Α (.ref l),Α (.int cl),Α (.ref D),a4,a5,a6,Y,L,M,O])
  ⟨Β,Β,Β,Β,Β,Β,Β,[],[],s0,g0,.nil,⟨ŏ,(λr X=>by cases X),(λr X=>by cases X),(λr X=>by cases X)⟩,Κ⟩ ?_ ?_
 rotate_left
 ·rintro G J ⟨a4,a5,a6,Y,L,M,O,t,y,Z,g2,hR,hO,rfl⟩
  exact(q D t y J Z hD g2 hR.rws (hO.up (by lia)))
 rintro p G J hpn ⟨a4,a5,a6,Y,L,M,O,t,y,Z,g2,hR,hO,rfl⟩
 rw[Õ]
 have pick:∀(sel:Int×Int->Int)(j:Nat)(Hx:Hp)(sx:Hz H Hx)(σ0:St),True:=λ_ _ _ _ _=>ϥ
 refine⟨l,_,Κ,.inl (HC.of (Z _ _ gl)),_,Κ,by omega,by omega,?_⟩
 rw[Τ,Kt]
 refine wj (sel:=Ä) (ps:=ps) (pl:=(p:Int)) (by rw[ϊ];omega) (λz acc N pr hpr h=>?_) (λOu hOu=>?_)
 ·obtain⟨v,hv,u,rfl,gu⟩:=HW.LZ NQ hpr
  refine⟨l,_,_,_,Κ,Κ,HC.of (Z _ _ gl),al hv,u,_,0,_,Κ,Κ,HF.of (Z _ _ gu),al (j:=0) Κ,Κ,_,Κ,?_⟩
  rw[bR]
  cases hb:decide (pr.1=(p:Int)) with
  | true =>
   have LW:=hb
   rw[LW]at h
   exact az (h)
  | false =>
   grind
 have Nz:∀sel:Int×Int->Int,(ia sel ps (p:Int)).length<=10:=λsel=>by
  have:=ē (λk=>decide (sel (ps.getD k (0,0))=(p:Int))) (Υ ps.length)
  rw[ě]at this
  unfold ia
  omega
 have u1:=(Hz.refl J).new (o:=.π (c8 (ia Ä ps (p:Int)))) hOu
 have gO:=aX J Ou (.π (c8 (ia Ä ps (p:Int))))
 have nO:Ou≠D:=ϗ (ai g2 hOu)
 show cr 5 (V.ref Ou) _ (ο J Ou (.π (c8 (ia Ä ps (p:Int))))) _
 generalize ο J Ou _=H3 at u1 gO⊢
 have s3:=Z.trans u1
 refine⟨by show 1<=Χ;decide,λo1 V6=>?_⟩
 have u2:=(Hz.refl H3).new (o:=.π [.HU]) V6
 have go1:=aX H3 o1 (.π [.HU])
 generalize ο H3 o1 _=H4 at u2 go1⊢
 have s4:=s3.trans u2
 refine⟨l,_,Κ,.inl (HC.of (s4 _ _ gl)),_,Κ,by omega,by omega,?_⟩
 rw[Τ,Kt]
 refine wj (sel:=Î) (ps:=ps) (pl:=(p:Int)) (by rw[ϊ];omega) (λz acc N pr hpr h=>?_) (λo2 KJ=>?_)
 ·obtain⟨v,hv,u,rfl,gu⟩:=HW.LZ NQ hpr
  refine⟨l,_,_,_,Κ,Κ,HC.of (s4 _ _ gl),al hv,u,_,1,_,Κ,Κ,HF.of (s4 _ _ gu),al (j:=1) Κ,Κ,_,Κ,?_⟩
  rw[bR]
  cases hb:decide (pr.2=(p:Int)) with
  | true =>
   have LW:decide (Î pr=(p:Int))=Γ:=hb
   rw[LW]at h
   exact az (h)
  | false =>
   grind
 have u3:=(Hz.refl H4).new (o:=.π (c8 (ia Î ps (p:Int)))) KJ
 have go2:=aX H4 o2 (.π (c8 (ia Î ps (p:Int))))
 have V7:=cf go1 KJ (.π (c8 (ia Î ps (p:Int))))
 generalize ο H4 o2 _=H5 at u3 go2 V7⊢
 have Rh:=Nz Î
 refine⟨_,_,_,_,Κ,Κ,V7,go2,by unfold c8;rw[Ρ,ϊ];grind,λC hC=>?_⟩
 rw[DF]
 have u4:=(Hz.refl H5).new (o:=.π ((ci ps p).map cV)) hC
 have gC:=aX H5 C (.π ((ci ps p).map cV))
 have s25:Hz J H5:=u1.trans (u2.trans u3)
 have nC:C≠D:=ϗ (ai (s25 _ _ g2) hC)
 show cr 6 (V.ref C) _ (ο H5 C (.π ((ci ps p).map cV))) _
 generalize ο H5 C _=H6 at u4 gC⊢
 have s26:=s25.trans u4
 have V8:=u4 _ _ (u3 _ _ (u2 _ _ gO))
 refine⟨_,Κ,by omega,by omega,?_⟩
 rw[Τ]
 refine aS (n:=n) (λi G H7=>∃(Y L M O:Option V)(t:List V)(y:List Rw),Hz H H7/\H7 D=Α (.π t)/\H7 Ou=Α (.π (c8 (ia Ä ps (p:Int))))/\H7 C=Α (.π ((ci ps p).map cV))/\KC D H7 t y/\MJ n ps ((p* 100+i)* 100) y/\G=[Α (.int n),Α (.ref l),Α (.int cl),Α (.ref D),Α (.int (p:Int)),Α (.ref Ou),Α (.ref C),Y,L,M,O])
  ⟨_,_,_,_,t,y,Z.trans s26,s26 _ _ g2,V8,gC,hR.same s26,hO.up (by omega),Κ⟩ ?_ ?_
 rotate_left
 ·rintro G H7 ⟨Y,L,M,O,t,y,s7,g7,_,_,hR7,hO7,rfl⟩
  exact⟨_,_,_,_,_,_,_,t,y,s7,g7,hR7,hO7.up (by omega),Κ⟩
 rintro i G H7 hi ⟨Y,L,M,O,t,y,s7,g7,Q9,gC7,hR7,hO7,rfl⟩
 rw[Õ]
 refine⟨C,Κ,⟨_,HC.of gC7⟩,?_⟩
 have Nn:((ci ps p).map cV).length=(ci ps p).length:=Ρ ..
 refine b8 (K:=K) (a:=C) (xs:=(ci ps p).map cV) (λj G Hb=>∃(L M O:Option V)(t:List V)(y:List Rw),Hz H Hb/\Hb D=Α (.π t)/\Hb Ou=Α (.π (c8 (ia Ä ps (p:Int))))/\Hb C=Α (.π ((ci ps p).map cV))/\KC D Hb t y/\MJ n ps ((p* 100+i)* 100+lim ((ci ps p).map DE) j) y/\G=[Α (.int n),Α (.ref l),Α (.int cl),Α (.ref D),Α (.int (p:Int)),Α (.ref Ou),Α (.ref C),Α (.int (i:Int)),L,M,O])
  ⟨_,_,_,t,y,s7,g7,Q9,gC7,hR7,hO7.up (by omega),Κ⟩ (λj G Hb _ HD=>by obtain⟨_,_,_,_,_,_,_,_,g,_⟩:=HD;exact HC.of g) ?_ ?_
 rotate_left
 ·rintro G Hb ⟨L,M,O,t,y,sb,gb,RE,Yc,Nd,S3,rfl⟩
  rw[Nn,←Ρ (f:=DE) (as:=ci ps p)]at S3
  have:=Dv (xs:=(ci ps p).map DE) λx hx=>by
   obtain⟨cc,Oy,rfl⟩:=Â.mp hx
   have:=(om Oy).1
   omega
  exact⟨_,_,_,_,t,y,sb,gb,RE,Yc,Nd,S3.up (by omega),Κ⟩
 rintro j v G Hb hv ⟨L,M,O,t,y,sb,gb,RE,Yc,Nd,S3,rfl⟩
 obtain⟨cc,hcj,rfl⟩:∃cc,(ci ps p)[j]?=Α cc/\cV cc=v:=by
  grind
 obtain⟨hcl2,hcin⟩:=om (Ψ hcj)
 have V9:((ci ps p).map DE)[j]?=Α (DE cc):=by grind
 have hlp:=GB (ug ps p) V9
 have hls:=Ax V9
 have Lh:t.length=y.length:=Paired.length Nd
 have hrm:=S3.len
 refine⟨D,_,Κ,.inl (HC.of gb),_,_,Κ,by omega,λd hd=>?_⟩
 obtain⟨m,rfl⟩:∃m:Nat,d=(m:Int):=⟨d.toNat,by omega⟩
 generalize hout:ia Ä ps (p:Int)=out at RE⊢
 have M6:out.length<=10:=by grind
 refine⟨_,Κ,⟨_,HC.of RE⟩,?_⟩
 refine oh (λk=>m.testBit (3+k)||decide ((m:Int)% 3=0)) (by rw[ϊ];omega) (HC.of RE) (λk acc N hk h=>?_) (λWa hWa=>?_)
 ·refine⟨_,_,Κ,Κ,_,_,Κ,Κ,(show (0:Int)<=3+(k:Int) by omega),_,_,Κ,Κ,Κ,_,Κ,?_⟩
  dsimp only
  rw[show (3:Int)+(k:Int)=((3+k:Nat):Int) by omega,Vr]
  cases hb:m.testBit (3+k) with
  |true=>rw[hb,Bool.true_or]at h;exact az (az (h))
  | false =>
   rw[hb,ŭ]at h
   refine au ⟨_,_,Κ,Κ,(by grind),Κ,_,Κ,?_⟩
   rw[bR]
   cases Ye:decide ((m:Int)% 3=0) with
   |true=>rw[Ye]at h;exact az (h)
   |false=>grind
 generalize hus:(out.filter λk=>m.testBit (3+k)||decide ((m:Int)% 3=0))=us at hWa⊢
 have husl:us.length<=10:=by grind
 have husm:∀k∈us,k∈out:=λk hk=>by grind
 have u5:=(Hz.refl Hb).new (o:=.π (c8 us)) hWa
 have gW:=aX Hb Wa (.π (c8 us))
 have nW:Wa≠D:=ϗ (ai gb hWa)
 show cr 10 (V.ref Wa) _ (ο Hb Wa (.π (c8 us))) _
 generalize ο Hb Wa _=Hc at u5 gW⊢
 refine⟨Κ,_,Κ,?_⟩
 rw[bR]
 by_cases hpi:(p:Int)=(i:Int)
 ·rw[Ε hpi]
  exact au ⟨_,_,_,t,y,sb.trans u5,u5 _ _ gb,u5 _ _ RE,u5 _ _ Yc,Nd.same u5,S3.up (by omega),Κ⟩
 rw[Ζ hpi]
 refine az ⟨.inl ⟨Κ,_,HC.of (u5 _ _ gb)⟩,by show 4<=Χ;decide,λtt O0=>?_⟩
 have u6:=u5.new (o:=.tup [.int (p:Int),.int (i:Int),cV cc,.ref Wa]) O0
 have gT:=aX Hc tt (.tup [.int (p:Int),.int (i:Int),cV cc,.ref Wa])
 have gWc:=cf gW O0 (.tup [.int (p:Int),.int (i:Int),cV cc,.ref Wa])
 generalize ο Hc tt _=Hf at u6 gT gWc⊢
 have gDf:=u6 _ _ gb
 refine⟨D,t,_,Κ,Κ,gDf,by rw[ϊ];omega,?_⟩
 have hfit:eY n ps ⟨(p:Int),(i:Int),cc,us⟩=Γ:=by
  unfold eY
  have ho:iK n ((p:Int),(i:Int))=Γ:=by
   unfold iK
   simp only[Ù,decide_eq_true_eq,Ľ,decide_eq_false_iff_not]
   grind
  grind
 have erk:zm ⟨(p:Int),(i:Int),cc,us⟩=(p* 100+i)* 100+DE cc:=by
  unfold zm
  grind
 have hOn:=S3.snoc (r:=⟨(p:Int),(i:Int),cc,us⟩) (by grind) hfit (by grind)
 refine⟨_,_,_,_,_,λb o e=>by rw[aj (ai e hD)];exact u6 _ _ (sb _ _ e),ae,?_,?_,?_,hOn.up (by grind),Κ⟩
 ·rw[aj nO];exact u6 _ _ RE
 ·rw[aj nC];exact u6 _ _ Yc
 ·have hRf:=KC.snoc (r:=⟨(p:Int),(i:Int),cc,us⟩) ⟨tt,Wa,Κ,⟨gT,gWc⟩,nW⟩ (Nd.same u6)
  exact KC.off gDf hRf
noncomputable def eqC1(s:ϩ):Scope:=match s with
 |.Return (Α (.Compare (.Call _ [.ListComp _ _ sc _] _ _) _ _ _)) _=>sc
 |_=>zQ0
noncomputable def eqC2(s:ϩ):Scope:=match s with
 |.Return (Α (.Compare _ _ [.Call _ [.ListComp _ _ sc _] _ _] _)) _=>sc
 |_=>zQ0
inductive kB(K:ϧ)(ys:Ys)(vs:List V)(H:Hp)(Q:VK)(E:XK):Prop
 |mk (y dy tb ro la le li dn:Ο) (s:YS) (_:vs=[.ref y]) (_:HV K ys H y dy tb ro la le li dn s) (_:s.Hw.length<=900) (_:s.ε.length<=900) (_:∀H',Hz H H'->Q (.bl (rL s)) H')
theorem scEd:aq gj gj (ag iH):=bM
theorem bkE1:IP gj (ag iH) (eqC1 ((aB iH).getD 0 (.Pass ⟨0,0,0,0⟩))) [] []:=_L2.Jv
theorem bkE2:IP gj (ag iH) (eqC2 ((aB iH).getD 0 (.Pass ⟨0,0,0,0⟩))) [] []:=_L2.Jv
theorem ndE1:(["letter"]:List Str).Nodup:=by decide +kernel
theorem ndE2:(["pieces"]:List Str).Nodup:=by decide +kernel
theorem zY(F:HZ K "ended" "Yard.ended" iH f fd)(T:dz mg)(Y:mG K ys):HB P w K mg μ aK 1 f fd gj (kB K ys):=by
 refine F.ok scEd λ_ _ _ s H _ Q E hr h=>?_
 obtain⟨y,e,tb,ro,la,le,u,dn,st,rfl,a,h9,v,q⟩:=h
 refine⟨_,af (ao (vv br (aH (rW Κ) Κ T.sum ox (aa (aZ (own:=["letter"]) (capN:=[]) (cap:=[]) bkE1 Κ (aL (aR (pv 0))) (λC z A B=>⟨b9 0 ndE1,bu,(show PE _ _ (oK K (oJ 0) "length") from aR (pv 0))⟩)) ad))
  (aH (rW Κ) Κ T.sum ox (aa (aZ (own:=["pieces"]) (capN:=[]) (cap:=[]) bkE2 Κ (aL (aR (pv 0))) (λC z A B=>⟨b9 0 ndE2,bu,aH (show c5 _ (.builtin "len") (rLen K) from dg) Κ T.len PySem.boot_len (aa (pv 0) ad)⟩)) ad)) (tL _))),?_⟩
 obtain⟨G,g,j⟩:=a.χ
 have I:=Paired.length j
 refine⟨y,_,e,_,_,Κ,a.ρ,Y.cl,Y.n4,Κ,_,Κ,⟨_,HC.of g⟩,?_⟩
 refine oi (λi =>.int (st.Hw.getD i ⟨0,0,0,0,0,[]⟩).len) (by rw[ϊ];lia) (HC.of g) (λi x N b h=>?_) (λD J=>?_)
 ·obtain⟨lt,L,M,O,wa,rfl,R,_⟩:=Paired.at j b
  rw[Ω,L]at h
  exact⟨M,_,O,_,_,Κ,R,Y.ct,Y.t3,Κ,h⟩
 have S:(Υ G.length).map (λi=>V.int (st.Hw.getD i ⟨0,0,0,0,0,[]⟩).len)=(st.Hw.map (·.len)).map V.int:=by
  rw[I,Ú]
  exact l9 st.Hw _ λs=>V.int s.len
 rw[S]
 have c:=(Hz.refl H).new (o:=.π ((st.Hw.map (·.len)).map V.int)) J
 have l:=aX H D (.π ((st.Hw.map (·.len)).map V.int))
 generalize ο H D _=H1 at c l⊢
 refine⟨D,_,Κ,HC.of l,?_⟩
 have m:=a.same c
 obtain⟨U,n,p⟩:=m.Lv
 have d:=Paired.length p
 refine⟨y,_,e,_,_,Κ,m.ρ,Y.cl,Y.n5,Κ,u,Κ,⟨_,HC.of n⟩,?_⟩
 refine oi (λi =>.int ((st.ε.getD i []).length:Nat)) (by rw[ϊ];lia) (HC.of n) (λi x N b h=>?_) (λX Z=>?_)
 ·obtain⟨qs,KA,t,r,rfl,ht,hL⟩:=Paired.at p b
  rw[Ω,KA]at h
  have Nx:=Paired.length hL
  refine⟨t,r,Κ,.inr (HF.of ht),?_⟩
  rw[Nx]
  exact h
 have e2:(Υ U.length).map (λi=>V.int ((st.ε.getD i []).length:Nat))=(st.ε.map λq=>(q.length:Int)).map V.int:=by
  rw[d,Ú]
  exact l9 st.ε _ λq=>V.int (q.length:Nat)
 rw[e2]
 refine⟨X,_,Κ,HC.of ae,Κ,?_⟩
 rw[bC]
 exact q _ (c.new Z)
noncomputable def gx(m:Nat)(qs:IPs):List Int:=(qs.filter λq=>decide (q.1=(m:Int))).map (·.2)
noncomputable def kD(x y:Nat):List Int:=(Pe x (y - x)).map λz:Nat=>(z:Int)
theorem gc(m:Nat)(xs a:IPs):gx m (xs++a)=gx m xs++gx m a:=by
 unfold gx;grind
theorem ga(m a:Nat)(c:Int):gx m [((a:Int),c)]=if a=m then [c] else []:=by
 unfold gx
 grind
theorem wn{m:Nat}(h:∀q∈qs,q.1≠(m:Int)):gx m qs=[]:=by
 unfold gx
 rw[ō.mpr (λq a=>by simpa using h q a)];rfl
theorem qM(h:x<y):kD x y=(x:Int):: kD (x+1) y:=by
 unfold kD
 rw[show y - x=(y - (x+1))+1 by lia,List.range'_succ];rfl
theorem jf(h:y<=x):kD x y=[]:=by
 unfold kD
 rw[show y - x=0 by lia];rfl
theorem l5(h:x<=y):kD x (y+1)=kD x y++[(y:Int)]:=by
 unfold kD
 rw[show y+1 - x=(y - x)+1 by lia,List.range'_1_concat,Ϥ]
 show _++[((x+(y - x):Nat):Int)]=_
 rw[show x+(y - x)=y by lia]
theorem xy{m:Nat}(h:a.head?=Α ((m:Int),c))(e:gx m a=kD x y):x<y/\c=(x:Int)/\gx m a.tail=kD (x+1) y/\∀b,b≠m->gx b a.tail=gx b a:=by
 cases a with
 |nil=>cases h
 | cons q a =>
  cases h
  rw[show((m:Int),c):: a=[((m:Int),c)]++a from Κ,gc,ga,Θ Κ]at e
  have d:x<y:=by
   rcases ă x y with h|h
   ·exact h
   ·rw[jf h]at e;cases e
  rw[qM d]at e
  have f:=e
  refine⟨d,(ŝ f).1,(ŝ f).2,λb g=>?_⟩
  rw[show((m:Int),c):: a=[((m:Int),c)]++a from Κ,gc,ga,Η (ϗ g)];rfl
theorem AZ{m:Nat}(h:qs.getLast?=Α q)(a:q.1=(m:Int))(e:gx m qs=kD x y):q.2+1=(y:Int)/\x<y:=by
 obtain⟨d,rfl⟩:=ţ.mp h
 obtain⟨c,f⟩:=q
 have a:=a
 subst a
 rw[gc,ga,Θ Κ]at e
 rcases ă x y with b|b
 ·obtain⟨z,rfl⟩:∃z,y=z+1:=⟨y - 1,by lia⟩
  rw[l5 (by lia)]at e
  have:=List.append_inj_right' e Κ
  grind
 ·rw[jf b]at e
  exact Ι e (by simp)
def VA(s:YS)(p q:Int×Int):Prop:=(q.1=p.1/\q.2=p.2+1)∨(q.2=0/\∃(m:Nat)(t:bj),p.1=(m:Int)/\s.Hw[m]?=Α t/\p.2=t.len - 1)
structure Jw(a:YA)(s:YS)(N D:Nat->Nat->Nat):Prop where
 g0:∀(m:Nat)(t:bj),s.Hw[m]?=Α t->((N m 0+D m 0:Nat):Int)=t.δ
 gl:∀(m:Nat)(t:bj),s.Hw[m]?=Α t->t.δ<=t.len
 MI:∀(m:Nat)(t:bj),s.Hw[m]?=Α t->∀i,t.ω.length<i->N m i+D m i=0
 top:∀(m:Nat)(t:bj),s.Hw[m]?=Α t->t.ω=[]->N m 0=0
 dn:∀(m:Nat)(t:bj),s.Hw[m]?=Α t->∀i,i<t.ω.length->N m (i+1)+D m (i+1)<=N m i/\0<N m i/\(N m i:Int)<=t.len
 q:∀(m:Nat)(t:bj),s.Hw[m]?=Α t->∀(i k:Nat)(ln:Ie),t.ω[i]?=Α k->s.γ[k]?=Α ln->gx m ln.qs=kD (N m (i+1)+D m (i+1)) (N m i)
 own:∀(k:Nat)(ln:Ie),s.γ[k]?=Α ln->∀p∈ln.qs,∃(m:Nat)(t:bj),p.1=(m:Int)/\s.Hw[m]?=Α t/\k∈t.ω
 nd:∀(m:Nat)(t:bj),s.Hw[m]?=Α t->t.ω.Nodup
 J4:∀(m:Nat)(t:bj),s.Hw[m]?=Α t->∀(p:Nat)(qs:IPs),s.ε[p]?=Α qs->gx m qs=if (p:Int)=t.ι then kD 0 (N m t.ω.length) else []
 Lo:∀(p:Nat)(qs:IPs),s.ε[p]?=Α qs->∀q∈qs,∃(m:Nat)(t:bj),q.1=(m:Int)/\s.Hw[m]?=Α t
 hold:∀(k:Nat)(ln:Ie),s.γ[k]?=Α ln->∀(m:Nat)(t:bj),s.Hw[m]?=Α t->(ln.h=Α (m:Int)↔∃i,t.ω[i]?=Α k/\(N m i:Int)<t.len)
 KG:∀(k:Nat)(ln:Ie),s.γ[k]?=Α ln->∀z,ln.h=Α z->∃(m:Nat)(t:bj),z=(m:Int)/\s.Hw[m]?=Α t
 room:∀(k:Nat)(ln:Ie),s.γ[k]?=Α ln->s.rooms[k]?=Α (.int (ln.r+ln.b+ln.qs.length))/\0<=ln.r/\0<=ln.b
 OD:∀(k:Nat)(ln:Ie),s.γ[k]?=Α ln->∀(i:Nat)(p q:Int×Int),ln.qs[i]?=Α p->ln.qs[i+1]?=Α q->VA s p q
 π:∀(k:Nat)(ln:Ie),s.γ[k]?=Α ln->∀q,ln.qs.getLast?=Α q->ln.h=Α q.1∨(ln.h=Β/\∃(m:Nat)(t:bj),q.1=(m:Int)/\s.Hw[m]?=Α t/\q.2=t.len - 1)
noncomputable def zr:Nat->Nat->Nat:=λ_ _=>0
noncomputable def dM(m0 i0:Nat):Nat->Nat->Nat:=λm i=>if m=m0/\i=i0 then 1 else 0
theorem gQ(m i:Nat):dM m i m i=1:=Θ ⟨Κ,Κ⟩
theorem gh(h:m≠m0):dM m0 i0 m i=0:=Η λz=>h z.1
theorem dD(h:i≠i0):dM m0 i0 m i=0:=Η λz=>h z.2
theorem fA{l:List Nat}(h:l.Nodup){i j x:Nat}(a:l[i]?=Α x)(b:l[j]?=Α x):i=j:=by
 obtain⟨e,c⟩:=ϝ.mp a
 obtain⟨f,d⟩:=ϝ.mp b
 exact(Ŝ h).mp (c.trans d.symm)
theorem Bi{a:IPs}(h:∀(i:Nat) (p q:Int×Int),a[i]?=Α p->a[i+1]?=Α q->VA s p q):∀(i:Nat)(p q:Int×Int),a.tail[i]?=Α p->a.tail[i+1]?=Α q->VA s p q:=λi p q b c=>by
 rw[List.getElem?_tail]at b c
 exact h (i+1) p q b c
theorem xf{b:Type}{a:List b}{q:b}(h:a.tail.getLast?=Α q):a.getLast?=Α q:=by
 cases a with
 |nil=>cases h
 | cons x a =>
  cases a with
  |nil=>cases h
  |cons y a=>rw[MW];exact h
theorem Jw.pull(G:Jw a s N zr){k m:Nat}{lk:Ie}(l:s.γ[k]?=Α lk)(o:lk.qs.head?=Α ((m:Int),c))(v:s.Hw[m]?=Α t):
  ∃i,t.ω[i]?=Α k/\c=(N m (i+1):Int)/\N m (i+1)<N m i/\Jw a {s with γ:=s.γ.set k (cn lk)} N (dM m (i+1)):=by
 have H:=Ž o
 obtain⟨f,T,e,C,I⟩:=G.own k lk l _ H
 have e:=e
 have e:f=m:=by lia
 subst e
 rw[v]at C;cases C
 obtain⟨i,y⟩:=ģ I
 have U:=(gQ0 y)
 obtain⟨A,J,B,L⟩:=xy o (G.q f t v i k lk y l)
 have A:=A
 have B:=B
 refine⟨i,y,J,A,?_⟩
 have D:lk.qs=((f:Int),c):: lk.qs.tail:=by
  cases E:lk.qs with
  |nil=>rw[E]at o;cases o
  |cons x xs=>rw[E]at o;cases o;rfl
 refine⟨λm t h=>?_,G.gl,λm t h j n=>?_,G.top,λm t h j n=>?_,λm t h j kk g n d=>?_,λkk g d p F=>?_,G.nd,G.J4,G.Lo,λkk g d=>?_,λkk g d=>?_,λkk g d=>?_,λkk g d=>?_,λkk g d=>?_⟩
 ·have:=G.g0 m t h
  rw[dD (by lia)];exact this
 ·have z:=G.MI m t h j n
  by_cases e:m=f
  ·subst e
   rw[v]at h;cases h
   rw[dD (by lia)];exact z
  ·rw[gh e];exact z
 ·obtain⟨z,M,O⟩:=G.dn m t h j n
  refine⟨?_,M,O⟩
  have z:=z
  by_cases e:m=f/\j+1=i+1
  ·obtain⟨rfl,e⟩:=e
   have:j=i:=by lia
   subst this
   rw[gQ];lia
  ·show N m (j+1)+dM f (i+1) m (j+1)<=_
   unfold dM;rw[Η e];lia
 ·rcases bv d with ⟨rfl,rfl⟩|⟨Q,d⟩
  ·show gx m lk.qs.tail=_
   by_cases e:m=f
   ·subst e
    rw[v]at h;cases h
    have:j=i:=fA (G.nd _ _ v) n y
    subst this
    rw[gQ];exact B
   ·rw[gh e,L m e];exact G.q m t h j kk lk n l
  ·by_cases e:m=f/\j+1=i+1
   ·obtain⟨rfl,e⟩:=e
    have:j=i:=by lia
    subst this
    rw[v]at h;cases h
    rw[y]at n;cases n
    exact Ι Κ Q
   ·unfold dM;rw[Η e];exact G.q m t h j kk g n d
 ·rcases bv d with ⟨rfl,rfl⟩|⟨_,d⟩
  ·exact G.own kk lk l p (by rw[D];exact Ϯ _ F)
  ·exact G.own kk g d p F
 ·rcases bv d with ⟨rfl,rfl⟩|⟨_,d⟩
  ·exact G.hold kk lk l
  ·exact G.hold kk g d
 ·rcases bv d with ⟨rfl,rfl⟩|⟨_,d⟩
  ·exact G.KG kk lk l
  ·exact G.KG kk g d
 ·rcases bv d with ⟨rfl,rfl⟩|⟨_,d⟩
  ·obtain⟨R,S,X⟩:=G.room kk lk l
   refine⟨?_,S,?_⟩
   ·show s.rooms[kk]?=Α (.int (lk.r+(lk.b+1)+lk.qs.tail.length))
    rw[R]
    have:lk.qs.length=lk.qs.tail.length+1:=by rw[D];rfl
    rw[this]
    congr 2;lia
   ·show 0<=lk.b+1;lia
  ·exact G.room kk g d
 ·rcases bv d with ⟨rfl,rfl⟩|⟨_,d⟩
  ·exact Bi (s:={s with γ:=s.γ.set kk (cn lk)}) (G.OD kk lk l)
  ·exact G.OD kk g d
 ·rcases bv d with ⟨rfl,rfl⟩|⟨_,d⟩
  ·exact λq o=>G.π kk lk l q (xf o)
  ·exact G.π kk g d
theorem Jw.leave(G:Jw a s N zr)(C:s.Hw[m]?=Α t)(M:t.δ≠t.len):Jw a (cp s m t) N (dM m 0):=by
 have O:=G.gl m t C
 have g:∀(b:Nat)(c:bj),(cp s m t).Hw[b]?=Α c->∃d,s.Hw[b]?=Α d/\c.ω=d.ω/\c.len=d.len/\c.ι=d.ι/\(b≠m->c=d)/\(b=m->c.δ=t.δ+1/\d=t):=λb c h=>by
  have h:=h
  rcases bv h with ⟨rfl,rfl⟩|⟨J,h⟩
  ·exact⟨t,C,Κ,Κ,Κ,λz=>Ι Κ z,λ_=>⟨Κ,Κ⟩⟩
  ·exact⟨c,h,Κ,Κ,Κ,λ_=>rfl,λz=>Ι z J⟩
 have back:∀(b:Nat)(d:bj),s.Hw[b]?=Α d->∃c,(cp s m t).Hw[b]?=Α c/\c.ω=d.ω/\c.len=d.len:=λb d h=>by
  by_cases e:b=m
  ·subst e
   rw[C]at h;cases h
   exact⟨_,cY C,Κ,Κ⟩
  ·exact⟨d,by show(s.Hw.set m _)[b]?=_;rw[Û (ϗ e)];exact h,Κ,Κ⟩
 refine⟨λb c h=>?_,λb c h=>?_,λb c h j A=>?_,λb c h D=>?_,λb c h j A=>?_,λb c h j kk o A r=>?_,λkk o r p x=>?_,λb c h=>?_,λb c h p E x=>?_,λp E x q B=>?_,λkk o r b c h=>?_,λkk o r z L=>?_,G.room,λkk o r i p q x B=>?_,λkk o r q B=>?_⟩
 ·obtain⟨d,f,l,n,v,ne,eq⟩:=g b c h
  have I:=G.g0 b d f
  by_cases e:b=m
  ·obtain⟨F,rfl⟩:=eq e
   subst e
   rw[gQ,F,←I];show((N b 0+1:Nat):Int)=((N b 0+0:Nat):Int)+1;lia
  ·rw[gh e,ne e];exact I
 ·obtain⟨d,f,l,n,v,ne,eq⟩:=g b c h
  by_cases e:b=m
  ·obtain⟨F,rfl⟩:=eq e
   rw[F,n];lia
  ·rw[ne e];exact G.gl b d f
 ·obtain⟨d,f,l,n,v,ne,eq⟩:=g b c h
  rw[dD (by lia)];exact G.MI b d f j (by rw[←l];exact A)
 ·obtain⟨d,f,l,n,v,ne,eq⟩:=g b c h
  exact G.top b d f (by rw[←l];exact D)
 ·obtain⟨d,f,l,n,v,ne,eq⟩:=g b c h
  rw[dD (by lia),n];exact G.dn b d f j (by rw[←l];exact A)
 ·obtain⟨d,f,l,n,v,ne,eq⟩:=g b c h
  rw[dD (by lia)];exact G.q b d f j kk o (by rw[←l];exact A) r
 ·obtain⟨b,d,e,f,D⟩:=G.own kk o r p x
  obtain⟨c,u,l,_⟩:=back b d f
  exact⟨b,c,e,u,by rw[l];exact D⟩
 ·obtain⟨d,f,l,_⟩:=g b c h
  rw[l];exact G.nd b d f
 ·obtain⟨d,f,l,n,v,_⟩:=g b c h
  rw[l,v];exact G.J4 b d f p E x
 ·obtain⟨b,d,e,f⟩:=G.Lo p E x q B
  obtain⟨c,u,_⟩:=back b d f
  exact⟨b,c,e,u⟩
 ·obtain⟨d,f,l,n,v,_⟩:=g b c h
  rw[l,n];exact G.hold kk o r b d f
 ·obtain⟨b,d,e,f⟩:=G.KG kk o r z L
  obtain⟨c,u,_⟩:=back b d f
  exact⟨b,c,e,u⟩
 ·rcases G.OD kk o r i p q x B with z|⟨z,b,d,e,f,H⟩
  ·exact .inl z
  ·obtain⟨c,u,_,n⟩:=back b d f
   exact .inr ⟨z,b,c,e,u,by rw[n];exact H⟩
 ·rcases G.π kk o r q B with z|⟨z,b,d,e,f,H⟩
  ·exact .inl z
  ·obtain⟨c,u,_,n⟩:=back b d f
   exact .inr ⟨z,b,c,e,u,by rw[n];exact H⟩
theorem Jw.enter(G:Jw a s N (dM m i))(F:s.Hw[m]?=Α t)(hc:c=(N m i:Int))(I:c=0->i=t.ω.length/\l∉t.ω)(h1:c≠0->t.ω[i]?=Α l)(hlen:c+1<=t.len)(Q:s.γ[l]?=Α ln)(R:bL ln.r ln.h m c=Γ):
  Jw a (cG s m c l t ln) (λd i'=>N d i'+dM m i d i') zr:=by
 obtain⟨Lg,IS⟩:ln.r≠0/\if c=0 then ln.h=Β else ln.h=Α (m:Int):=by
  unfold bL at R
  by_cases hr:ln.r=0
  ·rw[Θ hr]at R;cases R
  ·rw[Η hr]at R
   by_cases h:c=0
   ·rw[Θ h]at R⊢;exact⟨hr,of_decide_eq_true R⟩
   ·rw[Η h]at R⊢;exact⟨hr,of_decide_eq_true R⟩
 obtain⟨H,N0,w1,el,eg,ego,hw⟩:∃H:bj,(cG s m c l t ln).Hw[m]?=Α H/\H.ω=(if c=0 then t.ω++[l] else t.ω)/\H.len=t.len/\H.ι=t.ι/\H.δ=t.δ/\H.ω[i]?=Α l:=by
  by_cases h:c=0
  ·refine⟨{t with ω:=t.ω++[l]},?_,by rw[Θ h],Κ,Κ,Κ,?_⟩
   ·show(if c=0 then s.Hw.set m {t with ω:=t.ω++[l]} else s.Hw)[m]?=_
    rw[Θ h];exact cY F
   ·show(t.ω++[l])[i]?=Α l
    rw[(I h).1,ö]
  ·refine⟨t,?_,by rw[Η h],Κ,Κ,Κ,h1 h⟩
   show(if c=0 then s.Hw.set m {t with ω:=t.ω++[l]} else s.Hw)[m]?=_
   rw[Η h];exact F
 have v:∀(d:Nat)(f:bj),(cG s m c l t ln).Hw[d]?=Α f->(d=m/\f=H)∨(d≠m/\s.Hw[d]?=Α f):=λd f h=>by
  by_cases e:d=m
  ·subst e
   rw[N0]at h;cases h;exact .inl ⟨Κ,Κ⟩
  ·refine .inr ⟨e,?_⟩
   have h:(if c=0 then s.Hw.set m {t with ω:=t.ω++[l]} else s.Hw)[d]?=Α f:=h
   by_cases o:c=0
   ·rw[Θ o,Û (ϗ e)]at h;exact h
   ·rw[Η o]at h;exact h
 have back:∀(d:Nat)(A:bj),s.Hw[d]?=Α A->∃f,(cG s m c l t ln).Hw[d]?=Α f/\(∀x∈A.ω,x∈f.ω)/\f.len=A.len:=λd A h=>by
  by_cases e:d=m
  ·subst e
   rw[F]at h;cases h
   refine⟨H,N0,λx U=>?_,el⟩
   rw[w1];split
   ·exact ï _ U
   ·exact U
  ·refine⟨A,?_,λx U=>U,Κ⟩
   show(if c=0 then s.Hw.set m {t with ω:=t.ω++[l]} else s.Hw)[d]?=_
   split
   ·rw[Û (ϗ e)];exact h
   ·exact h
 have VB:∀(j k:Nat),H.ω[j]?=Α k->j≠i->t.ω[j]?=Α k:=λj k g D=>by
  rw[w1]at g
  by_cases h:c=0
  ·rw[Θ h]at g
   have HS:=(gQ0 g)
   rw[ϛ,Ã]at HS
   have:=(I h).1
   rwa [Ϛ (by lia)]at g
  ·rw[Η h]at g;exact g
 have RF:H.ω.length=if c=0 then i+1 else t.ω.length:=by
  rw[w1];split
  ·rename_i h
   rw[ϛ,Ã,(I h).1]
  ·rfl
 have Nz:=λh=>(ϝ.mp (h1 h)).1
 have Uz:H.ω.Nodup:=by
  rw[w1];split
  ·rename_i h
   refine Ĵ.mpr ⟨G.nd m t F,by simp,λx U y hy e=>?_⟩
   rw[ϙ]at hy
   subst hy;subst e
   exact(I h).2 U
  ·exact G.nd m t F
 have O:∀{kk:Nat}{u:Ie},(cG s m c l t ln).γ[kk]?=Α u->(kk=l/\u=dG ln m c t.len)∨(kk≠l/\s.γ[kk]?=Α u):=λh=>bv h
 have OJ:∀d,d≠m->gx d (ln.qs++[((m:Int),c)])=gx d ln.qs:=λd hm=>by
  rw[gc,ga,Η (ϗ hm),Ų]
 have Yf:gx m ln.qs=kD (N m (i+1)) (N m i)/\N m (i+1)<=N m i:=by
  by_cases h:c=0
  ·have e0:N m i=0:=by lia
   have f1:=G.MI m t F (i+1) (by have:=(I h).1;lia)
   rw[dD (by lia)]at f1
   have f1:N m (i+1)=0:=by lia
   rw[e0,f1]
   refine⟨?_,Ξ _⟩
   rw[jf (Ξ _)]
   refine wn λq E e=>?_
   obtain⟨d,f,e',Po,Kc⟩:=G.own l ln Q q E
   have:d=m:=by rw[e]at e';lia
   subst this
   rw[F]at Po;cases Po
   exact(I h).2 Kc
  ·have:=G.q m t F i l ln (h1 h) Q
   rw[dD (by lia)]at this
   have hd:=(G.dn m t F i (Nz h)).1
   rw[dD (by lia)]at hd
   exact⟨this,hd⟩
 have z0:∀d j,(zr d j)=0:=λ_ _=>rfl
 refine⟨λd f h=>?_,λd f h=>?_,λd f h j g=>?_,λd f h Kc=>?_,λd f h j g=>?_,λd f h j kk u g n=>?_,λkk u n p B=>?_,λd f h=>?_,λd f h p Y B=>?_,λp Y B q E=>?_,λkk u n d f h=>?_,λkk u n z hz=>?_,λkk u n=>?_,λkk u n j p q B E=>?_,λkk u n q E=>?_⟩
 ·rcases v d f h with ⟨rfl,rfl⟩|⟨D,h⟩
  ·rw[ego,←G.g0 _ t F];rfl
  ·exact G.g0 d f h
 ·rcases v d f h with ⟨rfl,rfl⟩|⟨D,h⟩
  ·rw[ego,el];exact G.gl _ t F
  ·exact G.gl d f h
 ·rcases v d f h with ⟨rfl,rfl⟩|⟨D,h⟩
  ·refine G.MI _ t F j ?_
   rw[RF]at g
   by_cases o:c=0
   ·rw[Θ o]at g;have:=(I o).1;lia
   ·rw[Η o]at g;exact g
  ·exact G.MI d f h j g
 ·rcases v d f h with ⟨rfl,rfl⟩|⟨D,h⟩
  ·rw[Kc]at hw;cases hw
  ·show N d 0+dM m i d 0=0
   rw[gh D];exact G.top d f h Kc
 ·rcases v d f h with ⟨rfl,rfl⟩|⟨D,h⟩
  ·show N d (j+1)+dM d i d (j+1)+0<=N d j+dM d i d j/\0<N d j+dM d i d j/\((N d j+dM d i d j:Nat):Int)<=f.len
   rw[el]
   by_cases e:j=i
   ·subst e
    rw[gQ,dD (by lia)]
    have:=Yf.2
    exact⟨by lia,by lia,by lia⟩
   ·have hj':j<t.ω.length:=by
     rw[RF]at g
     by_cases o:c=0
     ·rw[Θ o]at g;have:=(I o).1;lia
     ·rw[Η o]at g;exact g
    obtain⟨d1,d2,d3⟩:=G.dn _ t F j hj'
    have:dM d i d j=0:=dD e
    rw[this]
    exact⟨by lia,by lia,by lia⟩
  ·show N d (j+1)+dM m i d (j+1)+0<=N d j+dM m i d j/\0<N d j+dM m i d j/\((N d j+dM m i d j:Nat):Int)<=f.len
   have:=G.dn d f h j g
   rw[gh D]at this⊢
   rw[gh D];exact this
 ·show gx d u.qs=kD (N d (j+1)+dM m i d (j+1)+0) (N d j+dM m i d j)
  rcases v d f h with ⟨rfl,rfl⟩|⟨D,C⟩
  ·rcases O n with ⟨rfl,rfl⟩|⟨J,n⟩
   ·have:j=i:=fA Uz g hw
    subst this
    show gx d (ln.qs++[((d:Int),c)])=_
    rw[gc,ga,Θ Κ,gQ,dD (by lia),Yf.1,hc,VY,VY]
    exact(l5 Yf.2).symm
   ·have Z:j≠i:=λe=>by rw[e,hw]at g;cases g;exact J Κ
    rw[show dM d i d j=0 from dD Z]
    exact G.q _ t F j kk u (VB j kk g Z) n
  ·rcases O n with ⟨rfl,rfl⟩|⟨J,n⟩
   ·show gx d (ln.qs++[((m:Int),c)])=_
    rw[OJ d D,show dM m i d j=0 from gh D]
    exact G.q d f C j kk ln g Q
   ·rw[show dM m i d j=0 from gh D]
    exact G.q d f C j kk u g n
 ·rcases O n with ⟨rfl,rfl⟩|⟨J,n⟩
  ·rcases Á.mp B with B|B
   ·obtain⟨d,A,e,C,Qy⟩:=G.own kk ln Q p B
    obtain⟨f,L,sub,_⟩:=back d A C
    exact⟨d,f,e,L,sub _ Qy⟩
   ·rw[ϙ.mp B]
    exact⟨m,H,Κ,N0,Ψ hw⟩
  ·obtain⟨d,A,e,C,Qy⟩:=G.own kk u n p B
   obtain⟨f,L,sub,_⟩:=back d A C
   exact⟨d,f,e,L,sub _ Qy⟩
 ·rcases v d f h with ⟨rfl,rfl⟩|⟨D,h⟩
  ·exact Uz
  ·exact G.nd d f h
 ·show gx d Y=if (p:Int)=f.ι then kD 0 (N d f.ω.length+dM m i d f.ω.length) else []
  rcases v d f h with ⟨rfl,rfl⟩|⟨D,h⟩
  ·have e:=G.J4 _ t F p Y B
   rw[eg,e]
   by_cases L6:(p:Int)=t.ι
   ·rw[Θ L6,Θ L6,RF]
    by_cases o:c=0
    ·rw[Θ o,dD (by lia),←(I o).1]
     have f1:=G.MI _ t F (i+1) (by have:=(I o).1;lia)
     have e1:N d (i+1)=0:=by lia
     have S:N d i=0:=by lia
     rw[e1,S]
    ·rw[Η o,dD (by have:=Nz o;lia)];rfl
   ·rw[Η L6,Η L6]
  ·rw[gh D];exact G.J4 d f h p Y B
 ·obtain⟨d,A,e,C⟩:=G.Lo p Y B q E
  obtain⟨f,L,_⟩:=back d A C
  exact⟨d,f,e,L⟩
 ·show u.h=Α (d:Int)↔∃j,f.ω[j]?=Α kk/\((N d j+dM m i d j:Nat):Int)<f.len
  rcases v d f h with ⟨rfl,rfl⟩|⟨D,C⟩
  ·rcases O n with ⟨rfl,rfl⟩|⟨J,n⟩
   ·show(if decide (c=t.len - 1)=Γ then Β else Α (d:Int))=_↔_
    rw[el]
    constructor
    ·intro z
     refine⟨i,hw,?_⟩
     rw[gQ]
     by_cases e:c=t.len - 1
     ·rw[Θ (Ε e)]at z;cases z
     ·lia
    ·rintro⟨j,g,X⟩
     have:j=i:=fA Uz g hw
     subst this
     rw[gQ]at X
     rw[Η (by rw[decide_eq_true_eq];lia)]
   ·have e:=G.hold kk u n _ t F
    rw[e,el]
    constructor
    ·rintro⟨j,g,X⟩
     refine⟨j,?_,?_⟩
     ·rw[w1];split
      ·rw[Ϛ (gQ0 g)];exact g
      ·exact g
     ·rw[show dM d i d j=0 from dD λe=>by
       subst e
       by_cases o:c=0
       ·have:=(gQ0 g);have:=(I o).1;lia
       ·rw[h1 o]at g;cases g;exact J Κ]
      exact X
    ·rintro⟨j,g,X⟩
     have Z:j≠i:=λe=>by rw[e,hw]at g;cases g;exact J Κ
     rw[show dM d i d j=0 from dD Z]at X
     exact⟨j,VB j kk g Z,X⟩
  ·have eN:∀j,N d j+dM m i d j=N d j:=λj=>by rw[gh D];rfl
   simp only[eN]
   rcases O n with ⟨rfl,rfl⟩|⟨J,n⟩
   ·show(if decide (c=t.len - 1)=Γ then Β else Α (m:Int))=_↔_
    rw[←G.hold kk ln Q d f C]
    have a1:ln.h≠Α (d:Int):=λz=>by
     rw[z]at IS
     by_cases o:c=0
     ·rw[Θ o]at IS;cases IS
     ·rw[Η o]at IS
      have:=ϋ IS
      lia
    refine⟨λz=>?_,λz=>Ι z a1⟩
    split at z
    ·cases z
    ·have:=ϋ z
     exact Ι (show d=m by lia) D
   ·exact G.hold kk u n d f C
 ·rcases O n with ⟨rfl,rfl⟩|⟨J,n⟩
  ·have z:(if decide (c=t.len - 1)=Γ then Β else Α (m:Int))=Α z:=hz
   split at z
   ·cases z
   ·exact⟨m,H,(ϋ z).symm,N0⟩
  ·obtain⟨d,A,e,C⟩:=G.KG kk u n z hz
   obtain⟨f,L,_⟩:=back d A C
   exact⟨d,f,e,L⟩
 ·rcases O n with ⟨rfl,rfl⟩|⟨J,n⟩
  ·obtain⟨r1,r2,r3⟩:=G.room kk ln Q
   refine⟨?_,by show 0<=ln.r - 1;lia,r3⟩
   show s.rooms[kk]?=Α (.int (ln.r - 1+ln.b+((ln.qs++[((m:Int),c)]).length:Nat)))
   rw[r1,ϛ,Ã]
   congr 2;lia
  ·exact G.room kk u n
 ·have up:VA s p q->VA (cG s m c l t ln) p q:=λz=>by
   rcases z with z|⟨z,d,A,e,C,S⟩
   ·exact .inl z
   ·obtain⟨f,L,_,T⟩:=back d A C
    exact .inr ⟨z,d,f,e,L,by rw[T];exact S⟩
  rcases O n with ⟨rfl,rfl⟩|⟨J,n⟩
  ·have B:(ln.qs++[((m:Int),c)])[j]?=Α p:=B
   have E:(ln.qs++[((m:Int),c)])[j+1]?=Α q:=E
   by_cases g:j+1<ln.qs.length
   ·rw[Ϛ (by lia)]at B
    rw[Ϛ g]at E
    exact up (G.OD kk ln Q j p q B E)
   ·have HS:=(gQ0 E)
    rw[ϛ,Ã]at HS
    have ej:j+1=ln.qs.length:=by lia
    rw[ej,ö]at E
    cases E
    rw[Ϛ (by lia)]at B
    have MK:ln.qs.getLast?=Α p:=by rw[Ť,←ej];exact B
    rcases G.π kk ln Q p MK with z|⟨z,d,A,e,C,S⟩
    ·by_cases o:c=0
     ·rw[Θ o,z]at IS;cases IS
     ·rw[Η o,z]at IS
      have e1:=ϋ IS
      obtain⟨S,_⟩:=AZ MK e1 Yf.1
      exact .inl ⟨e1.symm,by show c=p.2+1;lia⟩
    ·by_cases o:c=0
     ·exact up (.inr ⟨o,d,A,e,C,S⟩)
     ·rw[Η o,z]at IS;cases IS
  ·exact up (G.OD kk u n j p q B E)
 ·rcases O n with ⟨rfl,rfl⟩|⟨J,n⟩
  ·have E:(ln.qs++[((m:Int),c)]).getLast?=Α q:=E
   rw[List.getLast?_concat]at E
   cases E
   show(if decide (c=t.len - 1)=Γ then Β else Α (m:Int))=_∨_
   by_cases e:c=t.len - 1
   ·exact .inr ⟨by show(if decide (c=t.len - 1)=Γ then Β else Α (m:Int))=Β;rw[Θ (Ε e)],m,H,Κ,N0,by rw[el];exact e⟩
   ·exact .inl (by rw[Η (by rw[decide_eq_true_eq];exact e)])
  ·rcases G.π kk u n q E with z|⟨z,d,A,e,C,S⟩
   ·exact .inl z
   ·obtain⟨f,L,_,T⟩:=back d A C
    exact .inr ⟨z,d,f,e,L,by rw[T];exact S⟩
theorem Jw.lay{m e:Nat}(G:Jw a s N (dM m t.ω.length))(g:s.Hw[m]?=Α t)(H:c=(N m t.ω.length:Int))(y:t.ι=(e:Int))(C:s.ε[e]?=Α qs)(I:t.ω≠[]):
  Jw a {s with ε:=s.ε.set e (qs++[((m:Int),c)])} (λb E=>N b E+dM m t.ω.length b E) zr:=by
 have M:=Ē.mpr I
 have i:∀b j,(b=m->j≠t.ω.length)->N b j+dM m t.ω.length b j=N b j:=λb j h=>by
  by_cases e:b=m
  ·rw[dD (h e)];rfl
  ·rw[gh e];rfl
 refine⟨λb d h=>?_,G.gl,λb d h j f=>?_,λb d h J=>?_,λb d h j f=>?_,λb d h j kk r f A=>?_,G.own,G.nd,λb d h p u v=>?_,λp u v q l=>?_,λkk r A b d h=>?_,G.KG,G.room,G.OD,G.π⟩
 ·rw[←G.g0 b d h];rfl
 ·exact G.MI b d h j f
 ·show N b 0+dM m t.ω.length b 0=0
  rw[i b 0 (λ_=>by lia)];exact G.top b d h J
 ·show N b (j+1)+dM m t.ω.length b (j+1)+0<=N b j+dM m t.ω.length b j/\0<N b j+dM m t.ω.length b j/\((N b j+dM m t.ω.length b j:Nat):Int)<=d.len
  rw[i b j (λe=>by subst e;rw[g]at h;cases h;lia)]
  exact G.dn b d h j f
 ·show gx b r.qs=kD (N b (j+1)+dM m t.ω.length b (j+1)+0) (N b j+dM m t.ω.length b j)
  have x:=(gQ0 f)
  rw[i b j (λe=>by subst e;rw[g]at h;cases h;lia)]
  exact G.q b d h j kk r f A
 ·show gx b u=if (p:Int)=d.ι then kD 0 (N b d.ω.length+dM m t.ω.length b d.ω.length) else []
  have h:=h
  rcases bv v with ⟨rfl,rfl⟩|⟨L,F⟩
  ·rw[gc,ga]
   have n:=G.J4 b d h p qs C
   by_cases o:b=m
   ·subst o
    rw[g]at h;cases h
    rw[Θ y.symm]at n
    rw[Θ Κ,Θ y.symm,n,gQ,H]
    exact(l5 (ϡ _)).symm
   ·rw[Η (ϗ o),Ų,i b _ (λz=>Ι z o)];exact n
  ·by_cases o:b=m
   ·subst o
    rw[g]at h;cases h
    have n:=G.J4 b t g p u F
    rw[Η (by rw[y];lia)]at n⊢
    exact n
   ·rw[i b _ (λz=>Ι z o)];exact G.J4 b d h p u F
 ·rcases bv v with ⟨rfl,rfl⟩|⟨L,v⟩
  ·rcases Á.mp l with l|l
   ·exact G.Lo p qs C q l
   ·rw[ϙ.mp l];exact⟨m,t,Κ,g⟩
  ·exact G.Lo p u v q l
 ·show r.h=Α (b:Int)↔∃j,d.ω[j]?=Α kk/\((N b j+dM m t.ω.length b j:Nat):Int)<d.len
  have h:=h
  rw[G.hold kk r A b d h]
  constructor
  ·rintro⟨j,f,x⟩
   have B:=(gQ0 f)
   exact⟨j,f,by rw[i b j (λe=>by subst e;rw[g]at h;cases h;lia)];exact x⟩
  ·rintro⟨j,f,x⟩
   have B:=(gQ0 f)
   rw[i b j (λe=>by subst e;rw[g]at h;cases h;lia)]at x
   exact⟨j,f,x⟩
theorem Jw.back(G:Jw a s N D){k:Nat}{lk:Ie}(B:s.γ[k]?=Α lk)(H:0<lk.b):Jw a {s with γ:=s.γ.set k (r9 lk)} N D:=by
 have l:∀{kk:Nat}{d:Ie},(s.γ.set k (r9 lk))[kk]?=Α d->∃c,s.γ[kk]?=Α c/\d.qs=c.qs/\d.h=c.h/\d.r+d.b=c.r+c.b/\c.r<=d.r/\(0<=c.b->0<=d.b):=λh=>by
  rcases bv h with ⟨rfl,rfl⟩|⟨_,h⟩
  ·exact⟨_,B,Κ,Κ,by show lk.r+1+(lk.b - 1)=_;lia,by show lk.r<=lk.r+1;lia,λ_=>by show 0<=lk.b - 1;lia⟩
  ·exact⟨_,h,Κ,Κ,Κ,ĺ _,id⟩
 refine⟨G.g0,G.gl,G.MI,G.top,G.dn,λx y h j kk d C e=>?_,λkk d e p t=>?_,G.nd,G.J4,G.Lo,λkk d e x y h=>?_,λkk d e z A=>?_,λkk d e=>?_,λkk d e j p q t u=>?_,λkk d e q u=>?_⟩
 ·obtain⟨c,f,g,i,m,o,n⟩:=l e
  rw[g];exact G.q x y h j kk c C f
 ·obtain⟨c,f,g,i,m,o,n⟩:=l e
  rw[g]at t;exact G.own kk c f p t
 ·obtain⟨c,f,g,i,m,o,n⟩:=l e
  rw[i];exact G.hold kk c f x y h
 ·obtain⟨c,f,g,i,m,o,n⟩:=l e
  rw[i]at A;exact G.KG kk c f z A
 ·obtain⟨c,f,g,i,m,o,n⟩:=l e
  obtain⟨E,I,F⟩:=G.room kk c f
  exact⟨by rw[g,m];exact E,by lia,n F⟩
 ·obtain⟨c,f,g,i,m,o,n⟩:=l e
  rw[g]at t u;exact G.OD kk c f j p q t u
 ·obtain⟨c,f,g,i,m,o,n⟩:=l e
  rw[g]at u;rw[i];exact G.π kk c f q u
theorem oF{k m:Nat}{lk:Ie}(d:s.γ[k]?=Α lk)(e:lk.qs.head?=Α ((m:Int),c))(f:s.Hw[m]?=Α t)(b:l∈bI a s k):if c=0 then l∉t.ω else l∈(t.ω.drop (t.ω.idxOf k+1)).take 1:=by
 have g:aU s k=Α ((m:Int),c):=by unfold aU;rw[d];exact e
 unfold bI at b
 rw[g]at b
 have b:l∈(match s.Hw[(m:Int).toNat]? with|none=>[]|some t=>if c=0 then (ff a k t.ι.toNat).filter λl=>!decide (l∈t.ω) else (t.ω.drop (t.ω.idxOf k+1)).take 1):=b
 rw[Τ,f]at b
 have b:l∈(if c=0 then (ff a k t.ι.toNat).filter λl=>!decide (l∈t.ω) else (t.ω.drop (t.ω.idxOf k+1)).take 1):=b
 by_cases h:c=0
 ·rw[Θ h]at b⊢
  have:=(Ϫ.mp b).2
  simpa using this
 ·rw[Η h]at b⊢;exact b
theorem fE{l:List Nat}(h:x∈(l.drop j).take 1):l[j]?=Α x:=by
 cases a:l.drop j with
 |nil=>rw[a]at h;cases h
 | cons y b =>
  rw[a]at h
  have h:x∈[y]:=h
  rw[ϙ]at h
  subst h
  have:=č (xs:=l) (i:=j) (j:=0)
  rw[a]at this
  exact this.symm
theorem lZ{l:List Nat}(h:l.Nodup)(a:l[i]?=Α x):l.idxOf x=i:=by
 grind
theorem Jw.dn'(G:Jw a s N D)(d:List (List V)):Jw a {s with done:=d} N D:=⟨G.g0,G.gl,G.MI,G.top,G.dn,G.q,G.own,G.nd,G.J4,G.Lo,G.hold,G.KG,G.room,G.OD,G.π⟩
theorem Jw.VE(G:Jw a s N zr)(c:0<=l):∃I:Nat->Nat->Nat,(∀m i,m≠s.Hw.length->I m i=N m i)/\Jw a (dB s x y l u) I zr:=by
 have g:∀(m:Nat)(t:bj),(dB s x y l u).Hw[m]?=Α t->(m≠s.Hw.length/\s.Hw[m]?=Α t)∨(m=s.Hw.length/\t=⟨x,y,l,u,0,[]⟩):=λm t d=>by
  have d:(s.Hw++[(⟨x,y,l,u,0,[]⟩:bj)])[m]?=Α t:=d
  by_cases M:m<s.Hw.length
  ·rw[Ϛ M]at d;exact .inl ⟨by lia,d⟩
  ·have O:=(gQ0 d)
   rw[ϛ,Ã]at O
   have Q:m=s.Hw.length:=by lia
   subst Q
   rw[ö]at d
   cases d
   exact .inr ⟨Κ,Κ⟩
 have v:∀{m:Nat}{t:bj},s.Hw[m]?=Α t->(dB s x y l u).Hw[m]?=Α t:=λd=>by
  show(s.Hw++[(⟨x,y,l,u,0,[]⟩:bj)])[_]?=Α _
  rw[Ϛ (gQ0 d)];exact d
 have J:∀{m:Nat}{t:bj},s.Hw[m]?=Α t->m≠s.Hw.length:=λd z=>by
  rw[z,Ë (Ξ _)]at d;cases d
 refine⟨λm i=>if m=s.Hw.length then 0 else N m i,(λm i h=>Η h),λm t h=>?_,λm t h=>?_,λm t h j n=>?_,λm t h D=>?_,λm t h j n=>?_,λm t h j kk f n c=>?_,λkk f c p o=>?_,λm t h=>?_,λm t h p C o=>?_,λp C o q r=>?_,λkk f c m t h=>?_,λkk f c z R=>?_,G.room,λkk f c j p q o r=>?_,λkk f c q r=>?_⟩
 ·rcases g m t h with ⟨b,h⟩|⟨e,rfl⟩
  ·simp only[Η b];exact G.g0 m t h
  ·simp only[Θ e];rfl
 ·rcases g m t h with ⟨b,h⟩|⟨e,rfl⟩
  ·exact G.gl m t h
  ·exact c
 ·rcases g m t h with ⟨b,h⟩|⟨e,rfl⟩
  ·simp only[Η b];exact G.MI m t h j n
  ·simp only[Θ e];rfl
 ·rcases g m t h with ⟨b,h⟩|⟨e,rfl⟩
  ·simp only[Η b];exact G.top m t h D
  ·simp only[Θ e]
 ·rcases g m t h with ⟨b,h⟩|⟨e,rfl⟩
  ·simp only[Η b];exact G.dn m t h j n
  ·cases n
 ·rcases g m t h with ⟨b,h⟩|⟨e,rfl⟩
  ·simp only[Η b];exact G.q m t h j kk f n c
  ·cases n
 ·obtain⟨m,t,e,h,D⟩:=G.own kk f c p o
  exact⟨m,t,e,v h,D⟩
 ·rcases g m t h with ⟨b,h⟩|⟨e,rfl⟩
  ·exact G.nd m t h
  ·exact á
 ·rcases g m t h with ⟨b,h⟩|⟨e,rfl⟩
  ·simp only[Η b];exact G.J4 m t h p C o
  ·simp only[Θ e]
   rw[jf (Ξ _),ite_self]
   refine wn λq r A=>?_
   obtain⟨B,S,L,E⟩:=G.Lo p C o q r
   have:=J E
   rw[A]at L
   lia
 ·obtain⟨m,t,e,h⟩:=G.Lo p C o q r
  exact⟨m,t,e,v h⟩
 ·rcases g m t h with ⟨b,h⟩|⟨e,rfl⟩
  ·simp only[Η b];exact G.hold kk f c m t h
  ·refine⟨λz=>?_,λT=>by obtain⟨j,n,_⟩:=T;cases n⟩
   obtain⟨B,S,L,E⟩:=G.KG kk f c _ z
   have:=J E
   lia
 ·obtain⟨m,t,e,h⟩:=G.KG kk f c z R
  exact⟨m,t,e,v h⟩
 ·rcases G.OD kk f c j p q o r with z|⟨z,B,F,e,H,A⟩
  ·exact .inl z
  ·exact .inr ⟨z,B,F,e,v H,A⟩
 ·rcases G.π kk f c q r with z|⟨z,B,F,e,H,A⟩
  ·exact .inl z
  ·exact .inr ⟨z,B,F,e,v H,A⟩
theorem gst0{e:List Int}(h:∀r∈e,1<=r/\r<=60):Jw a (Y0 (e.map V.int) n) zr zr:=by
 have i:∀{k:Nat}{d:Ie},(Y0 (e.map V.int) n).γ[k]?=Α d->∃r,e[k]?=Α r/\d=⟨r,0,Β,[]⟩:=λ{k d} b=>by
  have b:(((e.map V.int).map rp))[k]?=Α d:=b
  rw[ώ,ώ]at b
  cases f:e[k]? with
  |none=>rw[f]at b;cases b
  |some r=>rw[f]at b;cases b;exact⟨r,Κ,Κ⟩
 have g:∀{m:Nat}{t:bj},(Y0 (e.map V.int) n).Hw[m]?=Α t->False:=λh=>by cases h
 have l:∀{p:Nat}{o:IPs},(Y0 (e.map V.int) n).ε[p]?=Α o->o=[]:=λ{p o} c=>by
  have c:(Ϗ n ([]:IPs))[p]?=Α o:=c
  rw[ĸ]at c
  split at c
  ·cases c;rfl
  ·cases c
 refine⟨λm t h=>(g h).elim,λm t h=>(g h).elim,λm t h=>(g h).elim,λm t h=>(g h).elim,λm t h=>(g h).elim,λm t h=>(g h).elim,λkk d b p c=>?_,λm t h=>(g h).elim,λm t h=>(g h).elim,λp o c q s=>?_,λkk d b m t h=>(g h).elim,λkk d b z u=>?_,λkk d b=>?_,λkk d b j p q c s=>?_,λkk d b q s=>?_⟩
 ·obtain⟨r,f,rfl⟩:=i b
  cases c
 ·rw[l c]at s;cases s
 ·obtain⟨r,f,rfl⟩:=i b
  cases u
 ·obtain⟨r,f,rfl⟩:=i b
  have v:=h r (Ψ f)
  refine⟨?_,by show 0<=r;lia,ĺ _⟩
  show(e.map V.int)[kk]?=Α (.int (r+0+((0:Nat):Int)))
  rw[ώ,f]
  show Α (V.int r)=_
  congr 2;lia
 ·obtain⟨r,f,rfl⟩:=i b
  cases c
 ·obtain⟨r,f,rfl⟩:=i b
  cases s
abbrev aft(s s1:YS)(m:Mv):YS:={s1 with done:=s.done++[dY m]}
theorem fY{l:List bj}(h:l[k]?=Α x)(e:y.len=x.len):(l.set k y).map (·.len)=l.map (·.len):=by
 refine ū λi=>?_
 rw[ώ,ώ,ũ]
 by_cases a:k=i
 ·subst a
  rw[Θ Κ,Θ (gQ0 h),h]
  show Α y.len=Α x.len
  rw[e]
 ·rw[Η a]
theorem Kd.lens(h:Kd a s m s'):s'.Hw.map (·.len)=s.Hw.map (·.len):=by
 cases h with
 | @IB k l t ln ht hg hl Ib ho =>
  have e:(cp s k t).Hw.map (·.len)=s.Hw.map (·.len):=fY ht Κ
  have f:(cp s k t).Hw[k]?=Α {t with δ:=t.δ+1}:=cY ht
  show(if t.δ=0 then (cp s k t).Hw.set k _ else (cp s k t).Hw).map (·.len)=_
  split
  ·exact(fY (y:={({t with δ:=t.δ+1}:bj) with ω:=t.ω++[l]}) f Κ).trans e
  ·exact e
 | @on k l m c lk ln t hk hq ht hl Ib ho =>
  show(if c=0 then s.Hw.set m _ else s.Hw).map (·.len)=_
  split
  ·exact fY (y:={t with ω:=t.ω++[l]}) ht Κ
  ·rfl
 |J4=>rfl
 |back=>rfl
inductive Of(a:YA)(s0:YS):YS->Prop
 |nil:Of a s0 s0
 |snoc {s:YS} {x y l u:Int} (h:Of a s0 s) (hl:1<=l/\l<=4):Of a s0 (dB s x y l u)
noncomputable def sJ(s:YS):Int:=(s.γ.map (·.b)).sum
noncomputable def wt(i:Nat):Nat:=if i=0 then 1 else 2
noncomputable def jC(L:Nat)(f:Nat->Nat):Nat:=((Υ (L+1)).map λi=>wt i* f i).sum
noncomputable def j6(k L:Nat)(N:Nat->Nat->Nat):Nat:=((Υ k).map λm=>jC L (N m)).sum
noncomputable def Ay(s:YS):Int:=(s.Hw.map (·.len)).sum
theorem oM{f g:Nat->Nat}:∀l:List Nat,(l.map λi=>f i+g i).sum=(l.map f).sum+(l.map g).sum
 |[]=>rfl
 |x:: l=>by rw[È,È,È,ĩ,ĩ,ĩ,oM l];lia
theorem k7:∀n:Nat,((Υ n).map λi=>if i=i0 then c else 0).sum=if i0<n then c else 0
 |0=>rfl
 | n+1=>by
  rw[É,Ϥ,ph,k7 n]
  grind
theorem zj{N:Nat->Nat->Nat}(a:i<=L):jC L (λj=>N m j+dM m i m j)=jC L (N m)+wt i:=by
 unfold jC
 rw[show(λj=>wt j* (N m j+dM m i m j))=λj=>wt j* N m j+(if j=i then wt i else 0) from funext λj=>by
  unfold dM
  grind]
 rw[oM,k7,Θ (by lia)]
theorem lb(c:m<k)(d:i<=L):j6 k L (λa b=>N a b+dM m i a b)=j6 k L N+wt i:=by
 unfold j6
 rw[show(λa=>jC L λb=>N a b+dM m i a b)=λa=>jC L (N a)+(if a=m then wt i else 0) from funext λa=>by
  by_cases h:a=m
  ·subst h;rw[Θ Κ];exact zj d
  ·rw[Η h,show(λb=>N a b+dM m i a b)=N a from funext λb=>by rw[gh h];lia];lia]
 rw[oM,k7,Θ c]
theorem fm:∀{l:List Ie}{k:Nat}{x:Ie}(y:Ie),l[k]?=Α x->((l.set k y).map (·.b)).sum=(l.map (·.b)).sum+(y.b - x.b)
 |[],_,_,_,h=>by cases h
 | z:: l,0,x,y,h=>by
  grind
 | z:: l,k+1,x,y,h=>by
  rw[Rt,È,È,ĩ,ĩ,fm y (show l[k]?=Α x from h)];lia
theorem uJ:∀{l:List Ie},(∀x∈l,0<=x.b)->0<=(l.map (·.b)).sum
 |[],_=>ĺ _
 | x:: l,h=>by
  rw[È,ĩ]
  have:=h x Ϧ
  have:=uJ λy a=>h y (Ϯ _ a)
  lia
theorem xP(J:IY a s){m:Nat}(b:s.Hw[m]?=Α t):t.ω.length<=a.ps.length:=dN _ _ (J.IG m t b).2 (J.IG m t b).1
structure ML(a:YA)(s:YS)(N:Nat->Nat->Nat):Prop where
 G:Jw a s N zr
 c:(s.done.length:Int)+sJ s=s.Hw.length+j6 s.Hw.length a.ps.length N
theorem ML.step(C:ML a s N)(J:IY a s)(h:Kd a s mv s'):∃f,ML a (aft s s' mv) f:=by
 have G:=C.G
 have R:=C.c
 have v:((s.done++[dY mv]).length:Int)=s.done.length+1:=by rw[ϛ,Ã];lia
 have p:=h.len
 have fin:∀{f:Nat->Nat->Nat}{x:Nat}{b:Int},Jw a s' f zr->j6 s.Hw.length a.ps.length f=j6 s.Hw.length a.ps.length N+x->sJ s'=sJ s+b->1+b=x->∃f,ML a (aft s s' mv) f:=λ{f x b} y A B S =>
  ⟨f,y.dn' _,by
   show((s.done++[dY mv]).length:Int)+sJ s'=(s'.Hw.length:Int)+j6 s'.Hw.length a.ps.length f
   rw[v,B,p,A];lia⟩
 have lt:∀{m:Nat}{t:bj},s.Hw[m]?=Α t->m<s.Hw.length:=λd=>(gQ0 d)
 cases h with
 | @IB m l t ln d hg hl Ib ho =>
  have n:=G.leave d hg
  have D:=G.g0 m t d
  have T:=G.gl m t d
  have E:(cp s m t).Hw[m]?=Α {t with δ:=t.δ+1}:=cY d
  refine fin (b:=0) (n.enter E D.symm (λg=>?_) (λg=>?_) (by show t.δ+1<=t.len;lia) Ib ho) (lb (lt d) (ϡ _)) ?_ Κ
  ·have:=J.Jc m t d g
   rw[this];exact⟨Κ,Ñ⟩
  ·unfold bS at hl
   rw[Η g]at hl
   exact fE (j:=0) hl
  ·exact(fm _ Ib).trans (by show(s.γ.map (·.b)).sum+(ln.b - ln.b)=(s.γ.map (·.b)).sum+0;lia)
 | @on k l m c lk ln t hk hq d hl Ib ho =>
  obtain⟨i,o,r,F,n⟩:=G.pull hk hq d
  have q:=oF hk hq d hl
  have H:=(gQ0 o)
  obtain⟨U,X,Y⟩:=G.dn m t d i H
  have wl:=xP J d
  refine fin (b:=1) (n.enter (t:=t) d r (λg=>?_) (λg=>?_) (by lia) Ib ho) (lb (lt d) (by lia)) ?_ Κ
  ·rw[Θ g]at q
   refine⟨?_,q⟩
   rcases ă (i+1) t.ω.length with h|h
   ·have:=(G.dn m t d (i+1) h).2.1
    lia
   ·lia
  ·rw[Η g]at q
   rw[lZ (G.nd m t d) o]at q
   exact fE q
  ·have I:=fm (cn lk) hk
   have L:=fm (dG ln (m:Int) c t.len) Ib
   have M:(cn lk).b=lk.b+1:=rfl
   have O:(dG ln (m:Int) c t.len).b=ln.b:=rfl
   show(((s.γ.set k (cn lk)).set l (dG ln (m:Int) c t.len)).map (·.b)).sum=(s.γ.map (·.b)).sum+1
   rw[L,I,M,O];lia
 | @J4 k m e c lk t qs hk hq d hg he KA =>
  obtain⟨i,o,r,F,n⟩:=G.pull hk hq d
  have Q:=J.last m t d i k o (by show(a.ps.getD k (0,0)).2=_;rw[he,hg])
  rw[Q]at r n
  have wl:=xP J d
  refine fin (b:=1) (n.lay (t:=t) d r hg KA (λz=>by rw[z]at o;cases o)) (lb (lt d) wl) ?_ (by unfold wt;rw[Η (by lia)];rfl)
  exact(fm (cn lk) hk).trans (by show(s.γ.map (·.b)).sum+(lk.b+1 - lk.b)=(s.γ.map (·.b)).sum+1;lia)
 | @back k lk hk hb =>
  refine fin (x:=0) (b:=-1) (G.back hk hb) Κ ?_ Κ
  exact(fm (r9 lk) hk).trans (by show(s.γ.map (·.b)).sum+(lk.b - 1 - lk.b)=(s.γ.map (·.b)).sum+ -1;lia)
theorem ML.post(C:ML a s N)(o:1<=l):∃b,ML a (dB s x y l u) b:=by
 obtain⟨b,f,d⟩:=C.G.VE (x:=x) (y:=y) (l:=l) (u:=u) (by lia)
 refine⟨b,d,?_⟩
 have e:(dB s x y l u).Hw[s.Hw.length]?=Α ⟨x,y,l,u,0,[]⟩:=ö
 have g:∀i,b s.Hw.length i=0:=λi=>by
  cases i with
  |zero=>have:=d.g0 _ _ e;have:((b s.Hw.length 0+0:Nat):Int)=0:=this;lia
  |succ i=>have:b s.Hw.length (i+1)+0=0:=d.MI _ _ e (i+1) (Y9 _);lia
 have h:jC a.ps.length (b s.Hw.length)=0:=by
  unfold jC
  rw[show(λi=>wt i* b s.Hw.length i)=λi=>if i=a.ps.length+1 then 0 else 0 from funext λi=>by rw[g,Nat.mul_zero,ite_self]]
  rw[k7,ite_self]
 have j:j6 (s.Hw.length+1) a.ps.length b=j6 s.Hw.length a.ps.length N:=by
  unfold j6
  rw[É,Ϥ,ph]
  show _+(jC a.ps.length (b s.Hw.length)+0)=_
  rw[h,VY]
  congr 1
  refine đ λm n=>?_
  have:=Ϩ.mp n
  rw[show b m=N m from funext λi=>f m i (by lia)]
 show((s.done++[_]).length:Int)+sJ s=((s.Hw++[(⟨x,y,l,u,0,[]⟩:bj)]).length:Int)+j6 (s.Hw++[(⟨x,y,l,u,0,[]⟩:bj)]).length a.ps.length b
 rw[ϛ,Ã,ϛ,Ã,j]
 have:=C.c
 lia
theorem ML.psd(h:Of a s s')(C:ML a s N):∃b,ML a s' b:=by
 induction h with
 |nil=>exact⟨N,C⟩
 |snoc h c d=>obtain⟨f,e⟩:=d;exact e.post c.1
theorem Of.few(h:Of a s s')(c:∀t∈s.Hw,0<=t.len/\t.len<=4):∀t∈s'.Hw,0<=t.len/\t.len<=4:=by
 induction h with
 |nil=>exact c
 | @snoc s x y l u h hl ih =>
  intro t b
  have b:t∈s.Hw++[(⟨x,y,l,u,0,[]⟩:bj)]:=b
  grind
theorem Fy{L n W:Nat}(h:∀i,i<=L->f i<=n):jC L f<=n* (2* L+1):=by
 unfold jC
 have a:∀L,(∀i,i<=L->f i<=n)->((Υ (L+1)).map λi=>wt i* f i).sum<=n* (2* L+1):=by
  intro L
  induction L with
  | zero =>
   intro h
   have:=h 0 (Ξ _)
   show 1* f 0+0<=_
   lia
  | succ L b =>
   intro h
   rw[É,Ϥ,ph]
   have c:=b λi d=>h i (by lia)
   have g:=h (L+1) (Ξ _)
   have e:wt (L+1)=2:=Η (by lia)
   grind
 exact a L h
theorem xX:∀(l:List bj)(f:Nat->Nat)(c a:Nat),(∀(m:Nat)(t:bj),l[m]?=Α t->(f (a+m):Int)<=t.len* c)->((((Pe a l.length).map f).sum:Nat):Int)<=(l.map (·.len)).sum* c
 |[],f,c,a,_=>by simp
 | t:: l,f,c,a,h=>by
  have e:=h 0 t Κ
  have g:=xX l f c (a+1) λm b d=>by
   have:=h (m+1) b d
   grind
  rw[List.length_cons,List.range'_succ,È,ĩ,È,ĩ,Int.add_mul,Int.natCast_add]
  grind
theorem ML.most(C:ML a s N)(J:IY a s):(s.done.length:Int)<=s.Hw.length+Ay s* (2* a.ps.length+1:Nat):=by
 have o:0<=sJ s:=uJ λg l=>by
  obtain⟨k,n⟩:=ģ l
  exact(C.G.room k g n).2.2
 have p:=C.c
 have q:=xX s.Hw (λm=>jC a.ps.length (N m)) (2* a.ps.length+1) 0 (λm t b=>?_)
 ·unfold Ay
  have e:j6 s.Hw.length a.ps.length N=((Pe 0 s.Hw.length).map λm=>jC a.ps.length (N m)).sum:=by unfold j6;rw[List.range_eq_range']
  grind
 ·rw[Nat.zero_add]
  have G:=C.G
  have r:=G.g0 m t b
  have u:=G.gl m t b
  have d:∀i,i<=a.ps.length->N m i<=t.len.toNat:=λi _=>by
   rcases ă i t.ω.length with h|h
   ·have:=(G.dn m t b i h).2.2;lia
   ·rcases ă t.ω.length i with f|f
    ·have:N m i+0=0:=G.MI m t b i f;lia
    ·have v:i=t.ω.length:=by lia
     cases x:t.ω.length with
     |zero=>grind
     | succ j =>
      obtain⟨y,z,A⟩:=G.dn m t b j (by lia)
      grind
  have:=Fy (W:=0) d
  grind
theorem cst0{c:List Int}(h:∀r∈c,1<=r/\r<=60):ML a (Y0 (c.map V.int) n) zr:=by
 refine⟨gst0 h,?_⟩
 have e:sJ (Y0 (c.map V.int) n)=0:=by
  show((((c.map V.int).map rp).map (·.b))).sum=0
  have:∀l:List Int,((((l.map V.int).map rp).map (·.b))).sum=0:=by
   intro l
   induction l with
   |nil=>rfl
   |cons x l d=>show (0:Int)+_=0;rw[Õ];exact d
  exact this c
 rw[e]
 rfl
structure Mp(a:YA)(s:YS):Prop where
 b0:∀(k:Nat)(ln:Ie),s.γ[k]?=Α ln->ln.b<=0
 VF:∀(k m:Nat)(c:Int)(ln:Ie)(t:bj),s.γ[k]?=Α ln->ln.qs.head?=Α ((m:Int),c)->s.Hw[m]?=Α t->t.ι≠pS a k
 on0:∀(k m:Nat)(c:Int)(ln:Ie),s.γ[k]?=Α ln->ln.qs.head?=Α ((m:Int),c)->∀l∈bI a s k,cW s l m c=Δ
 in0:∀(m:Nat)(t:bj),s.Hw[m]?=Α t->t.δ≠t.len->∀l∈bS a t,cW s l m t.δ=Δ
theorem EY(h:bK a s=[]):Mp a s:=by
 unfold bK at h
 have o:=C1.mp h
 have p:=C1.mp o.1
 have q:=C1.mp p.1
 have b:∀{n:Nat}{f:Nat->List Mv},(Υ n).flatMap f=[]->∀k,k<n->f k=[]:=λe k d=>(ł.mp e) k (Ϩ.mpr d)
 have lt:∀{r:Type}{l:List r}{k:Nat}{x:r},l[k]?=Α x->k<l.length:=λe=>(gQ0 e)
 refine⟨λk u d=>?_,λk m c u t d i g=>?_,λk m c u d i l j=>?_,λm t g v l j=>?_⟩
 ·have e:=b o.2 k (lt d)
  unfold dh at e
  grind
 ·have e:=b p.2 k (lt d)
  unfold eJ aU at e
  rw[d]at e
  dsimp only at e
  rw[i]at e
  dsimp only at e
  rw[Τ,g]at e
  dsimp only at e
  intro y
  rw[Θ (show t.ι=(a.ps.getD k (0,0)).2 from y)]at e;cases e
 ·have e:=b q.2 k (lt d)
  unfold iM aU at e
  rw[d]at e
  dsimp only at e
  rw[i]at e
  dsimp only at e
  have e:=Ī.mp e
  have:=ō.mp e l j
  grind
 ·have e:=b q.1 m (lt g)
  unfold gX at e
  rw[g]at e
  dsimp only at e
  rw[Η v]at e
  have e:=Ī.mp e
  have:=ō.mp e l j
  grind
theorem rJ:∀{a:IPs}{x:Int}{r:List Int},gx m a=x:: r->∃i:Nat,a[i]?=Α ((m:Int),x)/\∀j:Nat,j<i->∀q:Int×Int,a[j]?=Α q->q.1≠(m:Int)
 |[],x,r,h=>by cases h
 | q:: a,x,r,h=>by
  obtain⟨f,b⟩:=q
  by_cases e:f=(m:Int)
  ·subst e
   rw[show((m:Int),b):: a=[((m:Int),b)]++a from Κ,gc,ga,Θ Κ]at h
   have h:=h
   exact⟨0,by rw[(ŝ h).1];rfl,λj c=>Ι c (Ņ _)⟩
  ·have h:gx m a=x:: r:=by
    unfold gx at h⊢
    rw[List.filter_cons_of_neg (by simpa using e)]at h
    exact h
   obtain⟨i,g,l⟩:=rJ h
   refine⟨i+1,g,λj c q d=>?_⟩
   cases j with
   |zero=>cases d;exact e
   |succ j=>exact l j (by lia) q d
theorem pU{m:Nat}(h:((m:Int),c)∈qs):c∈gx m qs:=by
 unfold gx
 exact Â.mpr ⟨_,Ϫ.mpr ⟨h,by simp⟩,Κ⟩
theorem Cf(h:c∈kD x y):(x:Int)<=c/\c<y:=by
 unfold kD at h
 grind
section
theorem Mp.right(S:Mp a s)(G:Jw a s N zr)(e:∀(k:Nat) (c:Ie),s.γ[k]?=Α c->1<=c.r+c.b+c.qs.length){k:Nat}(d:s.γ[k]?=Α c)(f:c.qs=[]):c.r≠0:=by
 have g:=e k c d
 have h:=S.b0 k c d
 grind
theorem Mp.held(S:Mp a s)(G:Jw a s N zr)(J:IY a s)(T:∀(k:Nat) (d:Ie),s.γ[k]?=Α d->1<=d.r+d.b+d.qs.length)(l:s.Hw[m]?=Α t):
  ∀(j k:Nat)(d:Ie),t.ω[j]?=Α k->s.γ[k]?=Α d->gx m d.qs=[]->(N m j:Int)<t.len->False:=by
 intro j
 induction j with
 | zero =>
  intro k d o p F H
  have v:=(G.hold k d p m t l).mpr ⟨0,o,H⟩
  have I:d.qs=[]:=by
   cases y:d.qs.getLast? with
   |none=>exact Ju.mp y
   | some q =>
    rcases G.π k d p q y with z|⟨z,_⟩
    ·rw[v]at z
     have e:=(ϋ z).symm
     have:=pU (m:=m) (c:=q.2) (show((m:Int),q.2)∈d.qs from e▸MT y)
     rw[F]at this;cases this
    ·rw[v]at z;cases z
  have L:=S.right G T p I
  have M:=(gQ0 o)
  have Y:=(G.dn m t l 0 M).2.1
  have g0:((N m 0+0:Nat):Int)=t.δ:=G.g0 m t l
  have f:=S.in0 m t l (by lia) k (by
   unfold bS
   rw[Η (by lia)]
   cases B:t.ω with
   |nil=>rw[B]at o;cases o
   |cons x xs=>rw[B]at o;cases o;exact Ϧ)
  unfold cW at f
  rw[p]at f
  dsimp only at f
  unfold bL at f
  rw[Η L,Η (by lia),v]at f
  simp at f
 | succ j Z =>
  intro k d o p F H
  have M:=(gQ0 o)
  have v:=(G.hold k d p m t l).mpr ⟨j+1,o,H⟩
  have I:d.qs=[]:=by
   cases y:d.qs.getLast? with
   |none=>exact Ju.mp y
   | some q =>
    rcases G.π k d p q y with z|⟨z,_⟩
    ·rw[v]at z
     have e:=(ϋ z).symm
     have:=pU (m:=m) (c:=q.2) (show((m:Int),q.2)∈d.qs from e▸MT y)
     rw[F]at this;cases this
    ·rw[v]at z;cases z
  have L:=S.right G T p I
  have Y:=(G.dn m t l (j+1) M).2.1
  have n:t.ω[j]?=Α t.ω[j]:=Λ (by lia)
  generalize t.ω[j]'(by lia)=A at n
  have C:A<s.γ.length:=by rw[J.γ];exact(J.IG m t l).1 A (Ψ n)
  have g:=Λ C
  generalize s.γ[A]=u at g
  have E:gx m u.qs=kD (N m (j+1)+0) (N m j):=G.q m t l j A u n g
  rw[VY]at E
  have Lj:=(G.dn m t l j (by lia)).1
  rcases ă (N m (j+1)) (N m j) with HS|O
  ·rw[qM HS]at E
   obtain⟨i,Q,D⟩:=rJ E
   have R:i=0:=by
    cases i with
    |zero=>rfl
    | succ i =>
     exfalso
     have Nz:=(gQ0 Q)
     have U:u.qs[i]?=Α u.qs[i]:=Λ (by lia)
     rcases G.OD A u g i _ _ U Q with ⟨z,_⟩|⟨z,_⟩
     ·exact D i (ê _) _ U z.symm
     ·have z:=z
      lia
   subst R
   have X:u.qs.head?=Α ((m:Int),(N m (j+1):Int)):=by rw[NB];exact Q
   have f:=S.on0 A m _ u g X k (by
    unfold bI aU
    rw[g]
    dsimp only
    rw[X]
    dsimp only
    rw[Τ,l]
    dsimp only
    rw[Η (by lia),lZ (G.nd m t l) n]
    have:(t.ω.drop (j+1))[0]?=Α k:=by rw[č];exact o
    cases B:t.ω.drop (j+1) with
    |nil=>rw[B]at this;cases this
    |cons x xs=>rw[B]at this;cases this;exact Ϧ)
   unfold cW at f
   rw[p]at f
   dsimp only at f
   unfold bL at f
   rw[Η L,Η (by lia),v]at f
   simp at f
  ·exact Z A u n g (by rw[E];exact jf O) (by lia)
theorem Mp.free(S:Mp a s)(G:Jw a s N zr)(J:IY a s)(g:∀(k:Nat) (c:Ie),s.γ[k]?=Α c->1<=c.r+c.b+c.qs.length){k:Nat}(d:s.γ[k]?=Α c)(i:c.qs=[]):c.h=Β:=by
 cases e:c.h with
 |none=>rfl
 | some z =>
  obtain⟨m,t,rfl,f⟩:=G.KG k c d z e
  obtain⟨j,l,n⟩:=(G.hold k c d m t f).mp e
  exact(S.held G J g f j k c l d (by rw[i];rfl) n).elim
theorem Mp.wants(S:Mp a s)(G:Jw a s N zr)(J:IY a s)(p:∀(k:Nat) (d:Ie),s.γ[k]?=Α d->1<=d.r+d.b+d.qs.length){k m:Nat}(n:s.γ[k]?=Α d)(o:d.qs.head?=Α ((m:Int),c))(e:s.Hw[m]?=Α t)(q:l∈bI a s k)(j:s.γ[l]?=Α lo):lo.qs≠[]:=λu=>by
 have A:=S.free G J p j u
 have x:=S.right G p j u
 have f:=S.on0 k m c d n o l q
 have g:=oF n o e q
 unfold cW at f
 rw[j]at f
 dsimp only at f
 unfold bL at f
 rw[Η x]at f
 by_cases y:c=0
 ·grind
 ·rw[Η y]at g
  obtain⟨i,v,B,C,_⟩:=G.pull n o e
  rw[lZ (G.nd m t e) v]at g
  have g:=fE g
  have z:=(gQ0 v)
  have D:=(G.dn m t e i z).2.2
  have E:=(G.hold l lo j m t e).mpr ⟨i+1,g,by lia⟩
  grind
theorem Mp.head(S:Mp a s)(G:Jw a s N zr)(J:IY a s){k m:Nat}(e:s.γ[k]?=Α ln)(f:ln.qs.head?=Α ((m:Int),c))(d:s.Hw[m]?=Α t)(b:bI a s k=[]):c=0:=by
 by_cases l:c=0
 ·exact l
 exfalso
 obtain⟨i,g,r,u,_⟩:=G.pull e f d
 have v:=(gQ0 g)
 unfold bI aU at b
 rw[e]at b
 dsimp only at b
 rw[f]at b
 dsimp only at b
 rw[Τ,d]at b
 dsimp only at b
 rw[Η l,lZ (G.nd m t d) g]at b
 have n:t.ω.length<=i+1:=by
  rcases ă (i+1) t.ω.length with h|h
  ·have:(t.ω.drop (i+1)).length=t.ω.length - (i+1):=ø ..
   cases y:t.ω.drop (i+1) with
   |nil=>grind
   |cons x xs=>grind
  ·exact h
 have p:t.ω.getLast?=Α k:=by
  grind
 rcases J.head m t d k ln p e with z|z
 ·have o:=pU z
  have j:=G.q m t d i k ln g e
  rw[j]at o
  have:=Cf o
  lia
 ·exact S.VF k m c ln t e f d z.symm
theorem Mp.starts(S:Mp a s)(G:Jw a s N zr)(J:IY a s)(i:∀(k:Nat) (d:Ie),s.γ[k]?=Α d->1<=d.r+d.b+d.qs.length){m:Nat}(e:s.Hw[m]?=Α t)(o:t.δ≠t.len)(f:l∈bS a t)(g:s.γ[l]?=Α lo):lo.qs≠[]:=λn=>by
 have v:=S.free G J i g n
 have p:=S.right G i g n
 have c:=S.in0 m t e o l f
 unfold cW at c
 rw[g]at c
 dsimp only at c
 unfold bL at c
 rw[Η p]at c
 by_cases q:t.δ=0
 ·grind
 ·unfold bS at f
  rw[Η q]at f
  have u:=fE (j:=0) f
  have x:=G.g0 m t e
  have y:=G.gl m t e
  have z:=(G.hold l lo g m t e).mpr ⟨0,u,by lia⟩
  grind
end
noncomputable def EE(s:YS)(m:Nat):List Nat:=(Υ m).filter λk=>(aU s k).isSome
theorem pQ(h:s.γ[k]?=Α ln):(aU s k).isSome= !ln.qs.isEmpty:=by
 unfold aU
 rw[h]
 cases a:ln.qs<;>simp[a]
theorem re(a:k<m)(h:s.γ[k]?=Α ln)(b:ln.qs≠[]):k∈EE s m:=
 Ϫ.mpr ⟨Ϩ.mpr a,by rw[pQ h];cases c:ln.qs with
  |nil=>exact Ι c b
  |cons _ _=>rfl⟩
noncomputable def sM(t:bj):Int×Int:=(t.start,t.ι)
def OE(a:YA)(s:YS):Prop:=∀p∈s.Hw.map sM,a.wy p.1.toNat p.2.toNat Β≠[]
theorem lS{l:List bj}(h:l[k]?=Α x)(e:sM y=sM x):(l.set k y).map sM=l.map sM:=by
 refine ū λi=>?_
 rw[ώ,ώ,ũ]
 by_cases a:k=i
 ·subst a
  rw[Θ Κ,Θ (gQ0 h),h]
  show Α (sM y)=Α (sM x)
  rw[e]
 ·rw[Η a]
theorem Kd.sgs(h:Kd a s m s'):s'.Hw.map sM=s.Hw.map sM:=by
 cases h with
 | @IB k l t ln ht hg hl Ib ho =>
  have e:(cp s k t).Hw.map sM=s.Hw.map sM:=lS ht Κ
  have f:(cp s k t).Hw[k]?=Α {t with δ:=t.δ+1}:=cY ht
  show(if t.δ=0 then (cp s k t).Hw.set k _ else (cp s k t).Hw).map sM=_
  split
  ·exact(lS (y:={({t with δ:=t.δ+1}:bj) with ω:=t.ω++[l]}) f Κ).trans e
  ·exact e
 | @on k l m c lk ln t hk hq ht hl Ib ho =>
  show(if c=0 then s.Hw.set m _ else s.Hw).map sM=_
  split
  ·exact lS (y:={t with ω:=t.ω++[l]}) ht Κ
  ·rfl
 |J4=>rfl
 |back=>rfl
theorem OE.post(W:OE a s)(h:a.wy x y Β≠[]):OE a (dB s x y l u):=λp b=>by
 have b:p∈(s.Hw++[(⟨(x:Int),(y:Int),l,u,0,[]⟩:bj)]).map sM:=b
 rw[Ϥ]at b
 rcases Á.mp b with b|b
 ·exact W p b
 ·rw[ϙ.mp b];exact h
theorem Of.rooms(h:Of a s s'):s'.rooms=s.rooms:=by
 induction h with
 |nil=>rfl
 |snoc _ _ b=>exact b
theorem uI:∀{l:List bj},(∀t∈l,t.δ=t.len)->(l.map (·.δ)).sum=(l.map (·.len)).sum
 |[],_=>rfl
 | x:: l,h=>by
  have b:=h x Ϧ
  have c:=uI λy a=>h y (Ϯ _ a)
  grind
theorem qm:∀l:List (IPs),(l.map λq=>(q.length:Int)).sum=(((l.map λq=>q.length).sum:Nat):Int)
 |[]=>rfl
 |x:: l=>by rw[È,È,ĩ,ĩ,qm l,Int.natCast_add]
theorem vG:∀{l:List bj},(∀t∈l,0<=t.len/\t.len<=4)->0<=(l.map (·.len)).sum/\(l.map (·.len)).sum<=4* l.length
 |[],_=>⟨ĺ _,ĺ _⟩
 | x:: l,h=>by
  have b:=h x Ϧ
  have c:=vG λy a=>h y (Ϯ _ a)
  grind
theorem D8(G:Jw a s N zr)(J:IY a s)(S:Mp a s)(v:∀(k:Nat) (c:Ie),s.γ[k]?=Α c->1<=c.r+c.b+c.qs.length)(W:OE a s)(A:∀p g k,p<a.n->g<a.n->∀z∈a.wy p g k,z<a.ps.length)(h:rL s=Δ):EE s a.ps.length≠[]:=λB=>by
 have j:∀(k:Nat)(c:Ie),s.γ[k]?=Α c->c.qs=[]:=λk c f=>by
  cases C:c.qs with
  |nil=>rfl
  | cons _ _ =>
   have:=re (m:=a.ps.length) (by rw[←J.γ];exact(gQ0 f)) f (by rw[C];intro z;cases z)
   rw[B]at this;cases this
 have L:kZ s=0:=BH _ λk c f=>by rw[j k c f];rfl
 have D:∀t∈s.Hw,t.δ=t.len:=λt o=>by
  obtain⟨m,e⟩:=ģ o
  apply Þ
  intro E
  obtain⟨x,y,ex,F,H,I⟩:=J.lets m t e
  obtain⟨l,hl,Kt⟩:∃l,l∈bS a t/\l<a.ps.length:=by
   unfold bS
   by_cases q:t.δ=0
   ·rw[Θ q]
    have i:=W (sM t) (QI o)
    have i:=i
    cases d:a.wy t.start.toNat t.ι.toNat Β with
    |nil=>exact Ι d i
    | cons l r =>
     refine⟨l,Ϧ,?_⟩
     rw[ex,F,Τ,Τ]at d
     exact A x y Β H I l (by rw[d];exact Ϧ)
   ·rw[Η q]
    cases d:t.ω with
    | nil =>
     have M:((N m 0+0:Nat):Int)=t.δ:=G.g0 m t e
     have:=G.top m t e d
     lia
    |cons l r=>exact⟨l,Ϧ,(J.IG m t e).1 l (by rw[d];exact Ϧ)⟩
  have u:=Λ (show l<s.γ.length by rw[J.γ];exact Kt)
  exact S.starts G J v e E hl u (j l _ u)
 have O:=J.sum
 have Q:i5 s=(s.Hw.map (·.len)).sum:=uI D
 unfold rL at h
 have h:=of_decide_eq_false h
 rw[qm]at h
 have R:¬(s.Hw.map (·.len)).sum=((kg s:Nat):Int):=h
 lia
noncomputable def eD(S:List Nat)(l g:Nat):Bool:=(S.getD l 0).testBit g
structure Ho(n:Nat)(ps:IPs)(wy:Wf)(nums:List Int)(S:List Nat):Prop where
 nl:nums.length=ps.length
 sl:S.length=ps.length
 lt:∀z∈S,z<2^n
 st:∀p g,p<n->g<n->∀l∈wy p g Β,eD S l g=Γ
 on:∀l g e:Nat,l<ps.length->g<n->eD S l g=Γ->(ps.getD l (0,0)).2=(e:Int)->e≠g->wy e g (Α l)≠[]/\∀w∈wy e g (Α l),eD S w g=Γ/\nums.getD l 0<nums.getD w 0
def LM(nums:List Int)(S:List Nat)(s:YS):Prop:=∀(m:Nat)(t:bj),s.Hw[m]?=Α t->(∀l∈t.ω,eD S l t.ι.toNat=Γ)/\(t.ω.map λl=>nums.getD l 0).Pairwise (· < ·)
theorem rK(O:xK a)(b:l<a.ps.length):∃e:Nat,(a.ps.getD l (0,0)).2=(e:Int)/\e<a.n:=by
 obtain⟨e,c,d⟩:=O.ends l _ (Λ b)
 exact⟨e,by rw[Ω,Λ b];exact c,d⟩
theorem zC(B:Ho a.n a.ps a.wy nums S)(O:xK a)(c:k<a.ps.length)(f:g<a.n)(h:eD S k g=Γ)(d:(a.ps.getD k (0,0)).2≠(g:Int)):
  ff a k g≠[]/\∀w∈ff a k g,eD S w g=Γ/\nums.getD k 0<nums.getD w 0:=by
 obtain⟨e,b,i⟩:=rK O c
 unfold ff
 rw[Η d,b,Τ]
 exact B.on k g e c f h b (λz=>d (by rw[b,z]))
theorem nc{k m:Nat}{lk:Ie}(b:s.γ[k]?=Α lk)(c:lk.qs.head?=Α ((m:Int),0))(d:s.Hw[m]?=Α t):bI a s k=(ff a k t.ι.toNat).filter λl=>!decide (l∈t.ω):=by
 have e:aU s k=Α ((m:Int),0):=by unfold aU;rw[b];exact c
 unfold bI
 rw[e]
 show(match s.Hw[(m:Int).toNat]? with|none=>[]|some t=>if (0:Int)=0 then (ff a k t.ι.toNat).filter λl=>!decide (l∈t.ω) else (t.ω.drop (t.ω.idxOf k+1)).take 1)=_
 rw[Τ,d]
 exact Θ Κ
theorem LM.step(B:Ho a.n a.ps a.wy nums S)(O:xK a)(R:LM nums S s)(J:IY a s)(h:Kd a s mv s'):LM nums S s':=by
 cases h with
 | @IB k l t ln ht hg d Ib ho =>
  intro m g b
  have X:(cp s k t).Hw[k]?=Α {t with δ:=t.δ+1}:=cY ht
  have G:LM nums S (cp s k t):=λm g b=>by
   rcases bv b with ⟨rfl,rfl⟩|⟨_,b⟩
   ·exact R m t ht
   ·exact R m g b
  have b:(if t.δ=0 then (cp s k t).Hw.set k {({t with δ:=t.δ+1}:bj) with ω:=t.ω++[l]} else (cp s k t).Hw)[m]?=Α g:=b
  by_cases i:t.δ=0
  ·rw[Θ i]at b
   rcases bv b with ⟨rfl,rfl⟩|⟨_,b⟩
   ·have H:=J.Jc m t ht i
    obtain⟨x,y,ex,q,I,C⟩:=J.lets m t ht
    unfold bS at d
    rw[Θ i,ex,q,Τ,Τ]at d
    refine⟨λz f=>?_,?_⟩
    ·have f:=f
     rw[H,List.nil_append]at f
     rw[ϙ.mp f]
     rw[q,Τ]
     exact B.st x y I C l d
    ·show((t.ω++[l]).map λl=>nums.getD l 0).Pairwise (· < ·)
     rw[H]
     simp
   ·exact G m g b
  ·rw[Η i]at b
   exact G m g b
 | @on k l m c lk ln t hk hq ht d Ib ho =>
  intro j g b
  have b:(if c=0 then s.Hw.set m {t with ω:=t.ω++[l]} else s.Hw)[j]?=Α g:=b
  by_cases i:c=0
  ·rw[Θ i]at b
   rcases bv b with ⟨rfl,rfl⟩|⟨_,b⟩
   ·subst i
    rw[nc hk hq ht]at d
    have d:=(Ϫ.mp d).1
    obtain⟨D,E⟩:=R j t ht
    have r:=J.MF k lk hk j t (Ž hq) ht
    obtain⟨x,y,ex,q,I,C⟩:=J.lets j t ht
    rw[q,Τ]at d D
    have L:=MT r
    have N:=(J.IG j t ht).1 k L
    have Q:(a.ps.getD k (0,0)).2≠(y:Int):=λz=>by unfold ff at d;rw[Θ z]at d;cases d
    obtain⟨T,Y⟩:=(zC B O N C (D k L) Q).2 l d
    refine⟨λz f=>?_,?_⟩
    ·show eD S z t.ι.toNat=Γ
     rw[q,Τ]
     rcases Á.mp (f) with f|f
     ·exact D z f
     ·rw[ϙ.mp f];exact T
    ·show((t.ω++[l]).map λl=>nums.getD l 0).Pairwise (· < ·)
     rw[Ϥ,eu]
     refine⟨E,by simp,λu o v F=>?_⟩
     have F:v=nums.getD l 0:=by simpa using F
     rw[F]
     have U:u<=nums.getD k 0:=by
      obtain⟨M,e⟩:∃M,t.ω=M++[k]:=ţ.mp r
      rw[e,Ϥ]at o E
      rcases Á.mp o with o|o
      ·exact Int.le_of_lt ((eu.mp E).2.2 u o _ (ϙ.mpr Κ))
      ·have:u=nums.getD k 0:=by simpa using o
       lia
     lia
   ·exact R j g b
  ·rw[Η i]at b
   exact R j g b
 |J4=>exact R
 |back=>exact R
theorem LM.post(R:LM nums S s):LM nums S (dB s x y l u):=λm t h=>by
 have h:(s.Hw++[(⟨x,y,l,u,0,[]⟩:bj)])[m]?=Α t:=h
 rw[List.getElem?_append]at h
 split at h
 ·exact R m t h
 ·have:t=⟨x,y,l,u,0,[]⟩:=by
   have:=Ψ h
   simpa using this
  subst this
  exact⟨λl a=>(by cases a),ŏ⟩
theorem LM.dn(R:LM nums S s)(d:List (List V)):LM nums S {s with done:=d}:=R
theorem At(f:Nat->Int):∀(l:List Nat),l≠[]->∃k∈l,∀j∈l,f j<=f k
 |[],h=>Ι Κ h
 |[x],_=>⟨x,Ϧ,λj a=>by grind⟩
 | x:: y:: r,_=>by
  obtain⟨k,b,h⟩:=At f (y:: r) (by simp)
  grind
theorem never(B:Ho a.n a.ps a.wy nums S)(O:xK a)(R:LM nums S s)(G:Jw a s N zr)(J:IY a s)(Z:Mp a s)(T:∀(k:Nat) (h:Ie),s.γ[k]?=Α h->1<=h.r+h.b+h.qs.length)(W:OE a s)(U:∀p g k,p<a.n->g<a.n->∀z∈a.wy p g k,z<a.ps.length):rL s=Γ:=by
 cases he:rL s with
 |true=>rfl
 | false =>
  exfalso
  obtain⟨k,hk,hm⟩:=At (λl=>nums.getD l 0) _ (D8 G J Z T W U he)
  obtain⟨v,A⟩:=Ϫ.mp hk
  have v:=Ϩ.mp v
  have E:k<s.γ.length:=by rw[J.γ];exact v
  have j:=Λ E
  generalize s.γ[k]=h at j
  obtain⟨q,hq⟩:∃q,h.qs.head?=Α q:=by
   have A:=A
   unfold aU at A
   rw[j]at A
   exact D3.mp A
  obtain⟨z,c⟩:=q
  obtain⟨m,t,F,f,X⟩:=J.Jr k h j _ (Ž hq)
  have F:=F
  subst F
  obtain⟨x,y,ex,H,hx,Y⟩:=J.lets m t f
  obtain⟨hb,D⟩:=R m t f
  have up:∃l,l∈bI a s k/\l<a.ps.length/\nums.getD k 0<nums.getD l 0:=by
   by_cases I:c=0
   ·subst I
    have Ij:(a.ps.getD k (0,0)).2≠(y:Int):=λe=>Z.VF k m 0 h t j hq f (by rw[H];exact e.symm)
    rw[H,Τ]at hb
    obtain⟨u,o⟩:=zC B O v Y (hb k X) Ij
    obtain⟨l,d⟩:∃l,l∈ff a k y:=by
     cases L:ff a k y with
     |nil=>exact Ι L u
     |cons l r=>exact⟨l,Ϧ⟩
    have HS:=(o l d).2
    have M:=J.MF k h j m t (Ž hq) f
    refine⟨l,?_,?_,HS⟩
    ·rw[nc j hq f,H,Τ]
     refine Ϫ.mpr ⟨d,?_⟩
     rw[Ζ λC=>?_];rfl
     have χ:nums.getD l 0<=nums.getD k 0:=by
      obtain⟨w',e⟩:∃w',t.ω=w'++[k]:=ţ.mp M
      rw[e]at C D
      rw[Ϥ]at D
      rcases Á.mp C with Q|Q
      ·exact Int.le_of_lt ((eu.mp D).2.2 _ (QI Q) _ (ϙ.mpr Κ))
      ·rw[ϙ.mp Q];exact ĺ _
     lia
    ·unfold ff at d
     rw[Η Ij]at d
     obtain⟨e,u,o⟩:=rK O v
     rw[u,Τ]at d
     exact U e y _ o Y l d
   ·have ZY:=λe=>I (Z.head G J j hq f e)
    obtain⟨l,d⟩:∃l,l∈bI a s k:=by
     cases L:bI a s k with
     |nil=>exact Ι L ZY
     |cons l r=>exact⟨l,Ϧ⟩
    have u:=oF j hq f d
    rw[Η I]at u
    have o:=fE u
    obtain⟨i,hi⟩:=ģ X
    rw[lZ (J.IG m t f).2 hi]at o
    refine⟨l,d,(J.IG m t f).1 l (Ψ o),?_⟩
    obtain⟨b1,e1⟩:=ϝ.mp hi
    obtain⟨b2,e2⟩:=ϝ.mp o
    have:=hX.mp D i (i+1) (by rw[Ρ];exact b1) (by rw[Ρ];exact b2) (by lia)
    rw[ka,ka,e1,e2]at this
    exact this
  obtain⟨l,d,Kt,HS⟩:=up
  have K0:=Λ (show l<s.γ.length by rw[J.γ];exact Kt)
  have:=hm l (re Kt K0 (Z.wants G J T j hq f d K0))
  lia
theorem A0(h:dI rs k=Α r):aP r=k:=by
 have:=List.find?_some h
 simpa using this
abbrev fg:=Hp->Ο->Nat->(bo->Nat)->Prop
inductive iF(J:fg)(vs:List V)(H:Hp)(Q:VK)(E:XK):Prop
 |mk (x:Ο) (n:Nat) (wy:bo->Nat) (r:Rw) (_:vs=[.ref x,.int r.p,.int r.g,cV r.c]) (_:J H x n wy) (_:(0<=r.p/\r.p<n)) (_:(0<=r.g/\r.g<n)) (_:∀H' D,Hz H H'->H' D=Β->Q (.ref D) (ο H' D (.π (fF (wy (aP r))))))
structure mX(K:ϧ)(C:Ο)(J:fg):Prop where
 cl:Km K C
 inst:∀H x n wy,J H x n wy->∃dx fs,H x=Α (.ρ C dx fs)/\fs.lookup ("ways":Str)=Β
 IZ:∀H H' x n wy,J H x n wy->Hz H H'->J H' x n wy
noncomputable def pH(wy:bo->Nat)(p g:Nat):Bool:=!decide (wy [Α (p:Int),Α (g:Int),Β]=0)
noncomputable def bZ(wy:bo->Nat)(p m:Nat):IPs:=((Υ m).filter λg=>pH wy p g).map λg:Nat=>((p:Int),(g:Int))
noncomputable def bN(wy:bo->Nat)(n m:Nat):IPs:=(Υ m).flatMap λp=>bZ wy p n
theorem jT(a:bo->Nat)(n i:Nat):bN a n (i+1)=bN a n i++bZ a i n:=by
 unfold bN
 rw[É,Ĭ]
 simp
theorem qL(a:bo->Nat)(p j:Nat):bZ a p (j+1)=if pH a p j then bZ a p j++[((p:Int),(j:Int))] else bZ a p j:=by
 unfold bZ
 rw[É,Ĥ]
 grind
theorem vh(a:bo->Nat)(p m:Nat):(bZ a p m).length<=m:=by
 unfold bZ
 grind
theorem lf(a:bo->Nat)(n:Nat):∀m,(bN a n m).length<=m* n
 |0=>by simp[bN]
 | m+1=>by
  rw[jT,ϛ,Nat.succ_mul]
  have:=lf a n m
  have:=vh a m n
  lia
abbrev As:=List (Nat×Option Nat)
noncomputable def addW(l:Option Nat)(a:As)(ws:List Nat):As:=ws.foldl (λa x=>if x∈a.map (·.1) then a else a++[(x,l)]) a
noncomputable def iI(on:Nat->List Nat):Nat->As->Nat->As
 |0,a,_=>a
 | f+1,a,i=>match a[i]? with
  |some x=>iI on f (addW (Α x.1) a (on x.1)) (i+1)
  |none=>a
structure K2(L:Nat)(a:As):Prop where
 nd:(a.map (·.1)).Nodup
 lt:∀x∈a,x.1<L
theorem K2.few(h:K2 L a):a.length<=L:=by
 have:=dE L (a.map (·.1)) h.nd λx b=>by
  obtain⟨y,c,rfl⟩:=Â.mp b
  exact h.lt y c
 rwa [Ρ]at this
theorem K2.add(h:K2 L a)(d:x<L)(e:x∉a.map (·.1)):K2 L (a++[(x,l)]) where
 nd:=by
  rw[Ϥ,Ĵ]
  refine⟨h.nd,by simp,λy b c f=>?_⟩
  grind
 lt:=λy b=>by
  rcases Á.mp b with b|b
  ·exact h.lt y b
  grind
theorem Bm(l:Option Nat)(a:As):addW l a []=a:=rfl
theorem o0(l:Option Nat)(a:As)(b:List Nat)(x:Nat):addW l a (b++[x])=if x∈(addW l a b).map (·.1) then addW l a b else addW l a b++[(x,l)]:=by
 unfold addW
 rw[Ū];rfl
theorem ly(h:a[i]?=Β):∀f,iI on f a i=a
 |0=>rfl
 |f+1=>by unfold iI;rw[h]
theorem jB(h:a[i]?=Α x):iI on (f+1) a i=iI on f (addW (Α x.1) a (on x.1)) (i+1):=by
 rw[iI,h]
inductive qr(c:Cs)(C:Ο)(J:fg)(vs:List V)(H:Hp)(Q:VK)(E:XK):Prop
 |mk (x dx lx HJ lt:Ο) (fs:List (Str×V)) (n:Nat) (HE:List V) (ps:IPs) (wy:bo->Nat) (_:vs=[.ref x]) (_:J H x n wy) (_:H x=Α (.ρ C dx fs)) (_:fs.lookup ("land":Str)=Α (.ref lx)) (_:cK H c lx HJ lt n HE ps) (_:n<=12) (_:∀(D:Ο)(us:List V)(H':Hp),Hz H H'->H D=Β->H' D=Α (.π us)->HW H' us (bN wy n n)->Q (.ref D) H')
abbrev NSt:List Str:=["table","found","place","goal"]
theorem tN(m:Nat):(!(fF m).isEmpty)= !decide (m=0):=by
 congr 1
 rw[ri,List.isEmpty_iff,decide_eq_true_eq]
 unfold fF
 rw[Ī]
 constructor
 ·intro h
  have:=Yd.OQ (Yd.Jf m)
  rw[h]at this
  exact this.symm
 ·rintro rfl;rfl
theorem Pp:aq NSt si (ag oU):=bM
theorem wS(F:HZ K "starts" "starts" oU f fd)(T:dz mg)(L:i3 K c)(W:mX K C J)(nl:HL K C "land")(Gw:Me P w K mg μ C "ways" 3 kn (iF J)):
  HB P w K mg μ aK 4 f fd si (qr c C J):=by
 refine F.ok Pp λ_ _ _ s H _ Q E hr h=>?_
 obtain⟨x,I,lx,HJ,lt,fs,n,HE,ps,a,rfl,hJ,z,hf,hL,hn,q⟩:=h
 refine⟨_,ac (bG 1 Pp.nd (aJ ad))
  (ac (eI (aE Κ T.range (aa (aR (aR (pv 0))) ad)) (b9 2 Pp.nd)
   (af (eI (aE Κ T.range (aa (aR (aR (pv 0))) ad)) (b9 3 Pp.nd)
    (af (aC (fq (cE (pv 0) W.cl Gw hr (aa (pv 2) (aa (pv 3) (aa aT ad)))) (λ_=>rfl))
     (af (aF (ck plainAttrs_list PySem.F.slot_list_append PySem.F.type_list_append bq (pv 1) (aa (aM (aa (pv 2) (aa (pv 3) ad))) ad)))) ar)))))
  (af (ao (pv 1)))),?_⟩
 obtain⟨KI,Io,A,Kc⟩:=W.inst _ _ _ _ hJ
 rw[z]at A
 injection A with A
 injection A with _ e1 e2
 subst e1 e2
 refine⟨ϡ _,λD M=>?_⟩
 have N:=(Hz.refl H).new (o:=.π []) M
 refine⟨x,C,I,_,_,Κ,N _ _ z,W.cl,nl,hf,_,_,_,_,_,Κ,N _ _ hL.1,L.cl,L.np,Κ,_,Κ,by lia,by lia,?_⟩
 rw[Τ]
 refine aS (n:=n) (λi d p=>∃(O g:Option V)(us:List V),Hz H p/\p D=Α (.π us)/\HW p us (bN a n i)/\d=[Α (.ref x),Α (.ref D),O,g])
  ⟨Β,Β,[],N,ae,.nil,Κ⟩ ?_ ?_
 ·rintro i d p hi ⟨O,g,us,v,R,S,rfl⟩
  rw[Õ]
  refine⟨x,C,I,_,_,Κ,v _ _ z,W.cl,nl,hf,_,_,_,_,_,Κ,v _ _ hL.1,L.cl,L.np,Κ,_,Κ,by lia,by lia,?_⟩
  rw[Τ]
  refine aS (n:=n) (λj d r=>∃(g:Option V)(us:List V),Hz H r/\r D=Α (.π us)/\HW r us (bN a n i++bZ a i j)/\d=[Α (.ref x),Α (.ref D),Α (.int i),g])
   ⟨_,us,v,R,by simpa [bZ] using S,Κ⟩ ?_ ?_
  ·rintro j d r hj ⟨g,us,u,l,y,rfl⟩
   rw[Õ]
   refine⟨x,I,_,Κ,u _ _ z,Kc,x,n,a,⟨(i:Int),(j:Int),Β,[]⟩,Κ,W.IZ _ _ _ _ _ hJ u,⟨ĭ i,ų.mpr hi⟩,⟨ĭ j,ų.mpr hj⟩,λU X Sr Y=>?_⟩
   have m:Hz r (ο U X (.π (fF (a (aP ⟨(i:Int),(j:Int),Β,[]⟩))))):=Sr.new Y
   refine⟨_,.inl ⟨_,HC.of ae,Κ⟩,?_⟩
   rw[tN]
   have hlen:us.length<=200:=by
    have e:=Paired.length y
    rw[ϛ]at e
    have b1:=lf a n i
    have b2:=vh a i j
    have b3:i* n<=12* 12:=Nat.mul_le_mul (by lia) hn
    lia
   cases B:pH a i j with
   | false =>
    have Z:(!decide (a (aP ⟨(i:Int),(j:Int),Β,[]⟩)=0))=Δ:=B
    have hR:=m _ _ l
    rw[Z]
    refine au ⟨_,us,u.trans m,hR,?_,Κ⟩
    rw[qL,B]
    exact HW.same m y
   | true =>
    have Z:(!decide (a (aP ⟨(i:Int),(j:Int),Β,[]⟩)=0))=Γ:=B
    rw[Z]
    generalize ο U X _=H5 at m⊢
    refine az ⟨.inl ⟨Κ,_,HC.of (m _ _ l)⟩,by show 2<=Χ;decide,λt ht=>?_⟩
    have s6:=(Hz.refl H5).new (o:=.tup [.int i,.int j]) ht
    have gT:=aX H5 t (.tup [.int i,.int j])
    have nT:=ϗ (ai (m _ _ l) ht)
    generalize ο H5 t _=H6 at s6 gT⊢
    have G:=m.trans s6
    refine⟨D,_,_,Κ,Κ,G _ _ l,by rw[ϊ];lia,_,_,λb o e=>by rw[aj (ai e M)];exact G _ _ (u _ _ e),ae,?_,Κ⟩
    rw[qL,B,Θ Κ,←Ĝ]
    exact HW.snoc ⟨t,Κ,aI nT gT _⟩ (vE (G _ _ l) (HW.same G y))
  ·rintro d r ⟨g,us,u,l,y,rfl⟩
   refine⟨_,_,_,u,l,?_,Κ⟩
   rw[jT]
   exact y
 ·rintro d p ⟨O,g,us,v,R,S,rfl⟩
  exact(q D us p v M R S)
noncomputable def wl(wy:bo->Nat)(k:bo):List Nat:=Yd.J7 (wy k) (Ϭ ((wy k:Nat):Int))
theorem vC(a:bo->Nat)(k:bo):fF (a k)=nV (wl a k):=rfl
noncomputable def cu(wy:bo->Nat)(ps:IPs)(g l:Nat):List Nat:=if (ps.getD l (0,0)).2=(g:Int) then [] else wl wy [Α (ps.getD l (0,0)).2,Α (g:Int),Α (l:Int)]
noncomputable def bf(wy:bo->Nat)(g m:Nat):List Nat:=(Υ m).flatMap λp:Nat=>wl wy [Α (p:Int),Α (g:Int),Β]
theorem mo(a:bo->Nat)(g m:Nat):bf a g (m+1)=bf a g m++wl a [Α (m:Int),Α (g:Int),Β]:=by
 unfold bf
 rw[É,Ĭ];simp
structure Ir(c:Cs)(C:Ο)(J:fg)(H:Hp)(x lx HJ lt:Ο)(n:Nat)(HE:List V)(ps:IPs)(wy:bo->Nat):Prop where
 j:J H x n wy
 i:∃dx fs,H x=Α (.ρ C dx fs)/\fs.lookup ("land":Str)=Α (.ref lx)
 l:cK H c lx HJ lt (n:Int) HE ps
 Lw:n<=12
 few:ps.length<=40
 ok:∀k,∀z∈wl wy k,z<ps.length
 nr:∀k,(wl wy k).length<=40
 pk:∀q∈ps,iK n q=Γ
theorem Ir.same(W:mX K C J)(h:Ir c C J H x lx HJ lt n HE ps wy)(s:Hz H H'):Ir c C J H' x lx HJ lt n HE ps wy:=
 ⟨W.IZ _ _ _ _ _ h.j s,let ⟨dx,fs,h1,h2⟩:=h.i;⟨dx,fs,s _ _ h1,h2⟩,⟨s _ _ h.l.1,s _ _ h.l.2.1,HW.same s h.l.2.2⟩,h.Lw,h.few,h.ok,h.nr,h.pk⟩
theorem De(h:iK n q=Γ):0<=q.2/\q.2<n:=by
 unfold iK at h
 grind
inductive yq(c:Cs)(C:Ο)(J:fg)(vs:List V)(H:Hp)(Q:VK)(E:XK):Prop
 |mk (x lx HJ lt:Ο) (n:Nat) (HE:List V) (ps:IPs) (wy:bo->Nat) (l g:Nat) (_:vs=[.ref x,.int l,.int g]) (_:Ir c C J H x lx HJ lt n HE ps wy) (_:l<ps.length) (_:g<n) (_:∀(D:Ο)(H':Hp),Hz H H'->H D=Β->H' D=Α (.π (nV (cu wy ps g l)))->Q (.ref D) H')
inductive uY(c:Cs)(C:Ο)(J:fg)(vs:List V)(H:Hp)(Q:VK)(E:XK):Prop
 |mk (x lx HJ lt:Ο) (n:Nat) (HE:List V) (ps:IPs) (wy:bo->Nat) (g:Nat) (_:vs=[.ref x,.int g]) (_:Ir c C J H x lx HJ lt n HE ps wy) (_:g<n) (_:∀(D:Ο)(H':Hp),Hz H H'->H D=Β->H' D=Α (.π (nV (bf wy g n)))->Q (.ref D) H')
theorem VH(F:HZ K "onward" "onward" XG f fd)(L:i3 K c)(W:mX K C J)(A:HL K C "land")(B:Me P w K mg μ C "ways" 3 kn (iF J))
  (G:Me P w K mg μ c.land "end_of" 1 eC (gm c Î)):HB P w K mg μ aK 4 f fd pZ (yq c C J):=by
 refine F.ok Pj λ_ _ _ s H _ Q E t h=>?_
 obtain⟨x,u,v,lt,n,I,d,M,l,g,rfl,a,N,O,q⟩:=h
 refine⟨_,ac (bG 3 Pj.nd (cE (aR (pv 0)) L.cl G t (aa (pv 1) ad)))
  (af (ao (dC (bJ br (pv 3) (pv 2)) (aJ ad) (cE (pv 0) W.cl B t (aa (pv 3) (aa (pv 2) (aa (pv 1) ad))))))),?_⟩
 obtain⟨y,fs,r,R⟩:=a.i
 obtain⟨Y,Z,e,S⟩:=W.inst _ _ _ _ a.j
 rw[r]at e
 injection e with e
 injection e with _ T U
 subst T U
 have m:=Λ N
 have X:d.getD l (0,0)=d[l]:=by rw[Ω,m];rfl
 unfold cu at q
 rw[X]at q
 generalize d[l]=o at m q
 refine⟨x,C,y,_,_,Κ,r,W.cl,A,R,u,v,_,Κ,a.l.1,Κ,u,v,_,_,I,d,l,o,Κ,a.l,m,Κ,_,Κ,?_⟩
 rw[bC]
 by_cases p:o.2=(g:Int)
 ·rw[Ε p]
  rw[Θ p]at q
  exact az ⟨ϡ _,λD b=>q D _ ((Hz.refl H).new b) b ae⟩
 ·rw[Ζ p]
  rw[Η p]at q
  exact au ⟨x,y,fs,Κ,r,S,x,n,M,⟨o.2,(g:Int),Α l,[]⟩,Κ,a.j,De (a.pk o (Ψ m)),⟨ĭ g,ų.mpr O⟩,λH' D z b=>q D _ (z.new b) (z.free b) ae⟩
theorem RH:aq ["table","goal","found","place"] qb (ag sY):=bM
theorem zV(F:HZ K "first_lanes" "first_lanes" sY f fd)(T:dz mg)(L:i3 K c)(W:mX K C J)(R:HL K C "land")(S:Me P w K mg μ C "ways" 3 kn (iF J)):
  HB P w K mg μ aK 4 f fd qb (uY c C J):=by
 refine F.ok RH λ_ _ _ s H _ Q E U h=>?_
 obtain⟨x,X,Y,lt,n,HE,ps,d,g,rfl,a,Z,q⟩:=h
 refine⟨_,ac (bG 2 RH.nd (aJ ad))
  (ac (eI (aE Κ T.range (aa (aR (aR (pv 0))) ad)) (b9 3 RH.nd)
   (af (aF (ck plainAttrs_list slot_list_extend type_list_extend dP (pv 2) (aa (cE (pv 0) W.cl S U (aa (pv 3) (aa (pv 1) (aa aT ad)))) ad)))))
  (af (ao (pv 2)))),?_⟩
 obtain⟨M,fs,u,hf⟩:=a.i
 obtain⟨KI,Io,r,Kc⟩:=W.inst _ _ _ _ a.j
 rw[u]at r
 injection r with r
 injection r with _ e1 e2
 subst e1 e2
 have hn:=a.Lw
 refine⟨ϡ _,λD v=>?_⟩
 have y:=(Hz.refl H).new (o:=.π []) v
 refine⟨x,C,M,_,_,Κ,y _ _ u,W.cl,R,hf,X,_,Y,_,_,Κ,y _ _ a.l.1,L.cl,L.np,Κ,_,Κ,by lia,by lia,?_⟩
 rw[Τ]
 refine aS (n:=n) (λi z m=>∃A:Option V,Hz H m/\m D=Α (.π (nV (bf d g i)))/\(bf d g i).length<=40* i/\z=[Α (.ref x),Α (.int g),Α (.ref D),A])
  ⟨Β,y,ae,ϡ _,Κ⟩ ?_ ?_
 ·rintro i z m hi ⟨A,p,t,hl,rfl⟩
  rw[Õ]
  refine⟨.inl ⟨Κ,_,HC.of t⟩,x,M,_,Κ,p _ _ u,Kc,x,n,d,⟨(i:Int),(g:Int),Β,[]⟩,Κ,W.IZ _ _ _ _ _ a.j p,⟨ĭ i,ų.mpr hi⟩,⟨ĭ g,ų.mpr Z⟩,λN B s3 G=>?_⟩
  have hk:aP ⟨(i:Int),(g:Int),Β,[]⟩=[Α (i:Int),Α (g:Int),Β]:=rfl
  rw[hk,vC]
  have I:=s3.new (o:=.π (nV (wl d [Α (i:Int),Α (g:Int),Β]))) G
  have O:=aX N B (.π (nV (wl d [Α (i:Int),Α (g:Int),Β])))
  generalize ο N B _=H4 at I O⊢
  have hw:=a.nr [Α (i:Int),Α (g:Int),Β]
  refine⟨D,B,_,_,Κ,Κ,I _ _ t,O,by rw[ϊ,aw,aw];lia,_,λb o e=>by rw[aj (ai e v)];exact I _ _ (p _ _ e),by rw[ae,mo,eV],by rw[mo,ϛ];lia,Κ⟩
 ·rintro z m ⟨A,p,t,hl,rfl⟩
  exact(q D m p v t)
noncomputable def oV:Option Nat->V
 |some l =>.int (l:Int)
 |none =>.HU
noncomputable def ak(x:Nat×Option Nat):_L2.Key×V:=(ϫ (x.1:Int),oV x.2)
theorem mB(p:Nat):∀a:As,(cC (a.map ak) (ϫ (p:Int))).isSome=decide (p∈a.map (·.1))
 |[]=>rfl
 | x:: a=>by
  have b:=mB p a
  rw[È]
  by_cases h:x.1=p
  ·rw[gy (show(ak x).1=ϫ (p:Int) by rw[←h];rfl),Ε (by grind)];rfl
  ·rw[gA (λz=>h (by have:=LU z;lia)),b,È]
   grind
theorem vj{a:As}{x:Nat}(h:x∉a.map (·.1)):cX (a.map ak) (ϫ (x:Int)) (oV c)=(a++[(x,c)]).map ak:=by
 have b:cC (a.map ak) (ϫ (x:Int))=Β:=by
  have:=mB x a
  rw[Ζ h]at this
  exact Option.not_isSome_iff_eq_none.mp (by rw[this];decide)
 rw[lB _ b,Ϥ];rfl
theorem Cn{a:As}{x:Nat}(b:∀y∈a,y.2=Β)(h:x∈a.map (·.1)):cX (a.map ak) (ϫ (x:Int)) .HU=a.map ak:=by
 unfold cX
 rw[iU,mB,Ε h,Θ Κ,Ú]
 refine đ λy c=>?_
 show(if (ak y).1=ϫ (x:Int) then ((ak y).1,V.HU) else ak y)=ak y
 split
 ·unfold ak;rw[b y c];rfl
 ·rfl
theorem sg:∀(b:List Nat)(a:As),(∀y∈a,y.2=Β)->∀y∈addW Β a b,y.2=Β
 |[],a,h=>h
 | x:: b,a,h=>by
  refine sg b _ ?_
  grind
theorem K2.addW:∀(b:List Nat){a:As},K2 L a->(∀x∈b,x<L)->K2 L (_K.addW l a b)
 |[],a,h,_=>h
 | x:: b,a,h,hw=>by
  show K2 L (_K.addW l (if x∈a.map (·.1) then a else a++[(x,l)]) b)
  refine K2.addW b ?_ λy c=>hw y (Ϯ _ c)
  split
  ·exact h
  ·exact h.add (hw x Ϧ) (by assumption)
noncomputable def bx(wy:bo->Nat)(ps:IPs)(n g:Nat):As:=iI (cu wy ps g) ps.length (addW Β [] (bf wy g n)) 0
inductive oR(c:Cs)(C:Ο)(J:fg)(vs:List V)(H:Hp)(Q:VK)(E:XK):Prop
 |mk (x lx HJ lt:Ο) (n:Nat) (HE:List V) (ps:IPs) (wy:bo->Nat) (g:Nat) (_:vs=[.ref x,.int g]) (_:Ir c C J H x lx HJ lt n HE ps wy) (_:g<n) (_:∀(D:Ο)(H':Hp),Hz H H'->H D=Β->K2 ps.length (bx wy ps n g)->H' D=Α (.dK ((bx wy ps n g).map ak))->Q (.ref D) H')
abbrev NAh:List Str:=["table","goal","ahead","lane","line","looked_at","way"]
theorem LF:aq NAh qb (ag t7):=bM
theorem Ab(F:HZ K "lanes_ahead" "lanes_ahead" t7 f fd)(T:dz mg)(W:mX K C J)
  (Gf:Ca P w K mg μ "first_lanes" 4 qb (uY c C J))
  (Go:Ca P w K mg μ "onward" 4 pZ (yq c C J)):
  HB P w K mg μ aK 5 f fd qb (oR c C J):=by
 refine F.ok LF λ_ _ _ s H _ Q E hr h=>?_
 obtain⟨x,lx,HJ,lt,n,HE,b,d,g,rfl,hT,hg,q⟩:=h
 have hu:=ma hr
 have h40:=hT.few
 refine⟨_,ac (bG 2 LF.nd lD)
  (ac (eI (aL (bF Gf hr (aa (pv 0) (aa (pv 1) ad)))) (b9 3 LF.nd)
   (af (kF hu (pv 2) (pv 3) aT Κ)))
  (ac (bG 4 LF.nd (bP (m7 Κ) Κ T.list PySem.Pv.boot_list (aa (pv 2) ad)))
  (ac (bG 5 LF.nd ah)
  (ac (dS ñ (bJ jX (pv 5) (gq T.len (pv 4)))
   (ac (bG 3 LF.nd (be HN (pv 4) (pv 5)))
   (ac (pi (i:=5) LF.nd Κ (kS Κ) ah pJ)
   (af (eI (aL (bF Go hr (aa (pv 0) (aa (pv 3) (aa (pv 1) ad))))) (b9 6 LF.nd)
    (af (aC (jE (fz hu (pv 6) (pv 2)))
     (ac (kF hu (pv 2) (pv 6) (pv 3) Κ)
     (af (aF (ck plainAttrs_list PySem.F.slot_list_append PySem.F.type_list_append bq (pv 4) (aa (pv 6) ad))))) ar)))))))
  (af (ao (pv 2))))))),?_⟩
 refine λj Ke=>?_
 have s0:=(Hz.refl H).new (o:=.dK []) Ke
 have S0:(ο H j (.dK [])) j=Α (.dK ([].map ak)):=ae
 generalize ο H j _=H0 at s0 S0⊢
 refine⟨x,_,_,_,n,_,b,d,g,Κ,hT.same W s0,hg,λFl H1 s1 hFl gFl=>⟨Fl,Κ,⟨_,HC.of gFl⟩,?_⟩⟩
 have XX:=s1 _ _ S0
 have nFf:=ϗ (ai S0 hFl)
 have Sv:∀z∈bf d g n,z<b.length:=λz D=>by
  obtain⟨p,_,D⟩:=â.mp D
  exact hT.ok _ z D
 refine b8 (K:=K) (a:=Fl) (xs:=nV (bf d g n)) (λi u M=>∃a3:Option V,Hz H M/\M Fl=Α (.π (nV (bf d g n)))/\M j=Α (.dK ((addW Β [] ((bf d g n).take i)).map ak))/\u=[Α (.ref x),Α (.int g),Α (.ref j),a3,Β,Β,Β])
  ⟨Β,s0.trans s1,gFl,XX,Κ⟩ (λi u M _ HD=>by obtain⟨_,_,g2,_⟩:=HD;exact HC.of g2) ?_ ?_
 ·rintro i v u M B ⟨a3,s2,g2,Z,rfl⟩
  have hi:i<(bf d g n).length:=by have:=(gQ0 B);rw[aw]at this;exact this
  have r:=Λ hi
  have JK:=bB r
  rw[JK]at B
  have B:=ϋ B
  subst B
  generalize (bf d g n)[i]=l at r
  have hA:K2 b.length (addW Β [] ((bf d g n).take i)):=K2.addW _ ⟨by simp,λy G=>by cases G⟩ λz D=>Sv z (Ā D)
  have Jj:=hA.few
  have hnon:=sg ((bf d g n).take i) [] λy G=>by cases G
  have OF:=o0 Β [] ((bf d g n).take i) l
  have N8:(bf d g n).take (i+1)=(bf d g n).take i++[l]:=by rw[Ì,r];rfl
  refine⟨j,_,Κ,L8.k (k:=ϫ (l:Int)) Z (by rw[ϊ,Ρ];lia),_,s2.put Ke,aI nFf g2 _,?_,Κ⟩
  rw[ae,N8,OF]
  by_cases hm:l∈(addW Β [] ((bf d g n).take i)).map (·.1)
  ·rw[Θ hm,Cn hnon hm]
  ·rw[Η hm]
   exact congrArg (λz=>Α (HO.dK z)) (vj (c:=Β) hm)
 rintro u M ⟨a3,s2,g2,Z,rfl⟩
 rw[aw,Æ]at Z
 have hA0:K2 b.length (addW Β [] (bf d g n)):=K2.addW _ ⟨by simp,λy G=>by cases G⟩ Sv
 have VI:bx d b n g=iI (cu d b g) (b.length - 0) (addW Β [] (bf d g n)) 0:=rfl
 generalize addW Β [] (bf d g n)=a0 at Z hA0 VI
 refine⟨j,_,Κ,.inl Z,λt Ib=>?_⟩
 have el:(a0.map ak).map (λp=>kV p.1)=nV (a0.map (·.1)):=by
  unfold nV
  rw[Ú,Ú];rfl
 rw[el]
 have s3:=s2.new (o:=.π (nV (a0.map (·.1)))) Ib
 have RC:=s2.free Ib
 have gl:=aX M t (.π (nV (a0.map (·.1))))
 have VJ:=cf Z Ib (.π (nV (a0.map (·.1))))
 generalize ο M t _=H3 at s3 gl VJ⊢
 refine⟨λm u N=>∃(a:As)(i:Nat)(b3 I:Option V),m=b.length - i/\K2 b.length a/\i<=a.length/\bx d b n g=iI (cu d b g) (b.length - i) a i/\Hz H N/\N j=Α (.dK (a.map ak))/\N t=Α (.π (nV (a.map (·.1))))/\u=[Α (.ref x),Α (.int g),Α (.ref j),b3,Α (.ref t),Α (.int (i:Nat)),I],
  ⟨b.length - 0,a0,0,_,_,Κ,hA0,ϡ _,VI,s3,VJ,gl,Κ⟩,?_⟩
 rintro m u H4 ⟨a,i,b3,I,rfl,hA,hile,JH,s4,Yi,VL,rfl⟩
 have Jj:=hA.few
 refine⟨t,_,Κ,.inl (HC.of VL),_,_,Κ,Κ,_,Κ,?_⟩
 by_cases hi:i<a.length
 rotate_left
 ·have e:i=a.length:=by lia
  subst e
  rw[Ζ (by rw[aw,Ρ];lia)]
  rw[ly (Ë (Ξ _))]at JH
  exact au (q j H4 s4 Ke (by rw[JH];exact hA) (by rw[JH];exact Yi))
 rw[Ε (by rw[aw,Ρ];lia)]
 have G:=Λ hi
 generalize a[i]=lc at G
 obtain⟨l,lc⟩:=lc
 have hl:=hA.lt _ (Ψ G)
 have hpl:(nV (a.map (·.1)))[i]?=Α (.int (l:Int)):=bB (by rw[ώ,G];rfl)
 have MN:bx d b n g=iI (cu d b g) (b.length - (i+1)) (addW (Α l) a (cu d b g l)) (i+1):=by
  rw[JH,show b.length - i=(b.length - (i+1))+1 by lia,jB G]
 have M6:∀z∈cu d b g l,z<b.length:=λz D=>by
  unfold cu at D
  split at D
  ·cases D
  ·exact hT.ok _ z D
 refine az ⟨λσ' N=>∃(O:As)(b3 I:Option V),K2 b.length O/\i+1<=O.length/\bx d b n g=iI (cu d b g) (b.length - (i+1)) O (i+1)/\Hz H N/\N j=Α (.dK (O.map ak))/\N t=Α (.π (nV (O.map (·.1))))/\σ'=[Α (.ref x),Α (.int g),Α (.ref j),b3,Α (.ref t),Α (.int ((i:Int)+1)),I],
  λσ' N HD=>by obtain⟨O,b3,I,h1,h2,h3,h4,h5,h6,h7⟩:=HD;exact⟨_,by lia,O,_,_,I,Κ,h1,h2,h3,h4,h5,h6,h7⟩,?_⟩
 refine⟨t,_,_,_,Κ,Κ,HC.of VL,al hpl,_,_,Κ,Κ,x,_,_,_,n,_,b,d,l,g,Κ,hT.same W s4,hl,hg,λOl H5 s5 hOl R=>⟨Ol,Κ,⟨_,HC.of R⟩,?_⟩⟩
 have nOf:=ϗ (ai Yi hOl)
 have nOl:=ϗ (ai VL hOl)
 have Vu:=bc VL Yi (by intro z;cases z)
 generalize cu d b g l=A at R M6 MN
 refine b8 (K:=K) (a:=Ol) (xs:=nV A) (λm u L=>∃I:Option V,K2 b.length (addW (Α l) a (A.take m))/\a.length<=(addW (Α l) a (A.take m)).length/\Hz H L/\L Ol=Α (.π (nV A))/\L j=Α (.dK ((addW (Α l) a (A.take m)).map ak))/\L t=Α (.π (nV ((addW (Α l) a (A.take m)).map (·.1))))/\
   u=[Α (.ref x),Α (.int g),Α (.ref j),Α (.int (l:Int)),Α (.ref t),Α (.int ((i:Int)+1)),I])
  ⟨_,hA,Ξ _,s4.trans s5,R,s5 _ _ Yi,s5 _ _ VL,Κ⟩ (λm u L _ HD=>by obtain⟨_,_,_,_,g6,_⟩:=HD;exact HC.of g6) ?_ ?_
 ·rintro m v u L B ⟨I,S,MO,s6,V8,U,OB,rfl⟩
  have hm:m<A.length:=by have:=(gQ0 B);rw[aw]at this;exact this
  have r:=Λ hm
  have JK:=bB r
  rw[JK]at B
  have B:=ϋ B
  subst B
  generalize A[m]=y at r
  have hyl:=M6 y (Ψ r)
  have N8:A.take (m+1)=A.take m++[y]:=by rw[Ì,r];rfl
  have OF:=o0 (Α l) a (A.take m) y
  generalize hae:addW (Α l) a (A.take m)=X at S MO U OB OF
  have hf6:=S.few
  refine⟨j,_,Κ,II.k (k:=ϫ (y:Int)) U,_,Κ,?_⟩
  rw[mB]
  by_cases JF:y∈X.map (·.1)
  ·rw[Ε JF]
   refine au ⟨_,?_,?_,s6,V8,?_,?_,Κ⟩<;>rw[N8,OF,Θ JF]
   ·exact S
   ·exact MO
   ·exact U
   ·exact OB
  ·rw[Ζ JF]
   refine az ⟨j,_,Κ,L8.k (k:=ϫ (y:Int)) U (by rw[ϊ,Ρ];lia),?_⟩
   have ep:cX (X.map ak) (ϫ (y:Int)) (V.int (l:Int))=(X++[(y,Α l)]).map ak:=vj (c:=Α l) JF
   rw[ep]
   have Q9:=aI nOf V8 (.dK ((X++[(y,Α l)]).map ak))
   have Y:=aI Vu OB (.dK ((X++[(y,Α l)]).map ak))
   have gf7:=aX L j (.dK ((X++[(y,Α l)]).map ak))
   have s7:Hz H (ο L j (.dK ((X++[(y,Α l)]).map ak))):=s6.put Ke
   generalize ο L j _=H7 at Q9 Y gf7 s7⊢
   refine⟨.inl ⟨Κ,_,HC.of Y⟩,t,_,_,Κ,Κ,Y,by rw[ϊ,aw,Ρ];lia,_,?_,?_,s7.put RC,aI nOl Q9 _,?_,?_,Κ⟩<;>rw[N8,OF,Η JF]
   ·exact S.add hyl JF
   ·rw[ϛ];lia
   ·rw[aj (ϗ Vu)];exact gf7
   ·rw[ae,Ϥ,eV];rfl
 ·rintro u L ⟨I,S,MO,s6,V8,U,OB,rfl⟩
  rw[aw,Æ]at S MO U OB
  exact⟨_,_,_,S,by lia,MN,s6,U,OB,Κ⟩
noncomputable def eT(g:Nat)(S:List Nat)(l:Nat):List Nat:=S.set l (S.getD l 0|||2^g)
noncomputable def AL(wy:bo->Nat)(ps:IPs)(n:Nat)(S:List Nat)(g:Nat):List Nat:=((bx wy ps n g).map (·.1)).foldl (eT g) S
noncomputable def bW(wy:bo->Nat)(ps:IPs)(n m:Nat):List Nat:=(Υ m).foldl (AL wy ps n) (Ϗ ps.length 0)
theorem gY(a:bo->Nat)(b:IPs)(n m:Nat):bW a b n (m+1)=AL a b n (bW a b n m) m:=by
 unfold bW
 rw[É,Ū];rfl
theorem qx(g:Nat)(S:List Nat)(l:Nat):(eT g S l).length=S.length:=by unfold eT;grind
theorem jP(g:Nat):∀(a S:List Nat),(a.foldl (eT g) S).length=S.length
 |[],S=>rfl
 |l:: a,S=>by rw[OK,jP g a,qx]
theorem eK(b:bo->Nat)(a:IPs)(n:Nat):∀m,(bW b a n m).length=a.length
 |0=>by unfold bW;simp
 |m+1=>by rw[gY];unfold AL;rw[jP,eK b a n m]
theorem BR(b:g<m)(h:∀z∈S,z<2^m)(l:Nat):∀z∈eT g S l,z<2^m:=λz a=>by
 unfold eT at a
 rcases List.mem_or_eq_of_mem_set a with a|a
 ·exact h z a
 ·rw[a]
  refine Nat.or_lt_two_pow ?_ (Nat.pow_lt_pow_right (by decide) b)
  rw[Ω]
  cases e:S[l]? with
  |none=>exact VR m
  |some y=>exact h y (Ψ e)
theorem rH(b:g<m):∀(a:List Nat){S:List Nat},(∀z∈S,z<2^m)->∀z∈a.foldl (eT g) S,z<2^m
 |[],S,h=>h
 |l:: a,S,h=>rH b a (BR b h l)
theorem iN(a:bo->Nat)(b:IPs)(n:Nat):∀m,m<=n->∀z∈bW a b n m,z<2^n
 | 0,_,z,hz=>by
  unfold bW at hz
  grind
 | m+1,h,z,hz=>by
  rw[gY]at hz
  exact rH (by lia) _ (iN a b n m (by lia)) z hz
inductive yz(c:Cs)(C:Ο)(J:fg)(vs:List V)(H:Hp)(Q:VK)(E:XK):Prop
 |mk (x lx HJ lt:Ο) (n:Nat) (HE:List V) (ps:IPs) (wy:bo->Nat) (_:vs=[.ref x]) (_:Ir c C J H x lx HJ lt n HE ps wy) (_:∀(D:Ο)(H':Hp),Hz H H'->H D=Β->H' D=Α (.tup (nV (bW wy ps n n)))->Q (.ref D) H')
abbrev NMt:List Str:=["table","sets","goal","lane"]
theorem Pq:aq NMt si (ag yY):=bM
theorem bkMt:IP NMt (ag yY) (pX ((aB yY).getD 0 (.Pass ⟨0,0,0,0⟩))) [] []:=_L2.Jv
theorem ndMt:(["lane"]:List Str).Nodup:=by decide +kernel
theorem FR(F:HZ K "met" "met" yY f fd)(T:dz mg)(L:i3 K c)(W:mX K C J)(nl:HL K C "land")
  (Gh:Ca P w K mg μ "lanes_ahead" 5 qb (oR c C J)):
  HB P w K mg μ aK 6 f fd si (yz c C J):=by
 refine F.ok Pq λ_ _ _ s H _ Q E hr h=>?_
 obtain⟨x,Z,HJ,lt,n,D,b,d,rfl,r,q⟩:=h
 have h40:=r.few
 have hn:=r.Lw
 refine⟨_,ac (bU (i:=1) (own:=["lane"]) (capN:=[]) (cap:=[]) bkMt Κ Pq.nd Κ Κ (dU (aR (aR (pv 0))))
   (λC s' H' fp=>⟨b9 0 ndMt,bu,ah⟩))
  (ac (eI (aE Κ T.range (aa (aR (aR (pv 0))) ad)) (b9 2 Pq.nd)
   (af (eI (kG (bF Gh hr (aa (pv 0) (aa (pv 2) ad)))) (b9 3 Pq.nd)
    (af (gN (aA E6 (be HN (pv 1) (pv 3)) (aA tE ah (pv 2))) (pw (pv 1) (pv 3) iZ))))))
  (af (ao (bP ce Κ T.tuple PySem.Pv.boot_tuple (aa (pv 1) ad))))),?_⟩
 obtain⟨dx,fs,hx,hf⟩:=r.i
 have htl:=Paired.length r.l.2.2
 refine⟨x,C,_,_,_,Κ,hx,W.cl,nl,hf,Z,_,_,_,_,Κ,r.l.1,L.cl,L.nl,Κ,_,Κ,⟨_,HF.of r.l.2.1⟩,aW D.length (by rw[ϊ];lia) (λi acc u=>u=H/\acc=nV (Ϗ i 0)) ⟨Κ,Κ⟩ (λi acc u h=>by rw[h.2,aw,é];exact Ξ _) ?_ ?_⟩
 ·rintro i acc u hi ⟨rfl,rfl⟩
  refine⟨⟨D,D[i],HF.of r.l.2.1,Λ hi⟩,λy H5 hy=>?_⟩
  obtain⟨rfl,_⟩:=hy
  refine⟨Κ,?_⟩
  rw[MQ,eV];rfl
 rintro acc u ⟨rfl,rfl⟩
 refine⟨⟨D,HF.of r.l.2.1,Ξ _⟩,λm M=>?_⟩
 rw[htl]
 have R:=(Hz.refl u).new (o:=.π (nV (Ϗ b.length 0))) M
 have g1:(ο u m (.π (nV (Ϗ b.length 0)))) m=Α (.π (nV (bW d b n 0))):=ae
 generalize ο u m _=H1 at R g1⊢
 refine⟨x,C,_,_,_,Κ,R _ _ hx,W.cl,nl,hf,Z,_,_,_,_,Κ,R _ _ r.l.1,L.cl,L.np,Κ,_,Κ,by lia,by lia,?_⟩
 rw[Τ]
 refine aS (n:=n) (λg z N=>∃a2 A:Option V,Hz u N/\N m=Α (.π (nV (bW d b n g)))/\z=[Α (.ref x),Α (.ref m),a2,A])
  ⟨Β,Β,R,g1,Κ⟩ ?_ ?_
 ·rintro g z N hg ⟨a2,A,O,U,rfl⟩
  rw[Õ]
  refine⟨x,Z,_,_,n,D,b,d,g,Κ,r.same W O,hg,λB H3 s3 Ke hA gfa=>⟨B,_,Κ,gfa,λX=>?_⟩⟩
  have Vy:=aX H3 B (.Jm X (.dK ((bx d b n g).map ak)))
  have s5:Hz N (ο H3 B (.Jm X (.dK ((bx d b n g).map ak)))):=s3.put Ke
  generalize ο H3 B _=H5 at Vy s5⊢
  have nfS:=ϗ (ai U Ke)
  refine rG (a:=B) (o:=X) (kvs:=(bx d b n g).map ak) (λj z G=>∃A:Option V,Hz u G/\G m=Α (.π (nV ((((bx d b n g).map (·.1)).take j).foldl (eT g) (bW d b n g))))/\G B=Α (.Jm X (.dK ((bx d b n g).map ak)))/\z=[Α (.ref x),Α (.ref m),Α (.int (g:Int)),A])
   ⟨_,O.trans s5,s5 _ _ U,Vy,Κ⟩ (λj z G _ HD=>by obtain⟨_,_,_,Y,_⟩:=HD;exact Y) ?_ ?_
  ·rintro j k z G hk ⟨A,s6,I,Y,rfl⟩
   have hj:j<(bx d b n g).length:=by have:=(gQ0 hk);simpa using this
   have v:=Λ hj
   generalize (bx d b n g)[j]=pd at v
   obtain⟨l,lc⟩:=pd
   have ek:k=ϫ (l:Int):=by
    rw[ώ,ώ,v]at hk
    exact(ϋ hk).symm
   subst ek
   rw[show kV (ϫ (l:Int))=V.int (l:Int) from Κ]
   have hl:=hA.lt _ (Ψ v)
   have hjm:((bx d b n g).map (·.1))[j]?=Α l:=by rw[ώ,v];rfl
   have N8:(((bx d b n g).map (·.1)).take (j+1)).foldl (eT g) (bW d b n g)=eT g ((((bx d b n g).map (·.1)).take j).foldl (eT g) (bW d b n g)) l:=by
    rw[Ì,hjm,Ū];rfl
   have Lp:((((bx d b n g).map (·.1)).take j).foldl (eT g) (bW d b n g)).length=b.length:=by rw[jP,eK]
   rw[N8]
   generalize (((bx d b n g).map (·.1)).take j).foldl (eT g) (bW d b n g)=S at I Lp
   refine⟨m,_,_,_,Κ,Κ,HC.of I,al (fW (p:=l) (by lia)),_,_,Κ,Κ,⟨(show (0:Int)<=(g:Int) by lia),(show (g:Int)<=1000000 by lia),(by decide)⟩,_,_,Κ,Κ,m,_,_,l,Κ,Κ,I,js (by rw[aw];lia),?_⟩
   have e:š ((S.getD l 0:Nat):Int) (1* 2^(g:Int).toNat)=((S.getD l 0|||2^g:Nat):Int):=by
    rw[Τ,one_mul,show (2:Int)^g=((2^g:Nat):Int) by rw[L3];rfl,Yd.KL]
   dsimp only
   rw[e,G8]
   exact⟨_,s6.put M,ae,aI nfS Y _,Κ⟩
  ·rintro z G ⟨A,s6,I,Y,rfl⟩
   refine⟨_,_,s6,?_,Κ⟩
   rw[Ħ (by rw[Ρ,Ρ];exact Ξ _)]at I
   rw[gY];exact I
 ·rintro z N ⟨a2,A,O,U,rfl⟩
  refine⟨m,_,Κ,.inl ⟨HC.of U,λt ht=>q t _ (O.new ht) (O.free ht) ae⟩⟩
noncomputable def eM(wy:bo->Nat)(ps:IPs)(l g:Nat):Bool:=!decide ((ps.getD l (0,0)).2=(g:Int))&& (cu wy ps g l).isEmpty
inductive qv(c:Cs)(C:Ο)(J:fg)(vs:List V)(H:Hp)(Q:VK)(E:XK):Prop
 |mk (x lx HJ lt:Ο) (n:Nat) (HE:List V) (ps:IPs) (wy:bo->Nat) (l g:Nat) (_:vs=[.ref x,.int l,.int g]) (_:Ir c C J H x lx HJ lt n HE ps wy) (_:l<ps.length) (_:g<n) (_:∀H',Hz H H'->Q (.bl (eM wy ps l g)) H')
theorem scIl:aq pZ pZ (ag oZ):=bM
theorem wW(F:HZ K "is_lost" "is_lost" oZ f fd)(L:i3 K c)(W:mX K C J)(z:HL K C "land")(A:Me P w K mg μ c.land "end_of" 1 eC (gm c Î))
  (Go:Ca P w K mg μ "onward" 4 pZ (yq c C J)):
  HB P w K mg μ aK 5 f fd pZ (qv c C J):=by
 refine F.ok scIl λ_ _ _ s H _ Q E r h=>?_
 obtain⟨x,m,o,lt,n,t,a,b,l,g,rfl,d,u,B,q⟩:=h
 refine⟨_,af (ao (cv (vn dc (cE (aR (pv 0)) L.cl A r (aa (pv 1) ad)) (pv 2)) (cP (Ct (bF Go r (aa (pv 0) (aa (pv 1) (aa (pv 2) ad)))))))),?_⟩
 obtain⟨G,fs,I,M⟩:=d.i
 have p:=Λ u
 have N:a.getD l (0,0)=a[l]:=by rw[Ω,p];rfl
 unfold eM at q
 rw[N]at q
 generalize a[l]=v at p q
 refine⟨x,C,G,_,_,Κ,I,W.cl,z,M,m,o,_,Κ,d.l.1,Κ,m,o,_,_,t,a,l,v,Κ,d.l,p,Κ,_,Κ,?_⟩
 rw[bC]
 by_cases j:v.2=(g:Int)
 ·rw[Ε j]
  have:=q H (Hz.refl H)
  rw[Ε j]at this
  exact au this
 ·rw[Ζ j]
  refine az ⟨x,m,o,lt,n,t,a,b,l,g,Κ,d,u,B,λD y O S R=>?_⟩
  refine⟨_,.inl ⟨_,HC.of R,Κ⟩,?_⟩
  have:=q y O
  rw[Ζ j]at this
  have e:(!(!(nV (cu b a g l)).isEmpty))=(cu b a g l).isEmpty:=by
   rw[Bool.not_not]
   cases cu b a g l<;>rfl
  rw[e]
  exact this
noncomputable def cR(m:Nat):List Nat:=Yd.J7 m (Ϭ (m:Int))
theorem nP(m:Nat):fF m=nV (cR m):=rfl
noncomputable def lE(S:List Nat)(l:Nat):List (Nat×Nat):=(cR (S.getD l 0)).map λg=>(l,g)
noncomputable def eU(S:List Nat)(m:Nat):List (Nat×Nat):=(Υ m).flatMap (lE S)
noncomputable def dH(wy:bo->Nat)(ps:IPs)(n:Nat):Option (Nat×Nat):=(eU (bW wy ps n n) ps.length).find? λq=>eM wy ps q.1 q.2
theorem iJ(S:List Nat)(m:Nat):eU S (m+1)=eU S m++lE S m:=by
 unfold eU
 rw[É,Ĭ];simp
theorem wN(S:List Nat)(h:m<=k):∃r,eU S k=eU S m++r:=by
 induction k with
 |zero=>exact⟨[],by grind⟩
 | succ k b =>
  rcases ă k m with a|a
  ·exact⟨[],by grind⟩
  ·obtain⟨r,e⟩:=b a
   exact⟨_,by rw[iJ,e,Ĝ]⟩
def VN(H:Hp)(v:V):Option (Nat×Nat)->Prop
 |none=>v=.HU
 |some q=>∃t,v=.ref t/\H t=Α (.tup [.int (q.1:Int),.int (q.2:Int)])
theorem pA(h:m<2^n)(c:g∈cR m):g<n:=by
 have b:=(Yd.Iz (Yd.Jf m)).mp c
 refine Nat.lt_of_not_le λa=>?_
 rw[Ł (Ϝ h (ç (by decide) a))]at b
 cases b
inductive y3(c:Cs)(C:Ο)(J:fg)(vs:List V)(H:Hp)(Q:VK)(E:XK):Prop
 |mk (x lx HJ lt:Ο) (n:Nat) (HE:List V) (ps:IPs) (wy:bo->Nat) (_:vs=[.ref x]) (_:Ir c C J H x lx HJ lt n HE ps wy) (_:∀(v:V)(H':Hp),Hz H H'->VN H' v (dH wy ps n)->Q v H')
abbrev NLo:List Str:=["table","lane","goals","goal"]
theorem Pt:aq NLo si (ag za):=bM
theorem CQ(F:HZ K "lost" "lost" za f fd)(T:dz mg)(W:mX K C J)
  (Gm:Ca P w K mg μ "met" 6 si (yz c C J))
  (Gb:Ca P w K mg μ "members" 2 ["some"] nn)
  (Gi:Ca P w K mg μ "is_lost" 5 pZ (qv c C J)):
  HB P w K mg μ aK 7 f fd si (y3 c C J):=by
 refine F.ok Pt λ_ _ _ s H _ Q E X h=>?_
 obtain⟨x,lx,HJ,lt,n,HE,d,p,rfl,Y,q⟩:=h
 have hn:=Y.Lw
 refine⟨_,ac (eI (gP Κ T.enum (aa (bF Gm X (aa (pv 0) ad)) ad)) (bO Κ (av (b9 1 Pt.nd) (av (b9 2 Pt.nd) bz)))
   (af (eI (aL (bF Gb X (aa (pv 2) ad))) (b9 3 Pt.nd)
    (af (aC (aQ (bF Gi X (aa (pv 0) (aa (pv 1) (aa (pv 3) ad))))) (af (ao (aM (aa (pv 1) (aa (pv 3) ad))))) ar)))))
  (af (ao aT)),?_⟩
 refine⟨x,_,_,_,n,_,d,p,Κ,Y,λMt Z s1 hMt y=>⟨Mt,Κ,⟨_,HF.of y⟩,?_⟩⟩
 have Lp:=eK p d n n
 have Mq:=iN p d n n (Ξ _)
 unfold dH at q
 generalize bW p d n n=S at y Lp Mq q
 refine fI (sq:=λH=>HF K H Mt) (xs:=nV S) (λi u G=>∃a1 a2 A:Option V,Hz Z G/\(∀z∈eU S i,eM p d z.1 z.2=Δ)/\u=[Α (.ref x),a1,a2,A])
  ⟨Β,Β,Β,Hz.refl Z,(λz b=>by cases b),Κ⟩ (λi u G _ HD=>by obtain⟨_,_,_,I,_⟩:=HD;exact HF.of (I _ _ y)) ?_ ?_
 ·rintro l v r u G e ⟨a1,a2,A,I,L,rfl⟩ Pu
  have hl:l<S.length:=by have:=(gQ0 e);rw[aw]at this;exact this
  have JK:=fW hl
  rw[JK]at e
  have e:=ϋ e
  subst e
  have Og:S.getD l 0<2^n:=by
   rw[Ω,Λ hl]
   exact Mq _ (ã hl)
  have s3:=I.new (o:=.tup [.int (l:Int),.int ((S.getD l 0:Nat):Int)]) Pu
  refine⟨r,_,Κ,HF.of ae,Κ,_,_,Κ,_,_,Κ,Κ,?_⟩
  generalize ο G r _=H3 at s3⊢
  refine⟨_,Κ,Ϝ Og (ç (by decide) (by lia)),λM VO=>⟨M,Κ,⟨_,HC.of ae⟩,?_⟩⟩
  rw[nP]
  have s4:=s3.new (o:=.π (nV (cR (S.getD l 0)))) VO
  have g4:=aX H3 M (.π (nV (cR (S.getD l 0))))
  generalize ο H3 M _=H4 at s4 g4⊢
  refine b8 (K:=K) (a:=M) (xs:=nV (cR (S.getD l 0))) (λm u N=>∃A:Option V,Hz Z N/\N M=Α (.π (nV (cR (S.getD l 0))))/\(∀g∈(cR (S.getD l 0)).take m,eM p d l g=Δ)/\u=[Α (.ref x),Α (.int (l:Int)),Α (.int ((S.getD l 0:Nat):Int)),A])
   ⟨_,s4,g4,λg hg=>by simp at hg,Κ⟩ (λm u N _ HD=>by obtain⟨_,_,U,_⟩:=HD;exact HC.of U) ?_ ?_
  ·rintro m v u N e ⟨A,O,U,R,rfl⟩
   have hm:m<(cR (S.getD l 0)).length:=by have:=(gQ0 e);rw[aw]at this;exact this
   have j:=Λ hm
   have JK:=bB j
   rw[JK]at e
   have e:=ϋ e
   subst e
   generalize (cR (S.getD l 0))[m]=g at j
   refine⟨x,_,_,_,n,_,d,p,l,g,Κ,Y.same W (s1.trans O),by lia,pA Og (Ψ j),λH6 s6=>⟨_,Κ,?_⟩⟩
   cases hb:eM p d l g with
   | false =>
    refine au ⟨_,O.trans s6,s6 _ _ U,λB D=>?_,Κ⟩
    rw[Ì,j]at D
    rcases Á.mp D with h|h
    ·exact R B h
    ·have:B=g:=by simpa using h
     rw[this];exact hb
   | true =>
    refine az ⟨by show 2<=Χ;decide,λt ht=>?_⟩
    refine q _ _ ((s1.trans (O.trans s6)).new ht) ?_
    obtain⟨rest,er⟩:=wN S (m:=l+1) (k:=d.length) (by lia)
    have RI:cR (S.getD l 0)=(cR (S.getD l 0)).take m++g:: (cR (S.getD l 0)).drop (m+1):=by
     have hd:(cR (S.getD l 0)).drop m=g:: (cR (S.getD l 0)).drop (m+1):=by
      rw[JO hm]
      congr 1
      exact ϋ ((Λ hm).symm.trans j)
     exact(IT m (cR (S.getD l 0))).symm.trans (by rw[hd])
    have ef:(eU S d.length).find? (λq=>eM p d q.1 q.2)=Α (l,g):=by
     rw[er,iJ,Ĝ,Tw,Ď.mpr (λz b=>by rw[L z b];decide),þ]
     unfold lE
     rw[RI,Ϥ,Ĝ,Tw,Ď.mpr (λz b=>by
      obtain⟨B,D,rfl⟩:=Â.mp b
      rw[R B D];decide),þ]
     show Se _ ((l,g):: _)=_
     rw[List.find?_cons_of_pos (by exact hb)]
    rw[ef]
    exact⟨t,Κ,ae⟩
  ·rintro u N ⟨A,O,U,R,rfl⟩
   rw[aw,Æ]at R
   refine⟨_,_,_,O,λz b=>?_,Κ⟩
   rw[iJ]at b
   rcases Á.mp b with b|b
   ·exact L z b
   ·obtain⟨B,D,rfl⟩:=Â.mp b
    exact R B D
 ·rintro u G ⟨a1,a2,A,I,L,rfl⟩
  rw[aw,Lp]at L
  refine q _ _ (s1.trans I) ?_
  rw[Ď.mpr (λz b=>by rw[L z b];decide)]
  rfl
theorem iy(l:Option Nat)(a:As)(x:Nat)(b:List Nat):addW l a (x:: b)=addW l (if x∈a.map (·.1) then a else a++[(x,l)]) b:=rfl
theorem j5(l:Option Nat):∀(b:List Nat)(a:As),∃r,addW l a b=a++r
 |[],a=>⟨[],by rw[Bm,Ų]⟩
 | x:: b,a=>by
  rw[iy]
  split
  ·exact j5 l b a
  ·obtain⟨r,e⟩:=j5 l b (a++[(x,l)])
   grind
theorem mD(h:z∈a.map (·.1)):z∈(addW l a ws).map (·.1):=by
 obtain⟨r,e⟩:=j5 l ws a
 grind
theorem mE(l:Option Nat):∀(b:List Nat)(a:As)(x:Nat),x∈b->x∈(addW l a b).map (·.1)
 | y:: b,a,x,h=>by
  rw[iy]
  rcases À.mp h with h|h
  ·subst h
   refine mD ?_
   grind
  ·exact mE l b _ x h
theorem jV(m:∀x,∀z∈on x,z<L):∀(f:Nat)(a:As)(i:Nat),K2 L a->i<=a.length->L<=f+i->(∀j y,j<i->a[j]?=Α y->∀z∈on y.1,z∈a.map (·.1))->
  (∀y∈iI on f a i,∀z∈on y.1,z∈(iI on f a i).map (·.1))/\∀z∈a.map (·.1),z∈(iI on f a i).map (·.1)
 | 0,a,i,ok,hi,hf,inv=>by
  have:=ok.few
  refine⟨λy d z b=>?_,λz b=>b⟩
  obtain⟨j,l,e⟩:=ì (show y∈a from d)
  exact inv j y (by lia) (by rw[Λ l,e]) z b
 | f+1,a,i,ok,hi,hf,inv=>by
  cases h:a[i]? with
  | none =>
   rw[ly h]
   have s:=Ŧ.mp h
   refine⟨λy d z b=>?_,λz b=>b⟩
   obtain⟨j,l,e⟩:=ì d
   exact inv j y (by lia) (by rw[Λ l,e]) z b
  | some x =>
   rw[jB h]
   have t:=(gQ0 h)
   obtain⟨r,n⟩:=j5 (Α x.1) (on x.1) a
   have g:i+1<=(addW (Α x.1) a (on x.1)).length:=by rw[n,ϛ];lia
   obtain⟨p,q⟩:=jV m f (addW (Α x.1) a (on x.1)) (i+1) (K2.addW (on x.1) ok (m x.1)) g (by lia) (λj y l d z b=>by
    have c:a[j]?=Α y:=by
     rw[n,Ϛ (by lia)]at d
     exact d
    rcases ă j i with o|o
    ·exact mD (inv j y o c z b)
    ·have:j=i:=by lia
     subst this
     rw[h]at c
     injection c with c
     subst c
     exact mE _ _ _ z b)
   exact⟨p,λz b=>q z (mD b)⟩
def mI(wy:bo->Nat)(ps:IPs)(n g z:Nat):Prop:=z∈(bx wy ps n g).map (·.1)
theorem lG(h:∀k,∀z∈wl wy k,z<ps.length)(g x:Nat):∀z∈cu wy ps g x,z<ps.length:=by
 intro z a
 unfold cu at a
 split at a
 ·cases a
 ·exact h _ z a
theorem j4(h:∀k,∀z∈wl wy k,z<ps.length)(n g:Nat):
  (∀y∈bx wy ps n g,∀z∈cu wy ps g y.1,z∈(bx wy ps n g).map (·.1))/\∀z∈bf wy g n,z∈(bx wy ps n g).map (·.1):=by
 have b:∀z∈bf wy g n,z<ps.length:=λz a=>by
  obtain⟨p,_,c⟩:=â.mp a
  exact h _ z c
 have ok:K2 ps.length (addW Β [] (bf wy g n)):=K2.addW _ ⟨á,λx d=>by cases d⟩ b
 obtain⟨e,f⟩:=jV (lG h g) ps.length (addW Β [] (bf wy g n)) 0 ok (ϡ _) (Ξ _) (λj y i=>Ι i (Ņ _))
 exact⟨e,λz a=>f z (mE _ _ _ z a)⟩
theorem nY(h:∀k,∀z∈wl wy k,z<ps.length){n g p z:Nat}(a:p<n)(b:z∈wl wy [Α (p:Int),Α (g:Int),Β]):mI wy ps n g z:=
 (j4 h n g).2 z (â.mpr ⟨p,Ϩ.mpr a,b⟩)
theorem qo(h:∀k,∀z∈wl wy k,z<ps.length)(a:mI wy ps n g l)(b:z∈cu wy ps g l):mI wy ps n g z:=by
 obtain⟨y,c,rfl⟩:=Â.mp a
 exact(j4 h n g).1 y c z b
theorem wE(h:(S.getD l 0).testBit b=Γ):((eT g S l').getD l 0).testBit b=Γ:=by
 unfold eT
 grind
theorem iP:∀(a:List Nat){S:List Nat},(S.getD l 0).testBit b=Γ->((a.foldl (eT g) S).getD l 0).testBit b=Γ
 |[],_,h=>h
 |_:: a,_,h=>iP a (wE h)
theorem nS:∀(a:List Nat){S:List Nat},l∈a->l<S.length->((a.foldl (eT g) S).getD l 0).testBit g=Γ
 | x:: a,S,h,hl=>by
  rw[OK]
  rcases À.mp h with h|h
  ·subst h
   refine iP a ?_
   unfold eT
   rw[Ω,ũ,Θ Κ,Θ hl,Option.getD_some,Nat.testBit_or,Rr]
   simp
  ·exact nS a h (by rw[qx];exact hl)
theorem e9:∀{m:Nat},g<m->l<ps.length->mI wy ps n g l->((bW wy ps n m).getD l 0).testBit g=Γ
 | m+1,hg,hl,h=>by
  rw[gY]
  rcases ă g m with a|a
  ·exact iP _ (e9 a hl h)
  ·have:g=m:=by lia
   subst this
   exact nS _ h (by rw[eK];exact hl)
theorem yM(h:((eT g S l').getD l 0).testBit b=Γ):(S.getD l 0).testBit b=Γ∨(b=g/\l'=l):=by
 unfold eT at h
 rw[Ω,ũ]at h
 by_cases e:l'=l
 ·rw[Θ e]at h
  split at h
  ·rw[Option.getD_some,Nat.testBit_or,Bool.or_eq_true]at h
   rcases h with h|h
   ·rw[e]at h;exact .inl h
   ·rw[Rr]at h
    exact .inr ⟨(of_decide_eq_true h).symm,e⟩
  ·rw[mu,cy]at h
   cases h
 ·rw[Η e,←Ω]at h
  exact .inl h
theorem nU:∀(a:List Nat){S:List Nat},((a.foldl (eT g) S).getD l 0).testBit b=Γ->(S.getD l 0).testBit b=Γ∨(b=g/\l∈a)
 |[],_,h =>.inl h
 | x:: a,S,h=>by
  rcases nU a h with h|⟨c,d⟩
  ·rcases yM h with h|⟨c,d⟩
   ·exact .inl h
   grind
  grind
theorem dZ:∀{m:Nat},((bW wy ps n m).getD l 0).testBit g=Γ->mI wy ps n g l
 | 0,h=>by
  have e:(bW wy ps n 0).getD l 0=0:=by
   unfold bW
   rw[List.range_zero,List.foldl_nil,Ω,ĸ]
   split<;>rfl
  rw[e,cy]at h
  cases h
 | m+1,h=>by
  rw[gY]at h
  rcases nU _ h with h|⟨rfl,h⟩
  ·exact dZ h
  ·exact h
theorem Hz.RJ(e:Hz H H')(h:HF K H a xs):HF K H' a xs:=by
 rcases h with h|h
 ·refine .inl ?_
  rcases h with h|⟨o,h⟩
  ·exact .inl (e _ _ h)
  ·exact .inr ⟨o,e _ _ h⟩
 ·exact .inr h
theorem Sq.same(h:Sq K H a xs)(s:Hz H H'):Sq K H' a xs:=h.elim (λz =>.inl (s.seq z)) (λz =>.inr (Hz.RJ s z))
theorem Sq.ix(h:Sq K H a xs)(e:qf xs i=Α v)(q:Q v H):rIx K (.ref a) (.int i) H Q:=
 h.elim (λz =>.inl ⟨a,xs,i,v,Κ,Κ,z,e,q⟩) (λz =>.inr (.inl ⟨a,xs,i,v,Κ,Κ,z,e,q⟩))
theorem ju{a b:Type}{f:a->Option b}{xs:List a}{x:a}(c:xs[i]?=Α x)(d:(xs.take i).findSome? f=Β)(e:f x=Β):(xs.take (i+1)).findSome? f=Β:=by
 rw[Ì,c,ŗ,Ŋ,d,þ]
 simp[e]
theorem vV{a c:Type}{f:a->Option c}{xs:List a}{x:a}(d:xs[i]?=Α x)(g:(xs.take i).findSome? f=Β){b:c}(h:f x=Α b):xs.findSome? f=Α b:=by
 obtain⟨j,e⟩:=ϝ.mp d
 have l:xs.drop i=x:: xs.drop (i+1):=by rw[JO j,e]
 rw[←IT i xs,Ŋ,g,þ,l,List.findSome?_cons,h]
def FV(K:ϧ)(H:Hp)(v:V):Option (List û)->Prop
 |none=>v=.HU
 |some ds=>∃t xs,v=.ref t/\H t=Α (.tup xs)/\ku K H xs ds
abbrev Fo:=Option (List û)
noncomputable def jU(L n:Nat)(nums ss:List Int):Bool:=decide (nums.length=L)&& (decide (ss.length=L)&& ss.all λs=>decide (0<=s/\s<=1* 2^(n:Int).toNat - 1))
noncomputable def Yj(wy:bo->Nat)(S:List Nat)(z:Int×Int):Fo:=(wl wy [Α z.1,Α z.2,Β]).findSome? λl=>if eD S l z.2.toNat then Β else Α [.str "start",.int z.1,.int z.2,.int l]
noncomputable def dF(wy:bo->Nat)(n:Nat)(S:List Nat):Fo:=(bN wy n n).findSome? (Yj wy S)
noncomputable def iR(nums:List Int)(S:List Nat)(l g w:Nat):Fo:=if eD S w g then (if nums.getD w 0<=nums.getD l 0 then Α [.str "number",.int l,.int g,.int w] else Β) else Α [.str "open",.int l,.int g,.int w]
noncomputable def n9(wy:bo->Nat)(ps:IPs)(nums:List Int)(S:List Nat)(l g:Nat):Fo:=if cu wy ps g l=[] then Α [.str "lost",.int l,.int g] else (cu wy ps g l).findSome? (iR nums S l g)
noncomputable def vJ(wy:bo->Nat)(ps:IPs)(nums:List Int)(S:List Nat)(l:Nat):Fo:=(Yd.J7 (S.getD l 0) (Ϭ ((S.getD l 0:Nat):Int))).findSome? λg:Nat=>if (g:Int)=(ps.getD l (0,0)).2 then Β else n9 wy ps nums S l g
noncomputable def eX(wy:bo->Nat)(ps:IPs)(nums:List Int)(S:List Nat)(m:Nat):Fo:=(Υ m).findSome? (vJ wy ps nums S)
noncomputable def mq(wy:bo->Nat)(ps:IPs)(n:Nat)(nums ss:List Int):Fo:=
 if jU ps.length n nums ss then (dF wy n (ss.map Ŏ)).or (eX wy ps nums (ss.map Ŏ) ps.length) else Α [.str "size"]
theorem atM{a:List Int}(h:z<a.length):qf (a.map V.int) (z:Int)=Α (.int (a.getD z 0)):=al (by simp[h])
theorem atS{z:Nat}(h:z<S.length):qf (nV S) (z:Int)=Α (.int ((S.getD z 0:Nat):Int)):=al (fW h)
noncomputable def VP(s:ϩ):Scope:=match s with
 |.Return (Α (.Call _ [.ListComp _ _ sc _] _ _)) _=>sc
 |_=>zQ0
inductive yg(K:ϧ)(c:Cs)(vs:List V)(H:Hp)(Q:VK)(E:XK):Prop
 |mk (x dx lt na sa:Ο) (n:Nat) (HE:List V) (ps:IPs) (nums ss:List Int) (_:vs=[.ref x,.ref na,.ref sa]) (_:cK H c x dx lt (n:Int) HE ps) (_:n<=12) (_:Sq K H na (nums.map V.int)) (_:Sq K H sa (ss.map V.int)) (_:ss.length<=1000) (_:∀H',Hz H H'->Q (.bl (jU ps.length n nums ss)) H')
abbrev NSz:List Str:=["land","numbers","sets","lanes"]
theorem VQ:aq NSz DU (ag qA):=bM
theorem bkSz:IP NSz (ag qA) (VP ((aB qA).getD 2 (.Pass ⟨0,0,0,0⟩))) ["land"] [0]:=_L2.Jv
theorem ndSz:(["goals","land"]:List Str).Nodup:=by decide +kernel
theorem C8(F:HZ K "has_size" "has_size" qA f fd)(T:dz mg)(L:i3 K c)(M:Ca P w K mg μ "is_within" 2 ko gE):
  HB P w K mg μ aK 3 f fd DU (yg K c):=by
 refine F.ok VQ λ_ _ _ s H _ Q E N h=>?_
 obtain⟨x,u,lt,O,A,n,l,B,d,a,rfl,m,U,R,b,X,q⟩:=h
 refine⟨_,ac (bG 3 VQ.nd (gq T.len (aR (pv 0))))
  (ac (aC (PW.pt (c9 (bJ dc (gq T.len (pv 1)) (pv 3)) (bT (bJ dc (aH dg Κ T.len PySem.boot_len (aa (pv 2) ad)) (pv 3))))) (af (ao bY)) ar)
  (af (ao (aH (ij Κ) Κ T.all ą (aa (aZ (own:=["goals"]) (capN:=["land"]) (cap:=[0]) bkSz Κ (E5 (aL (pv 2)) (dU (pv 2)))
   (λC Y g Z=>⟨b9 0 ndSz,bu,bF M N (aa (pv 0) (aa ah (aa (aA cZ (aA tE ah (show PE _ _ (oK K (oJ 1) "places") from aR (pv 1))) ah) ad)))⟩)) ad))))),?_⟩
 have Kt:=Paired.length m.2.2
 refine⟨x,_,u,_,_,Κ,m.1,L.cl,L.nl,Κ,_,_,Κ,.inr (HF.of m.2.1),O,_,Κ,R,Κ,_,Κ,?_⟩
 unfold jU at q
 rw[bC,Ρ]
 by_cases G:d.length=B.length
 rotate_left
 ·rw[Ζ (show ¬((d.length:Nat):Int)=(l.length:Nat) by lia)]
  have:=q H (Hz.refl H)
  rw[Ζ G]at this
  exact az (az this)
 rw[Ε (show((d.length:Nat):Int)=(l.length:Nat) by lia)]
 refine au ⟨A,_,Κ,b,Κ,_,Κ,?_⟩
 rw[bC,Ρ]
 by_cases J:a.length=B.length
 rotate_left
 ·rw[Ζ (show ¬((a.length:Nat):Int)=(l.length:Nat) by lia)]
  have:=q H (Hz.refl H)
  rw[Ε G,Ζ J]at this
  exact az this
 rw[Ε (show((a.length:Nat):Int)=(l.length:Nat) by lia)]
 refine au ?_
 have step:∀(i:Nat)(acc:List V)(z:Int),a[i]?=Α z->((a.take i).map λs=>V.bl (decide (0<=s/\s<=1* 2^(n:Int).toNat - 1)))=acc->((a.take (i+1)).map λs=>V.bl (decide (0<=s/\s<=1* 2^(n:Int).toNat - 1)))=acc++[V.bl (decide (0<=z/\z<=1* 2^(n:Int).toNat - 1))]:=λi acc z r e=>by
  rw[Ì,r,Ϥ,e];rfl
 have get:∀{i:Nat}{v:V},(a.map V.int)[i]?=Α v->∃z,a[i]?=Α z/\v=.int z:=λ{i v} h=>by
  rw[ώ]at h
  cases e:a[i]? with
  |none=>rw[e]at h;cases h
  |some k=>rw[e]at h;exact⟨k,Κ,(ϋ h).symm⟩
 have fin:∀D,H D=Β->∃(p:Ο)(bs:List Bool),[V.ref D]=[.ref p]/\HC K (ο H D (.π (a.map λs=>V.bl (decide (0<=s/\s<=1* 2^(n:Int).toNat - 1))))) p (bs.map V.bl)/\Q (.bl (bs.all id)) (ο H D (.π (a.map λs=>V.bl (decide (0<=s/\s<=1* 2^(n:Int).toNat - 1))))):=λD t=>by
  refine⟨D,_,Κ,HC.of (by rw[ae,Ú];rfl),?_⟩
  have:=q _ ((Hz.refl H).new (o:=.π (a.map λs=>V.bl (decide (0<=s/\s<=1* 2^(n:Int).toNat - 1)))) t)
  rw[Ε G,Ε J,Ý,Ý]at this
  rw[Y2]
  exact this
 rcases b with b|b
 ·refine .inl ⟨A,Κ,⟨_,b⟩,?_⟩
  refine aW a.length (by rw[ϊ];lia) (λi acc g=>g=H/\((a.take i).map λs=>V.bl (decide (0<=s/\s<=1* 2^(n:Int).toNat - 1)))=acc) ⟨Κ,Κ⟩ (λi acc g h=>by rw[←h.2,Ρ];exact ü _ _) (λi acc g I h=>?_) (λacc g h=>?_)
  ·obtain⟨rfl,j⟩:=h
   refine⟨⟨_,_,b,Λ (by rw[Ρ];exact I)⟩,λv S y=>?_⟩
   obtain⟨e,y⟩:=y
   subst e
   obtain⟨z,r,rfl⟩:=get (y _ b)
   exact⟨x,_,u,_,_,Κ,m.1,L.cl,L.np,Κ,_,_,Κ,Κ,⟨by lia,by lia,by decide⟩,_,_,Κ,Κ,z,0,_,Κ,Κ,step i acc z r j⟩
  ·obtain⟨rfl,j⟩:=h
   rw[Æ]at j
   subst j
   exact⟨⟨_,b,by rw[Ρ];exact Ξ _⟩,λD t=>fin D t⟩
 ·refine .inr ⟨A,Κ,⟨_,b⟩,?_⟩
  refine aW a.length (by rw[ϊ];lia) (λi acc g=>g=H/\((a.take i).map λs=>V.bl (decide (0<=s/\s<=1* 2^(n:Int).toNat - 1)))=acc) ⟨Κ,Κ⟩ (λi acc g h=>by rw[←h.2,Ρ];exact ü _ _) (λi acc g I h=>?_) (λacc g h=>?_)
  ·obtain⟨rfl,j⟩:=h
   refine⟨⟨_,_,b,Λ (by rw[Ρ];exact I)⟩,λv S y=>?_⟩
   obtain⟨e,y⟩:=y
   subst e
   obtain⟨z,r,rfl⟩:=get (y _ b)
   exact⟨x,_,u,_,_,Κ,m.1,L.cl,L.np,Κ,_,_,Κ,Κ,⟨by lia,by lia,by decide⟩,_,_,Κ,Κ,z,0,_,Κ,Κ,step i acc z r j⟩
  ·obtain⟨rfl,j⟩:=h
   rw[Æ]at j
   subst j
   exact⟨⟨_,b,by rw[Ρ];exact Ξ _⟩,λD t=>fin D t⟩
structure KR(K:ϧ)(H:Hp)(na sa:Ο)(ps:IPs)(nums:List Int)(S:List Nat):Prop where
 n:Sq K H na (nums.map V.int)
 s:Sq K H sa (nV S)
 nl:nums.length=ps.length
 sl:S.length=ps.length
 lt:∀z∈S,z<2^400
theorem KR.same(h:KR K H na sa ps nums S)(s:Hz H H'):KR K H' na sa ps nums S:=⟨h.n.same s,h.s.same s,h.nl,h.sl,h.lt⟩
structure Ht(P:Program)(w:Å)(K:ϧ)(mg:Str->Option Φ)(μ:Ó):Prop where
 G:Ca P w K mg μ "has" 1 uu yC
inductive Er(K:ϧ)(c:Cs)(C:Ο)(J:fg)(vs:List V)(H:Hp)(Q:VK)(E:XK):Prop
 |mk (x lx HJ lt sa:Ο) (n:Nat) (HE:List V) (ps:IPs) (wy:bo->Nat) (S:List Nat) (_:vs=[.ref x,.ref sa]) (_:Ir c C J H x lx HJ lt n HE ps wy) (_:Sq K H sa (nV S)) (_:S.length=ps.length) (_:∀v H',Hz H H'->FV K H' v (dF wy n S)->Q v H')
inductive yb(K:ϧ)(vs:List V)(H:Hp)(Q:VK)(E:XK):Prop
 |mk (na sa:Ο) (ps:IPs) (nums:List Int) (S:List Nat) (l g w:Nat) (_:vs=[.ref na,.ref sa,.int l,.int g,.int w]) (_:KR K H na sa ps nums S) (_:l<ps.length) (_:w<ps.length) (_:∀v H',Hz H H'->FV K H' v (iR nums S l g w)->Q v H')
inductive uO(K:ϧ)(c:Cs)(C:Ο)(J:fg)(vs:List V)(H:Hp)(Q:VK)(E:XK):Prop
 |mk (x lx HJ lt na sa:Ο) (n:Nat) (HE:List V) (ps:IPs) (wy:bo->Nat) (nums:List Int) (S:List Nat) (l g:Nat) (_:vs=[.ref x,.ref na,.ref sa,.int l,.int g]) (_:Ir c C J H x lx HJ lt n HE ps wy) (_:KR K H na sa ps nums S) (_:l<ps.length) (_:g<n) (_:∀v H',Hz H H'->FV K H' v (n9 wy ps nums S l g)->Q v H')
inductive uU(K:ϧ)(c:Cs)(C:Ο)(J:fg)(vs:List V)(H:Hp)(Q:VK)(E:XK):Prop
 |mk (x lx HJ lt na sa:Ο) (n:Nat) (HE:List V) (ps:IPs) (wy:bo->Nat) (nums:List Int) (S:List Nat) (l:Nat) (_:vs=[.ref x,.ref na,.ref sa,.int l]) (_:Ir c C J H x lx HJ lt n HE ps wy) (_:KR K H na sa ps nums S) (_:l<ps.length) (_:(∀z∈S,z<2^n)) (_:∀v H',Hz H H'->FV K H' v (vJ wy ps nums S l)->Q v H')
inductive uZ(K:ϧ)(c:Cs)(C:Ο)(J:fg)(vs:List V)(H:Hp)(Q:VK)(E:XK):Prop
 |mk (x lx HJ lt pa na sa:Ο) (n:Nat) (HE:List V) (ps:IPs) (wy:bo->Nat) (nums ss:List Int) (_:vs=[.ref x,.ref pa]) (_:Ir c C J H x lx HJ lt n HE ps wy) (_:H pa=Α (.tup [.ref na,.ref sa])) (_:Sq K H na (nums.map V.int)) (_:Sq K H sa (ss.map V.int)) (_:ss.length<=1000) (_:∀v H',Hz H H'->FV K H' v (mq wy ps n nums ss)->Q v H')
theorem lP(h:z∈bN wy n m):∃p g:Nat,z=((p:Int),(g:Int))/\p<m/\g<n:=by
 obtain⟨p,a,h⟩:=â.mp h
 obtain⟨g,b,e⟩:=Â.mp h
 exact⟨p,g,e.symm,Ϩ.mp a,Ϩ.mp (Ϫ.mp b).1⟩
theorem FV.HU{o:Fo}(h:FV K H v o):decide (v=V.HU)=decide (o=Β):=by
 cases o with
 |none=>have h:=h;rw[h];rfl
 |some a=>obtain⟨t,xs,rfl,_⟩:=h;rfl
theorem scWf:aq Bv Bv (ag yP):=bM
theorem C5(F:HZ K "way_fault" "way_fault" yP f fd)(X:Ht P w K mg μ):HB P w K mg μ aK 2 f fd Bv (yb K):=by
 refine F.ok scWf λ_ _ _ s H _ Q E p h=>?_
 obtain⟨u,v,x,a,S,l,g,c,rfl,d,r,o,q⟩:=h
 refine⟨_,ac (aC (ba (aQ (bF X.G p (aa (be lX (pv 1) (pv 4)) (aa (pv 3) ad))))) (af (ao (aM (aa bA (aa (pv 2) (aa (pv 3) (aa (pv 4) ad))))))) ar)
  (ac (aC (bJ nB (be lX (pv 0) (pv 4)) (be lX (pv 0) (pv 2))) (af (ao (aM (aa bA (aa (pv 2) (aa (pv 3) (aa (pv 4) ad))))))) ar)
  (af (ao aT))),?_⟩
 have tup:∀j:Str,iR a S l g c=Α [.str j,.int l,.int g,.int c]->∀t,H t=Β->Q (.ref t) (ο H t (.tup [.str j,.int l,.int g,.int c])):=λj e t i=>q _ _ ((Hz.refl H).new i) (by rw[e];exact⟨t,_,Κ,ae,.cons (.str _) (.cons (.int _) (.cons (.int _) (.cons (.int _) .nil)))⟩)
 refine(d.s.ix (atS (by rw[d.sl];exact o)) ⟨S.getD c 0,g,Κ,_,Κ,?_⟩)
 cases m:(S.getD c 0).testBit g with
 |false=>exact az ⟨by show 4<=Χ;decide,λt i=>tup "open" (by unfold iR eD;rw[m];rfl) t i⟩
 | true =>
  refine au (d.n.ix (atM (by rw[d.nl];exact o)) (d.n.ix (atM (by rw[d.nl];exact r)) ⟨_,_,Κ,Κ,_,Κ,?_⟩))
  by_cases b:a.getD c 0<=a.getD l 0
  ·rw[Ε b]
   exact az ⟨by show 4<=Χ;decide,λt i=>tup "number" (by unfold iR eD;rw[m,Θ Κ,Θ b]) t i⟩
  ·rw[Ζ b]
   exact au (q _ _ (Hz.refl H) (by unfold iR eD;rw[m,Θ Κ,Η b];rfl))
theorem Pw:aq ["table","numbers","sets","lane","goal","ways","way","found"] DT (ag sR):=bM
theorem zJ(F:HZ K "pair_fault" "pair_fault" sR f fd)(W:mX K C J)(Go:Ca P w K mg μ "onward" 4 pZ (yq c C J))
  (Gy:Ca P w K mg μ "way_fault" 2 Bv (yb K)):HB P w K mg μ aK 5 f fd DT (uO K c C J):=by
 refine F.ok Pw λ_ _ _ s H _ Q E R h=>?_
 obtain⟨x,lx,HJ,lt,T,U,n,HE,m,B,b,S,l,g,rfl,X,hP,Y,hg,q⟩:=h
 refine⟨_,ac (bG 5 Pw.nd (bF Go R (aa (pv 0) (aa (pv 3) (aa (pv 4) ad)))))
  (ac (aC (ba (fq (pv 5) (λ_=>rfl))) (af (ao (aM (aa bA (aa (pv 3) (aa (pv 4) ad)))))) ar)
  (ac (eI (aL (pv 5)) (b9 6 Pw.nd)
   (ac (bG 7 Pw.nd (bF Gy R (aa (pv 1) (aa (pv 2) (aa (pv 3) (aa (pv 4) (aa (pv 6) ad)))))))
   (af (aC (bJ iu (pv 7) aT) (af (ao (pv 7))) ar))))
  (af (ao aT)))),?_⟩
 refine⟨x,_,_,_,n,_,m,B,l,g,Κ,X,Y,hg,λD H1 u hD o=>?_⟩
 have G:∀z∈cu B m g l,z<m.length:=by
  intro z e
  unfold cu at e
  split at e
  ·cases e
  ·exact X.ok _ z e
 unfold n9 at q
 generalize cu B m g l=us at G o q
 refine⟨_,.inl ⟨_,HC.of o,Κ⟩,?_⟩
 cases us with
 | nil =>
  refine az ⟨by show 3<=Χ;decide,λt ht=>?_⟩
  exact q _ _ (u.new ht) (by rw[Θ Κ];exact⟨t,_,Κ,ae,.cons (.str _) (.cons (.int _) (.cons (.int _) .nil))⟩)
 | cons u0 I =>
  rw[Η (by grind)]at q
  refine au ?_
  generalize u0:: I=us at G o q
  refine⟨D,Κ,⟨_,HC.of o⟩,?_⟩
  refine b8 (K:=K) (a:=D) (xs:=nV us) (λi y A=>∃L M:Option V,Hz H1 A/\(us.take i).findSome? (iR b S l g)=Β/\y=[Α (.ref x),Α (.ref T),Α (.ref U),Α (.int l),Α (.int g),Α (.ref D),L,M])
   ⟨Β,Β,Hz.refl _,Κ,Κ⟩ (λi y A _ HD=>by obtain⟨_,_,j,_⟩:=HD;exact HC.of (j _ _ o)) ?_ ?_
  ·rintro i v y A p ⟨L,M,j,r,rfl⟩
   have Z:i<us.length:=by have:=(gQ0 p);rw[aw]at this;exact this
   have d:=Λ Z
   have JK:=bB d
   rw[JK]at p
   have p:=ϋ p
   subst p
   have e:=G _ (ã Z)
   generalize us[i]=z at d e
   refine⟨T,U,m,b,S,l,g,z,Κ,hP.same (u.trans j),Y,e,λfv H3 s3 N=>?_⟩
   refine⟨Κ,_,Κ,?_⟩
   rw[N.HU]
   cases O:iR b S l g z with
   |none=>exact au ⟨_,_,j.trans s3,ju d r O,Κ⟩
   | some ds =>
    rw[O]at N
    exact az (q _ _ ((u.trans j).trans s3) (by rw[vV d r O];exact N))
  ·rintro y A ⟨L,M,j,r,rfl⟩
   rw[aw,Æ]at r
   exact q _ _ (u.trans j) (by rw[r];rfl)
theorem Py:aq ["table","numbers","sets","lane","end","goal","found"] DS (ag sV):=bM
theorem zS(F:HZ K "lane_fault" "lane_fault" sV f fd)(L:i3 K c)(W:mX K C J)(nl:HL K C "land")(Ge:Me P w K mg μ c.land "end_of" 1 eC (gm c Î))
  (Gm:Ca P w K mg μ "members" 2 ["some"] nn)
  (Gy:Ca P w K mg μ "pair_fault" 5 DT (uO K c C J)):HB P w K mg μ aK 6 f fd DS (uU K c C J):=by
 refine F.ok Py λ_ _ _ s H _ Q E I h=>?_
 obtain⟨x,M,N,lt,Y,Z,n,HE,e,O,d,S,l,rfl,y,A,R,Yk,q⟩:=h
 refine⟨_,ac (bG 4 Py.nd (cE (aR (pv 0)) L.cl Ge I (aa (pv 3) ad)))
  (ac (eI (aL (bF Gm I (aa (be lX (pv 2) (pv 3)) ad))) (b9 5 Py.nd)
   (af (aC (bJ dc (pv 5) (pv 4))
    (ac (bG 6 Py.nd (bF Gy I (aa (pv 0) (aa (pv 1) (aa (pv 2) (aa (pv 3) (aa (pv 5) ad)))))))
    (af (aC (bJ iu (pv 6) aT) (af (ao (pv 6))) ar))) ar)))
  (af (ao aT))),?_⟩
 obtain⟨dx,fs,hx,hf⟩:=y.i
 have he:=Λ R
 have ME:e.getD l (0,0)=e[l]:=by grind
 refine⟨x,C,_,_,_,Κ,hx,W.cl,nl,hf,M,N,_,Κ,y.l.1,Κ,M,N,_,_,_,e,l,_,Κ,y.l,he,?_⟩
 have XF:l<S.length:=by rw[A.sl];exact R
 refine(A.s.ix (atS XF) ⟨S.getD l 0,Κ,A.lt _ (by grind),λD hD=>⟨D,Κ,⟨_,HC.of ae⟩,?_⟩⟩)
 unfold vJ at q
 have e1:fF (S.getD l 0)=nV (Yd.J7 (S.getD l 0) (Ϭ ((S.getD l 0:Nat):Int))):=rfl
 rw[e1]
 have p:∀z∈Yd.J7 (S.getD l 0) (Ϭ ((S.getD l 0:Nat):Int)),z<n:=λz r=>pA (Yk _ (by grind)) r
 generalize Yd.J7 (S.getD l 0) (Ϭ ((S.getD l 0:Nat):Int))=us at q p⊢
 have t:=(Hz.refl H).new (o:=.π (nV us)) hD
 have gD:=aX H D (.π (nV us))
 generalize ο H D _=H1 at t gD⊢
 rw[ME]at q
 refine b8 (K:=K) (a:=D) (xs:=nV us) (λi B G=>∃T U:Option V,Hz H1 G/\(us.take i).findSome? (λg:Nat=>if (g:Int)=(e[l]).2 then Β else n9 O e d S l g)=Β/\B=[Α (.ref x),Α (.ref Y),Α (.ref Z),Α (.int l),Α (.int (e[l]).2),T,U])
  ⟨Β,Β,Hz.refl _,Κ,Κ⟩ (λi B G _ HD=>by obtain⟨_,_,j,_⟩:=HD;exact HC.of (j _ _ gD)) ?_ ?_
 ·rintro i v B G u ⟨T,U,j,m,rfl⟩
  have hi:i<us.length:=by have:=(gQ0 u);rw[aw]at this;exact this
  have b:=Λ hi
  have JK:=bB b
  rw[JK]at u
  have u:=ϋ u
  subst u
  generalize us[i]=z at b
  refine⟨Κ,_,Κ,?_⟩
  rw[bC]
  by_cases r:(z:Int)=(e[l]).2
  ·rw[Ε r]
   exact au ⟨_,_,j,ju b m (by grind),Κ⟩
  rw[Ζ r]
  refine az ⟨x,M,N,lt,Y,Z,n,HE,e,O,d,S,l,z,Κ,y.same W (t.trans j),A.same (t.trans j),R,p z (Ψ b),λfv H3 s3 X=>?_⟩
  refine⟨Κ,_,Κ,?_⟩
  rw[X.HU]
  cases hw:n9 O e d S l z with
  |none=>exact au ⟨_,_,j.trans s3,ju b m (by grind),Κ⟩
  | some ds =>
   rw[hw]at X
   exact az (q _ _ ((t.trans j).trans s3) (by rw[vV b m (by rw[Η r];exact hw)];exact X))
 ·rintro B G ⟨T,U,j,m,rfl⟩
  rw[aw,Æ]at m
  exact q _ _ (t.trans j) (by rw[m];rfl)
theorem Pz:aq ["table","sets","place","goal","lane"] sr (ag Fm):=bM
theorem FK(F:HZ K "start_fault" "start_fault" Fm f fd)(W:mX K C J)(Gw:Me P w K mg μ C "ways" 3 kn (iF J))(X:Ht P w K mg μ)
  (Gs:Ca P w K mg μ "starts" 4 si (qr c C J)):HB P w K mg μ aK 5 f fd sr (Er K c C J):=by
 refine F.ok Pz λ_ _ _ s H _ Q E Y h=>?_
 obtain⟨x,lx,HJ,lt,sa,n,HE,ps,b,S,rfl,m,hS,Rh,q⟩:=h
 refine⟨_,ac (eI (aL (bF Gs Y (aa (pv 0) ad))) (bO Κ (av (b9 2 Pz.nd) (av (b9 3 Pz.nd) bz)))
   (af (eI (aL (cE (pv 0) W.cl Gw Y (aa (pv 2) (aa (pv 3) (aa aT ad))))) (b9 4 Pz.nd)
    (af (aC (ba (aQ (bF X.G Y (aa (be lX (pv 1) (pv 4)) (aa (pv 3) ad))))) (af (ao (aM (aa bA (aa (pv 2) (aa (pv 3) (aa (pv 4) ad))))))) ar)))))
  (af (ao aT)),?_⟩
 obtain⟨dx,fs,Z,hf⟩:=m.i
 obtain⟨KI,fs2,O,Kc⟩:=W.inst _ _ _ _ m.j
 rw[Z]at O
 injection O with O
 injection O with _ e1 e2
 subst e1 e2
 refine⟨x,_,_,_,_,_,n,_,_,b,Κ,m.j,Z,hf,m.l,m.Lw,λD us H1 s1 hD gD hU=>⟨D,Κ,⟨_,HC.of gD⟩,?_⟩⟩
 have NZ:=Paired.length hU
 unfold dF at q
 have Pl:∀z∈bN b n n,∃p g:Nat,z=((p:Int),(g:Int))/\p<n/\g<n:=λz I=>lP I
 generalize bN b n n=zs at q hU NZ Pl
 refine b8 (K:=K) (a:=D) (xs:=us) (λi d R=>∃a2 a3 r:Option V,Hz H1 R/\(zs.take i).findSome? (Yj b S)=Β/\d=[Α (.ref x),Α (.ref sa),a2,a3,r])
  ⟨Β,Β,Β,Hz.refl _,Κ,Κ⟩ (λi d R _ HD=>by obtain⟨_,_,_,u,_⟩:=HD;exact HC.of (u _ _ gD)) ?_ ?_
 ·rintro i v d R hv ⟨a2,a3,r,u,L,rfl⟩
  obtain⟨z,I,t,rfl,gt⟩:=HW.get hU hv
  obtain⟨p,g,rfl,hp,hg⟩:=Pl z (Ψ I)
  refine⟨t,_,Κ,HF.of (u _ _ gt),Κ,_,_,Κ,_,_,Κ,Κ,?_⟩
  have MY:=s1.trans u
  refine⟨x,_,_,Κ,MY _ _ Z,Kc,x,n,b,⟨(p:Int),(g:Int),Β,[]⟩,Κ,W.IZ _ _ _ _ _ m.j MY,⟨ĭ p,ų.mpr hp⟩,⟨ĭ g,ų.mpr hg⟩,λH3 T s3 hD3=>⟨T,Κ,⟨_,HC.of ae⟩,?_⟩⟩
  have hk:aP ⟨(p:Int),(g:Int),Β,[]⟩=[Α (p:Int),Α (g:Int),Β]:=rfl
  rw[hk,vC]
  have HS:=m.ok [Α (p:Int),Α (g:Int),Β]
  have y:Yj b S ((p:Int),(g:Int))=(wl b [Α (p:Int),Α (g:Int),Β]).findSome? λl=>if eD S l g then Β else Α [.str "start",.int (p:Int),.int (g:Int),.int l]:=rfl
  generalize wl b [Α (p:Int),Α (g:Int),Β]=A at HS y⊢
  have s4:=s3.new (o:=.π (nV A)) hD3
  have g4:=aX H3 T (.π (nV A))
  generalize ο H3 T _=H4 at s4 g4⊢
  refine b8 (K:=K) (a:=T) (xs:=nV A) (λj d U=>∃r:Option V,Hz H4 U/\(A.take j).findSome? (λl=>if eD S l g then Β else Α [û.str "start",.int (p:Int),.int (g:Int),.int l])=Β/\d=[Α (.ref x),Α (.ref sa),Α (.int p),Α (.int g),r])
   ⟨_,Hz.refl _,Κ,Κ⟩ (λj d U _ HD=>by obtain⟨_,B,_⟩:=HD;exact HC.of (B _ _ g4)) ?_ ?_
  ·rintro j v d U M ⟨r,B,N,rfl⟩
   have hj:j<A.length:=by have:=(gQ0 M);rw[aw]at this;exact this
   have e:=Λ hj
   have JK:=bB e
   rw[JK]at M
   have M:=ϋ M
   subst M
   have VS:=HS _ (ã hj)
   generalize A[j]=l at e VS
   have RK:=MY.trans (s4.trans B)
   refine((hS.same RK).ix (atS (by rw[Rh];exact VS)) ⟨S.getD l 0,g,Κ,_,Κ,?_⟩)
   cases hb:(S.getD l 0).testBit g with
   |true=>exact au ⟨_,B,ju e N (by unfold eD;rw[hb];rfl),Κ⟩
   | false =>
    refine az ⟨by show 4<=Χ;decide,λt' Po=>?_⟩
    refine q _ _ (RK.new Po) ?_
    rw[vV I L (y.trans (vV e N (by unfold eD;rw[hb];rfl)))]
    exact⟨_,_,Κ,ae,.cons (.str _) (.cons (.int _) (.cons (.int _) (.cons (.int _) .nil)))⟩
  ·rintro d U ⟨r,B,N,rfl⟩
   rw[aw,Æ]at N
   exact⟨_,_,_,u.trans (s4.trans B),ju I L (y.trans N),Κ⟩
 ·rintro d R ⟨a2,a3,r,u,L,rfl⟩
  rw[NZ,Æ]at L
  exact q _ _ (s1.trans u) (by rw[L];rfl)
theorem yH(h:jU L n nums ss=Γ):nums.length=L/\ss.length=L/\∀s∈ss,0<=s/\s<=1* 2^(n:Int).toNat - 1:=by
 unfold jU at h
 simp only[Ù,decide_eq_true_eq,ù]at h
 exact h
theorem BM{a:List Int}(h:∀s∈a,0<=s):a.map V.int=nV (a.map Ŏ):=by
 unfold nV
 rw[Ú]
 refine đ λs b=>?_
 grind
theorem BO{n:Nat}(b:n<=12){a:List Int}(h:∀s∈a,0<=s/\s<=1* 2^(n:Int).toNat - 1):∀z∈a.map Ŏ,z<2^n:=by
 grind
abbrev NFa:List Str:=["table","paper","numbers","sets","found","lane"]
theorem Mr:aq NFa Ec (ag sZ):=bM
theorem zW(F:HZ K "fault" "fault" sZ f fd)(T:dz mg)(W:mX K C J)(nl:HL K C "land")
  (Gz:Ca P w K mg μ "has_size" 3 DU (yg K c))
  (Gs:Ca P w K mg μ "start_fault" 5 sr (Er K c C J))
  (Gy:Ca P w K mg μ "lane_fault" 6 DS (uU K c C J)):HB P w K mg μ aK 7 f fd Ec (uZ K c C J):=by
 refine F.ok Mr λ_ _ _ s H _ Q E R h=>?_
 obtain⟨x,U,X,lt,A,B,p,n,Y,b,d,a,L,rfl,o,gp,hN,u,Rh,q⟩:=h
 refine⟨_,ac (bG 2 Mr.nd (be HA (pv 1) ah))
  (ac (bG 3 Mr.nd (be HA (pv 1) ah))
  (ac (aC (ba (aQ (bF Gz R (aa (aR (pv 0)) (aa (pv 2) (aa (pv 3) ad)))))) (af (ao (aM (aa bA ad)))) ar)
  (ac (bG 4 Mr.nd (bF Gs R (aa (pv 0) (aa (pv 3) ad))))
  (ac (bG 5 Mr.nd ah)
  (ac (dS ñ (PW.pt (lA (bJ jG (pv 4) aT) (jh (bJ jX (pv 5) (gq T.len (pv 3))))))
   (ac (bG 4 Mr.nd (bF Gy R (aa (pv 0) (aa (pv 2) (aa (pv 3) (aa (pv 5) ad))))))
   (af (pi (i:=5) Mr.nd Κ (kS Κ) ah pJ))))
  (af (ao (pv 4)))))))),?_⟩
 obtain⟨dx,fs,hx,hf⟩:=o.i
 have hP:HF K H A [.ref B,.ref p]:=HF.of gp
 refine⟨A,_,0,_,Κ,Κ,hP,al (j:=0) Κ,A,_,1,_,Κ,Κ,hP,al (j:=1) Κ,x,C,_,_,_,Κ,hx,W.cl,nl,hf,U,X,_,B,p,n,Y,b,a,L,Κ,o.l,o.Lw,hN,u,Rh,λH1 M=>⟨_,Κ,?_⟩⟩
 unfold mq at q
 cases Z:jU b.length n a L with
 | false =>
  refine az ⟨by show 1<=Χ;decide,λt ht=>?_⟩
  refine q _ _ (M.new ht) ?_
  rw[Z]
  exact⟨t,_,Κ,ae,.cons (.str _) .nil⟩
 | true =>
  rw[Z,Θ Κ]at q
  refine au ?_
  obtain⟨z1,z2,z3⟩:=yH Z
  have eS:=BM λs y=>(z3 s y).1
  have HS:=BO o.Lw z3
  have N:(L.map Ŏ).length=b.length:=by rw[Ρ];exact z2
  rw[eS]at u
  generalize L.map Ŏ=S at q u HS N eS
  have D:∀z∈S,z<2^400:=λz O2=>Ϝ (HS z O2) (ç (by decide) (by have:=o.Lw;lia))
  refine⟨x,U,X,_,p,n,Y,b,d,S,Κ,o.same W M,u.same M,N,λfv H2 s2 Px=>?_⟩
  have MY:=M.trans s2
  have h40:=o.few
  refine⟨λm σ H'=>∃(v:V)(i:Nat),m=b.length - i/\i<=b.length/\Hz H H'/\FV K H' v ((dF d n S).or (eX d b a S i))/\σ=[Α (.ref x),Α (.ref A),Α (.ref B),Α (.ref p),Α v,Α (.int (i:Int))],?_,?_⟩
  ·refine⟨_,_,0,Κ,ϡ _,MY,?_,Κ⟩
   rw[show eX d b a S 0=Β from Κ,Option.or_none]
   exact Px
  rintro m σ H' ⟨v,i,rfl,hi,r,G,rfl⟩
  refine⟨Κ,_,Κ,?_⟩
  rw[G.HU]
  cases g:(dF d n S).or (eX d b a S i) with
  | some ds =>
   rw[g]at G
   refine au (au ?_)
   refine(q _ _ r ?_)
   have VT:(dF d n S).or (eX d b a S b.length)=Α ds:=by
    cases y:dF d n S with
    |some d'=>rw[y]at g;exact g
    | none =>
     rw[y,þ]at g
     rw[þ]
     unfold eX at g⊢
     have e:Υ b.length=Υ i++(Υ b.length).drop i:=by
      have:=(IT i (Υ b.length)).symm
      rw[List.take_range,Kz hi]at this
      exact this
     rw[e,Ŋ,g];rfl
   rw[VT]
   exact G
  | none =>
   refine az ⟨p,_,Κ,u.same r,_,_,Κ,Κ,_,Κ,?_⟩
   rw[aw,N]
   by_cases P0:i<b.length
   rotate_left
   ·rw[Ζ (show ¬(i:Int)<(b.length:Nat) by lia)]
    have:i=b.length:=by lia
    subst this
    refine au (q _ _ r ?_)
    rw[g]
    rw[g]at G
    exact G
   rw[Ε (show (i:Int)<(b.length:Nat) by lia)]
   refine az ⟨λI O=>∃(v:V),Hz H O/\FV K O v ((dF d n S).or (eX d b a S (i+1)))/\I=[Α (.ref x),Α (.ref A),Α (.ref B),Α (.ref p),Α v,Α (.int ((i:Int)+1))],?_,?_⟩
   ·rintro I O ⟨v',s3,hv3,rfl⟩
    exact⟨_,by lia,_,_,Κ,P0,s3,hv3,Κ⟩
   refine⟨x,U,X,_,B,p,n,Y,b,d,a,S,i,Κ,o.same W r,⟨hN.same r,u.same r,z1,N,D⟩,P0,HS,λlv O s3 hlv=>?_⟩
   refine⟨_,_,Κ,Κ,_,r.trans s3,?_,Κ⟩
   have y:dF d n S=Β:=by
    cases e:dF d n S with
    |none=>rfl
    |some d'=>rw[e]at g;cases g
   rw[y,þ]at g⊢
   unfold eX at g⊢
   rw[É,Ŋ,g,þ]
   simpa using hlv
open _Lk
noncomputable def S6(x:Nat×Nat):_L2.Key×V:=(ϫ (x.1:Int),.int (x.2:Int))
noncomputable def dV(d:Dn):List (_L2.Key×V):=d.map S6
theorem m3(d:Dn):(dV d).length=d.length:=Ρ ..
theorem wg(d:Dn):(dV d).map (·.1)=(ks d).map λk:Nat=>(ϫ (k:Int):_L2.Key):=by
 unfold dV ks
 rw[Ú,Ú];rfl
theorem lT(l:Nat):∀d:Dn,cC (dV d) (ϫ (l:Int))=(fO d l).map λg:Nat=>V.int (g:Int)
 |[]=>rfl
 | x:: d=>by
  have a:=lT l d
  show cC (S6 x:: dV d) _=_
  by_cases h:x.1=l
  ·rw[gy (show(S6 x).1=ϫ (l:Int) by rw[←h];rfl)]
   unfold fO
   rw[ć,show decide (x.1=l)=Γ from Ε h];rfl
  ·rw[gA (λz=>h (by have:=LU z;lia)),a]
   unfold fO
   grind
theorem LG:fO d l=Β↔l∉ks d:=by
 constructor
 ·intro h a
  obtain⟨g,e⟩:=fj a
  grind
 ·intro h
  cases e:fO d l with
  |none=>rfl
  |some g=>exact Ι (tS (oG e)) h
theorem nQ(d:Dn)(l:Nat):(cC (dV d) (ϫ (l:Int))).isSome=decide (l∈ks d):=by
 rw[lT]
 by_cases h:l∈ks d
 ·obtain⟨g,e⟩:=fj h
  rw[e,Ε h];rfl
 ·rw[LG.mpr h,Ζ h];rfl
theorem Aw(g:Nat)(h:l∉ks d):cX (dV d) (ϫ (l:Int)) (.int (g:Int))=dV (d++[(l,g)]):=by
 rw[lB _ (by rw[lT,LG.mpr h];rfl)]
 unfold dV
 rw[Ϥ];rfl
structure Jz(H:Hp)(D:Ο)(ds:List Ο)(L:Ld):Prop where
 l:H D=Α (.π (ds.map V.ref))
 len:ds.length=L.length
 nd:ds.Nodup
 d:∀i d,ds[i]?=Α d->H d=Α (.dK (dV (L.getD i [])))
theorem Jz.same(h:Jz H D ds L)(s:Hz H H'):Jz H' D ds L:=⟨s _ _ h.l,h.len,h.nd,λi d e=>s _ _ (h.d i d e)⟩
theorem Jz.put{w:Nat}{D d:Ο}(h:Jz H D ds L)(a:ds[w]?=Α d):Jz (ο H d (.dK (dV e))) D ds (L.set w e):=by
 have g:w<L.length:=by rw[←h.len];exact(gQ0 a)
 refine⟨?_,by rw[ī];exact h.len,h.nd,λi b c=>?_⟩
 ·rw[aj (bc h.l (h.d w d a) (by intro z;cases z))];exact h.l
 ·rw[_Lk.Jq]
  by_cases f:w=i
  ·subst f
   rw[a]at c
   cases c
   rw[Θ ⟨Κ,g⟩];exact ae
  ·rw[Η λz=>f z.1]
   have j:b≠d:=λz=>by
    subst z
    obtain⟨o,m⟩:=ϝ.mp a
    obtain⟨p,n⟩:=ϝ.mp c
    exact f ((Ŝ h.nd).mp (m.trans n.symm))
   rw[aj j];exact h.d i b c
noncomputable def tV(S:List Nat)(l:Nat):List Nat:=cR (S.getD l 0)
inductive uR(c:Cs)(C:Ο)(J:fg)(vs:List V)(H:Hp)(Q:VK)(E:XK):Prop
 |mk (x lx HJ lt sa:Ο) (n:Nat) (HE:List V) (ps:IPs) (wy:bo->Nat) (S:List Nat) (_:vs=[.ref x,.ref sa]) (_:Ir c C J H x lx HJ lt n HE ps wy) (_:H sa=Α (.tup (nV S))) (_:S.length=ps.length) (_:(∀z∈S,z<2^n)) (_:∀(D:Ο)(ds:List Ο)(H':Hp),Hz H H'->Jz H' D ds (eW (cu wy ps) (tV S) ps.length)->Q (.ref D) H')
abbrev NLe:List Str:=["table","sets","leads","lane","goals","goal","way"]
theorem Nf:aq NLe sr (ag lq):=bM
theorem bkLe:IP NLe (ag lq) (pX ((aB lq).getD 0 (.Pass ⟨0,0,0,0⟩))) [] []:=_L2.Jv
theorem ndLe:(["goals"]:List Str).Nodup:=by decide +kernel
theorem zQ(F:HZ K "leads_of" "leads_of" lq f fd)(T:dz mg)(W:mX K C J)
  (Gb:Ca P w K mg μ "members" 2 ["some"] nn)
  (Go:Ca P w K mg μ "onward" 4 pZ (yq c C J)):
  HB P w K mg μ aK 5 f fd sr (uR c C J):=by
 refine F.ok Nf λ_ _ _ s H _ Q E hr h=>?_
 obtain⟨x,lx,HJ,lt,sa,n,HE,j,t,S,rfl,hT,gS,Lp,Mq,q⟩:=h
 have hn:=hT.Lw
 have h40:=hT.few
 refine⟨_,ac (bU (i:=2) (own:=["goals"]) (capN:=[]) (cap:=[]) bkLe Κ Nf.nd Κ Κ (dU (pv 1)) (λC s' H' fp=>⟨b9 0 ndLe,bu,lD⟩))
  (ac (eI (gP Κ T.enum (aa (pv 1) ad)) (bO Κ (av (b9 3 Nf.nd) (av (b9 4 Nf.nd) bz)))
   (af (eI (aL (bF Gb hr (aa (pv 4) ad))) (b9 5 Nf.nd)
    (af (eI (aL (bF Go hr (aa (pv 0) (aa (pv 3) (aa (pv 5) ad))))) (b9 6 Nf.nd)
     (af (aF (Cv (be HN (pv 2) (pv 6)) (pv 3) (pv 5) ⟨Κ,Κ,Κ,Κ⟩))))))))
  (af (ao (pv 2)))),?_⟩
 have Yk:(nV S).length=j.length:=by rw[aw];exact Lp
 refine⟨_,Κ,⟨_,HF.of gS⟩,aW (nV S).length (by rw[ϊ];lia) (λi acc Z=>∃A:List Ο,acc=A.map V.ref/\A.length=i/\A.Nodup/\Hz H Z/\∀d∈A,H d=Β/\Z d=Α (.dK [])) ⟨[],Κ,Κ,á,Hz.refl H,λd X=>by cases X⟩ (λi acc Z HD=>by obtain⟨A,e,hl,_⟩:=HD;rw[e,Ρ,hl];exact Ξ _) ?_ ?_⟩
 ·rintro i acc Z hi ⟨A,rfl,hl,nd,Y,X⟩
  refine⟨⟨nV S,(nV S)[i],HF.of (Y _ _ gS),Λ hi⟩,λy H5 hy=>?_⟩
  obtain⟨rfl,_⟩:=hy
  intro p hp
  refine⟨A++[p],by rw[Ϥ];rfl,by rw[ϛ,hl];rfl,?_,Y.new hp,λd VU=>?_⟩
  ·rw[Ĵ]
   refine⟨nd,by simp,λa ha b hb e=>?_⟩
   rw[ϙ.mp hb]at e
   subst e
   rw[(X a ha).2]at hp;cases hp
  ·rcases Á.mp VU with G|G
   ·refine⟨(X d G).1,?_⟩
    rw[aj (ai (X d G).2 hp)];exact(X d G).2
   ·rw[ϙ.mp G]
    exact⟨Y.free hp,ae⟩
 rintro acc Z ⟨A,rfl,Lu,nd,Y,X⟩
 refine⟨⟨nV S,HF.of (Y _ _ gS),Ξ _⟩,λD hD=>?_⟩
 have hD0:=Y.free hD
 have s5:=Y.new (o:=.π (A.map V.ref)) hD
 have hds:=λd G=>(X d G).1
 have g5:Jz (ο Z D (.π (A.map V.ref))) D A (Ϗ j.length []):=by
  refine⟨ae,by rw[Lu,Yk,é],nd,λi d e=>?_⟩
  have G:=Ψ e
  rw[aj (ai (X d G).2 hD),(X d G).2,l8];rfl
 generalize ο Z D _=H5 at s5 g5⊢
 have wr:∀{M:Hp}{d:Ο}{o:HO},Hz H M->d∈A->Hz H (ο M d o):=λ{M d o} s2 G b u e=>by rw[aj (ai e (hds d G))];exact s2 _ _ e
 refine⟨_,Κ,⟨_,HF.of (s5 _ _ gS)⟩,?_⟩
 refine fI (sq:=λH=>HF K H sa) (xs:=nV S) (λi I M=>∃a3 a4 a5 N:Option V,Hz H M/\Jz M D A ((Υ i).foldl (ke (cu t j) (tV S)) (Ϗ j.length []))/\I=[Α (.ref x),Α (.ref sa),Α (.ref D),a3,a4,a5,N])
  ⟨Β,Β,Β,Β,s5,g5,Κ⟩ (λi I M _ HD=>by obtain⟨_,_,_,_,s2,_⟩:=HD;exact HF.of (s2 _ _ gS)) ?_ ?_
 ·rintro l v r I M B ⟨a3,a4,a5,N,s2,g2,rfl⟩ Pu
  have hl:l<S.length:=by have:=(gQ0 B);rw[aw]at this;exact this
  have JK:=fW hl
  rw[JK]at B
  have B:=ϋ B
  subst B
  have Og:S.getD l 0<2^n:=by
   rw[Ω,Λ hl]
   exact Mq _ (ã hl)
  have s3:=s2.new (o:=.tup [.int (l:Int),.int ((S.getD l 0:Nat):Int)]) Pu
  have g3:=g2.same ((Hz.refl M).new (o:=.tup [.int (l:Int),.int ((S.getD l 0:Nat):Int)]) Pu)
  refine⟨r,_,Κ,HF.of ae,Κ,_,_,Κ,_,_,Κ,Κ,?_⟩
  generalize ο M r _=H3 at s3 g3⊢
  refine⟨_,Κ,Ϝ Og (ç (by decide) (by lia)),λMb VO=>⟨Mb,Κ,⟨_,HC.of ae⟩,?_⟩⟩
  rw[nP]
  have Y:=s3.new (o:=.π (nV (cR (S.getD l 0)))) VO
  have g4:=g3.same ((Hz.refl H3).new (o:=.π (nV (cR (S.getD l 0)))) VO)
  have gM:=aX H3 Mb (.π (nV (cR (S.getD l 0))))
  have nMb:∀d∈A,Mb≠d:=λd G z=>by
   obtain⟨i,hi,ei⟩:=ì G
   have e:=g3.d i d (by rw[Λ hi,ei])
   rw[←z,VO]at e;cases e
  generalize ο H3 Mb _=Z at Y g4 gM⊢
  generalize Su:(Υ l).foldl (ke (cu t j) (tV S)) (Ϗ j.length [])=L0 at g4
  have hok0:Im (cu t j) (tV S) j.length L0:=by
   rw[←Su]
   exact Im.all _ Im.init λz hz=>by have:=Ϩ.mp hz;lia
  refine b8 (K:=K) (a:=Mb) (xs:=nV (cR (S.getD l 0))) (λm I H5=>∃a5 N:Option V,Hz H H5/\H5 Mb=Α (.π (nV (cR (S.getD l 0))))/\Jz H5 D A (((cR (S.getD l 0)).take m).foldl (fH (cu t j) l) L0)/\I=[Α (.ref x),Α (.ref sa),Α (.ref D),Α (.int (l:Int)),Α (.int ((S.getD l 0:Nat):Int)),a5,N])
   ⟨_,_,Y,gM,g4,Κ⟩ (λm I H5 _ HD=>by obtain⟨_,_,_,g5,_⟩:=HD;exact HC.of g5) ?_ ?_
  ·rintro m v I H5 B ⟨a5,N,Yl,S7,N3,rfl⟩
   have G:m<(cR (S.getD l 0)).length:=by have:=(gQ0 B);rw[aw]at this;exact this
   have O:=Λ G
   have JK:=bB O
   rw[JK]at B
   have B:=ϋ B
   subst B
   generalize (cR (S.getD l 0))[m]=g at O
   have hgm:g∈tV S l:=Ψ O
   have VW:Im (cu t j) (tV S) j.length (((cR (S.getD l 0)).take m).foldl (fH (cu t j) l) L0):=Im.Ih (by lia) _ hok0 λz hz=>Ā hz
   have N8:((cR (S.getD l 0)).take (m+1)).foldl (fH (cu t j) l) L0=fH (cu t j) l (((cR (S.getD l 0)).take m).foldl (fH (cu t j) l) L0) g:=by
    rw[Ì,O,Ū];rfl
   rw[N8]
   generalize ((cR (S.getD l 0)).take m).foldl (fH (cu t j) l) L0=L1 at N3 VW
   refine⟨x,_,_,_,n,_,j,t,l,g,Κ,hT.same W Yl,by lia,pA Og (Ψ O),λOw H6 s6 hOw gOw=>⟨Ow,Κ,⟨_,HC.of gOw⟩,?_⟩⟩
   have nOw:∀d∈A,Ow≠d:=λd G z=>by
    obtain⟨i,hi,ei⟩:=ì G
    have e:=N3.d i d (by rw[Λ hi,ei])
    rw[←z,hOw]at e;cases e
   have KQ:=lG hT.ok g l
   refine b8 (K:=K) (a:=Ow) (xs:=nV (cu t j g l)) (λk I H7=>∃N:Option V,Hz H H7/\H7 Mb=Α (.π (nV (cR (S.getD l 0))))/\H7 Ow=Α (.π (nV (cu t j g l)))/\Jz H7 D A (((cu t j g l).take k).foldl (eE l g) L1)/\I=[Α (.ref x),Α (.ref sa),Α (.ref D),Α (.int (l:Int)),Α (.int ((S.getD l 0:Nat):Int)),Α (.int (g:Int)),N])
    ⟨_,Yl.trans s6,s6 _ _ S7,gOw,N3.same s6,Κ⟩ (λk I H7 _ HD=>by obtain⟨_,_,_,R,_⟩:=HD;exact HC.of R) ?_ ?_
   ·rintro k v I H7 B ⟨N,s7,Ym,Q9,R,rfl⟩
    have hk:k<(cu t j g l).length:=by have:=(gQ0 B);rw[aw]at this;exact this
    have hw0:=Λ hk
    have JK:=bB hw0
    rw[JK]at B
    have B:=ϋ B
    subst B
    generalize (cu t j g l)[k]=L at hw0
    have hwm:=Ψ hw0
    have Kh:=KQ L hwm
    have P1:Im (cu t j) (tV S) j.length (((cu t j g l).take k).foldl (eE l g) L1):=Im.ι (by lia) hgm _ VW λz hz=>Ā hz
    have htk2:((cu t j g l).take (k+1)).foldl (eE l g) L1=eE l g (((cu t j g l).take k).foldl (eE l g) L1) L:=by
     rw[Ì,hw0,Ū];rfl
    rw[htk2]
    generalize ((cu t j g l).take k).foldl (eE l g) L1=M2 at R P1
    have Lu:L<A.length:=by rw[R.len,P1.len];exact Kh
    have U:=Λ Lu
    generalize A[L]=d at U
    have VU:=Ψ U
    have gd:=R.d L d U
    have Jj:=P1.few L
    refine⟨D,_,_,_,Κ,Κ,HC.of R.l,al (by rw[ώ,U];rfl),d,Κ,.inl ⟨_,.inl gd⟩,_,ϫ (l:Int),gd,Κ,by rw[m3,ϊ];lia,λv B=>?_,λB=>?_⟩
    ·have JF:l∈ks (M2.getD L []):=by
      have e:=nQ (M2.getD L []) l
      rw[B]at e
      exact of_decide_eq_true e.symm
     refine⟨_,s7,Ym,Q9,?_,Κ⟩
     unfold eE mF
     rw[Θ JF]
     have:M2.set L (M2.getD L [])=M2:=by
      have HS:L<M2.length:=by rw[P1.len];exact Kh
      rw[Ω,Λ HS]
      exact List.set_getElem_self HS
     rw[this];exact R
    ·have JF:l∉ks (M2.getD L []):=by
      have e:=nQ (M2.getD L []) l
      rw[B]at e
      exact of_decide_eq_false e.symm
     rw[Aw g JF]
     refine⟨_,wr s7 VU,by rw[aj (nMb d VU)];exact Ym,by rw[aj (nOw d VU)];exact Q9,?_,Κ⟩
     unfold eE mF
     rw[Η JF]
     exact R.put U
   ·rintro I H7 ⟨N,s7,Ym,Q9,R,rfl⟩
    rw[aw,Æ]at R
    exact⟨_,_,s7,Ym,R,Κ⟩
  ·rintro I H5 ⟨a5,N,Yl,S7,N3,rfl⟩
   refine⟨_,_,_,_,Yl,?_,Κ⟩
   rw[aw,Æ]at N3
   rw[É,Ū,Su]
   exact N3
 ·rintro I M ⟨a3,a4,a5,N,s2,g2,rfl⟩
  rw[Yk]at g2
  exact(q D A M s2 g2)
noncomputable def GN(s:ϩ):Scope:=match s with
 |.For _ _ (.If (.BoolOp _ [_,.Call _ [.ListComp _ _ sc _] _ _] _) _ _ _:: _) _ _=>sc
 |_=>jl
theorem jN(L:Ld)(a:Dn)(i:Nat):(Υ (i+1)).filter (eQ L a)=if eQ L a i=Γ then (Υ i).filter (eQ L a)++[i] else (Υ i).filter (eQ L a):=by
 rw[É,Ĥ]
 grind
theorem Af{fs:List Nat}(a:fs.Nodup)(h:fs[i]?=Α l):l∉fs.take i:=by
 intro b
 obtain⟨j,d,e⟩:=ic.mp b
 obtain⟨f,c⟩:=ϝ.mp h
 have:j=i:=(Ŝ a).mp (e.trans c.symm)
 lia
theorem Hh(d a:Dn):(((dV d).map (·.1)).filter λ_=>Γ).map (λk=>V.bl (cC (dV a) k).isSome)=((ks d).map λk=>decide (k∈ks a)).map V.bl:=by
 rw[kb.mpr (λ_ _=>rfl),wg,Ú,Ú]
 refine đ λk _=>?_
 show V.bl (cC (dV a) (ϫ (k:Int))).isSome=V.bl (decide (k∈ks a))
 rw[nQ]
inductive yt(vs:List V)(H:Hp)(Q:VK)(E:XK):Prop
 |mk (D nu:Ο) (ds:List Ο) (L:Ld) (a:Dn) (_:vs=[.ref D,.ref nu]) (_:Jz H D ds L) (_:H nu=Α (.dK (dV a))) (_:nu∉ds) (_:L.length<=1000) (_:(∀w,(L.getD w []).length<=1000)) (_:∀(Fr:Ο)(H':Hp),Hz H H'->H Fr=Β->H' Fr=Α (.π (nV (b5 L a)))->Q (.ref Fr) H')
inductive yr(vs:List V)(H:Hp)(Q:VK)(E:XK):Prop
 |mk (D:Ο) (ds:List Ο) (L:Ld) (_:vs=[.ref D]) (_:Jz H D ds L) (_:L.length<=1000) (_:(∀w,(L.getD w []).length<=1000)) (_:∀(nu:Ο)(H':Hp),Hz H H'->H nu=Β->nu∉ds->H' nu=Α (.dK (dV (i6 L)))->Q (.ref nu) H')
abbrev NNx:List Str:=["leads","numbers","free","lane","before"]
abbrev NNb:List Str:=["leads","numbers","moves","free","lane"]
theorem P2:aq NNx xL (ag qC):=bM
theorem bkNx:IP NNx (ag qC) (GN ((aB qC).getD 1 (.Pass ⟨0,0,0,0⟩))) qa [1]:=_L2.Jv
theorem VX:(["other","numbers"]:List Str).Nodup:=by decide +kernel
theorem CK(F:HZ K "lanes_next" "lanes_next" qC f fd)(T:dz mg):HB P w K mg μ aK 1 f fd xL yt:=by
 refine F.ok P2 λ_ _ _ s H _ Q E hr h=>?_
 obtain⟨D,t,u,L,a,rfl,g,N4,Ms,JL,J5,q⟩:=h
 have L9:=ë (ÿ (show 1<=64 by decide) _) hr.units
 refine⟨_,ac (bG 2 P2.nd (aJ ad))
  (ac (eI (lC Κ T.enum (aa (pv 0) ad)) (bO Κ (av (b9 3 P2.nd) (av (b9 4 P2.nd) bz)))
   (af (aC (PW.pt (lA (jE (fz L9 (pv 3) (pv 1)) (by with_unfolding_all rfl)) (jh (aQ (aH (ij Κ) Κ T.all ą (aa (vo (aZ (own:=["other"]) (capN:=["numbers"]) (cap:=[1]) bkNx Κ (kG (pv 4))
     (λC s' H' fp=>⟨b9 0 VX,bu,zx (zy L9 (pv 0) (pv 1)) (by with_unfolding_all rfl)⟩))) ad))))))
    (af (aF (ck plainAttrs_list PySem.F.slot_list_append PySem.F.type_list_append bq (pv 2) (aa (pv 3) ad)))) ar)))
  (af (ao (pv 2)))),?_⟩
 refine⟨ϡ _,λc J=>?_⟩
 have M:=(Hz.refl H).new (o:=.π []) J
 have g0:(ο H c (.π [])) c=Α (.π (nV ((Υ 0).filter (eQ L a)))):=ae
 generalize ο H c _=H0 at M g0⊢
 have j:(u.map V.ref).length=L.length:=by rw[Ρ];exact g.len
 refine⟨D,Κ,⟨_,HC.of (M _ _ g.l)⟩,?_⟩
 refine fI (sq:=λH=>HC K H D) (xs:=u.map V.ref) (λi x e=>∃O R:Option V,Hz H e/\e c=Α (.π (nV ((Υ i).filter (eQ L a))))/\x=[Α (.ref D),Α (.ref t),Α (.ref c),O,R])
  ⟨Β,Β,M,g0,Κ⟩ (λi x e _ HD=>by obtain⟨_,_,m,_⟩:=HD;exact HC.of (m _ _ g.l)) ?_ ?_
 ·rintro i v p x e n ⟨O,R,m,y,rfl⟩ hp
  have hi:i<u.length:=by have:=(gQ0 n);rw[Ρ]at this;exact this
  have b:=Λ hi
  generalize u[i]=d at b
  rw[ώ,b]at n
  have n:=ϋ n
  subst n
  have r:=m.new (o:=.tup [.int (i:Int),.ref d]) hp
  have S:=cf y hp (.tup [.int (i:Int),.ref d])
  refine⟨p,_,Κ,HF.of ae,Κ,_,_,Κ,_,_,Κ,Κ,?_⟩
  generalize ο e p _=A at r S⊢
  have gd:=r _ _ (g.d i d b)
  have P4:=r _ _ N4
  have Nz:i<L.length:=by rw[←g.len];exact hi
  have Sv:((Υ i).filter (eQ L a)).length<=i:=by
   have:=ē (eQ L a) (Υ i)
   rwa [ě]at this
  refine⟨t,_,Κ,II.k (k:=ϫ (i:Int)) P4,_,Κ,?_⟩
  rw[nQ]
  by_cases G:i∈ks a
  ·rw[Ε G]
   refine au (au ⟨_,_,r,?_,Κ⟩)
   rw[jN,Η (by unfold eQ;rw[Ε G];simp)]
   exact S
  rw[Ζ G]
  refine az ⟨d,_,Κ,gd,λo=>?_⟩
  have U:t≠d:=λz=>Ms (by rw[z];exact Ψ b)
  refine oj (λ_=>Γ) (λk=>V.bl (cC (dV a) k).isSome) (by rw[m3,ϊ];have:=J5 i;lia) ae (λk acc N hk hN=>?_) (λB X=>?_)
  ·exact⟨t,_,Κ,II.k (k:=k) (aI U P4 _),hN⟩
  have nf:∀o' u',H d≠Α (.Jm o' u'):=λo' u' z=>by rw[g.d i d b]at z;cases z
  have Y:=ϗ (ai (H:=ο A d (.Jm o (.dK (dV (L.getD i []))))) ae X)
  have QA:A B=Β:=by rw[aj Y]at X;exact X
  refine⟨d,o,_,aI (ϗ Y) ae _,nf,?_⟩
  rw[qi Y,qj gd,Hh]
  have Z:=r.new (o:=.π (((ks (L.getD i [])).map λk=>decide (k∈ks a)).map V.bl)) QA
  have g4:=aX A B (.π (((ks (L.getD i [])).map λk=>decide (k∈ks a)).map V.bl))
  have I:=cf S QA (.π (((ks (L.getD i [])).map λk=>decide (k∈ks a)).map V.bl))
  generalize ο A B _=H4 at Z g4 I⊢
  refine⟨B,_,Κ,HC.of g4,_,Κ,?_⟩
  rw[uo]
  have efb:eQ L a i=(ks (L.getD i [])).all λk=>decide (k∈ks a):=by
   unfold eQ
   rw[Ζ G];rfl
  rw[←efb]
  cases hb:eQ L a i with
  | false =>
   refine au ⟨_,_,Z,?_,Κ⟩
   rw[jN,hb,Η (by decide)];exact I
  | true =>
   refine az ⟨.inl ⟨Κ,_,HC.of I⟩,c,_,_,Κ,Κ,I,by rw[ϊ,aw];lia,?_⟩
   refine⟨_,_,Z.put J,?_,Κ⟩
   rw[jN,hb,Θ Κ,eV,ae];rfl
 ·rintro x e ⟨O,R,m,y,rfl⟩
  rw[j]at y
  exact(q c e m J y)
theorem Mu:aq NNb ["leads"] (ag yW):=bM
theorem CJ(F:HZ K "number_lanes" "number_lanes" yW f fd)(Gx:Ca P w K mg μ "lanes_next" 1 xL yt):
  HB P w K mg μ aK 2 f fd ["leads"] yr:=by
 refine F.ok Mu λ_ _ _ s H _ Q E X h=>?_
 obtain⟨D,Y,L,rfl,Z,JL,J5,q⟩:=h
 have L9:=ë (ÿ (show 1<=64 by decide) _) X.units
 refine⟨_,ac (bG 1 Mu.nd lD)
  (ac (bG 2 Mu.nd ah)
  (ac (bG 3 Mu.nd (bF Gx X (aa (pv 0) (aa (pv 1) ad))))
  (ac (dS ñ (fq (pv 3) (λ_=>rfl))
   (ac (eI (aL (pv 3)) (b9 4 Mu.nd) (af (kF L9 (pv 1) (pv 4) (pv 2) Κ)))
   (ac (pi (i:=2) Mu.nd Κ (kS Κ) ah pJ)
   (af (bG 3 Mu.nd (bF Gx X (aa (pv 0) (aa (pv 1) ad))))))))
  (af (ao (pv 1)))))),?_⟩
 refine λb S=>?_
 have s0:=(Hz.refl H).new (o:=.dK []) S
 have g0:(ο H b (.dK [])) b=Α (.dK (dV [])):=ae
 have Ms:b∉Y:=λp=>by
  obtain⟨i,hi,ei⟩:=ì p
  have e:=Z.d i b (by rw[Λ hi,ei])
  rw[S]at e;cases e
 generalize ο H b _=H0 at s0 g0⊢
 refine⟨D,b,Y,L,_,Κ,Z.same s0,g0,Ms,JL,J5,λFr H1 s1 Yn gFr=>?_⟩
 refine⟨λm r j=>∃(a:Dn)(c f:Nat)(n:Ο)(x:Option V),m=f/\Jb L a c/\i6 L=mS L f a c/\L.length+1<=f+a.length/\Hz H j/\j b=Α (.dK (dV a))/\j n=Α (.π (nV (b5 L a)))/\r=[Α (.ref D),Α (.ref b),Α (.int (c:Nat)),Α (.ref n),x],
  ⟨L.length+1,[],0,L.length+1,Fr,_,Κ,Jb.nil L,Κ,by simp,s0.trans s1,s1 _ _ g0,gFr,Κ⟩,?_⟩
 rintro m r H2 ⟨a,c,f,n,x,rfl,hN,JH,hf,s2,t,B,rfl⟩
 refine⟨_,.inl ⟨_,HC.of B,Κ⟩,?_⟩
 have RN:=hN.len
 by_cases y:b5 L a=[]
 ·rw[y]
  refine au (q b H2 s2 S Ms ?_)
  rw[JH,qV y];exact t
 ·have ht:(!(nV (b5 L a)).isEmpty)=Γ:=by
   unfold nV
   cases e:b5 L a with
   |nil=>exact Ι e y
   |cons _ _=>rfl
  rw[ht]
  cases m with
  |zero=>lia
  |succ m =>
  rw[nH y]at JH
  have C:=hN.step y
  have G:=C.len
  have hks:=jr a (b5 L a) c
  have Kq:=Ē.mpr y
  have VZ:(fL a (b5 L a) c).length=a.length+(b5 L a).length:=by unfold fL;rw[ϛ,Ρ]
  refine az ⟨λI j=>∃(T:Ο)(u:Option V),Hz H j/\j b=Α (.dK (dV (fL a (b5 L a) c)))/\j T=Α (.π (nV (b5 L (fL a (b5 L a) c))))/\I=[Α (.ref D),Α (.ref b),Α (.int ((c+1:Nat):Int)),Α (.ref T),u],?_,?_⟩
  ·rintro I j ⟨T,u,s',gn',gf',rfl⟩
   exact⟨m,ê _,_,_,m,T,u,Κ,C,JH,by lia,s',gn',gf',Κ⟩
  refine⟨n,Κ,⟨_,HC.of B⟩,?_⟩
  have SO:=bc B t (by intro z;cases z)
  have Wc:=vX L a
  have J:∀l∈b5 L a,l∉ks a:=λl hl=>(IJ.mp hl).2.1
  generalize hfs:b5 L a=fs at B Wc J VZ G⊢
  refine b8 (K:=K) (a:=n) (xs:=nV fs) (λi r A=>∃x:Option V,Hz H A/\A n=Α (.π (nV fs))/\A b=Α (.dK (dV (fL a (fs.take i) c)))/\r=[Α (.ref D),Α (.ref b),Α (.int (c:Nat)),Α (.ref n),x])
   ⟨_,s2,B,by unfold fL;rw[List.take_zero,NA,Ų];exact t,Κ⟩ (λi r A _ HD=>by obtain⟨_,_,g3,_⟩:=HD;exact HC.of g3) ?_ ?_
  ·rintro i v r A M ⟨x,U,VJ,N,rfl⟩
   have hi:i<fs.length:=by have:=(gQ0 M);rw[aw]at this;exact this
   have g:=Λ hi
   have JK:=bB g
   rw[JK]at M
   have M:=ϋ M
   subst M
   generalize fs[i]=l at g
   have O:l∉ks (fL a (fs.take i) c):=by
    rw[jr]
    intro p
    rcases Á.mp p with p|p
    ·exact J l (Ψ g) p
    ·exact Af Wc g p
   have Kt:(fL a (fs.take i) c).length<=a.length+i:=by
    unfold fL
    rw[ϛ,Ρ]
    have:=ü i fs
    lia
   refine⟨b,_,Κ,L8.k (k:=ϫ (l:Int)) N (by rw[m3,ϊ];lia),_,U.put S,aI SO VJ _,?_,Κ⟩
   rw[ae,Aw c O,Ì,g]
   unfold fL
   rw[Ϥ,←Ĝ];rfl
  ·rintro r A ⟨x,U,VJ,N,rfl⟩
   rw[aw,Æ]at N
   refine⟨_,_,Κ,Κ,D,b,Y,L,_,Κ,Z.same U,N,Ms,JL,J5,λFr2 H4 s4 hFr2 R=>?_⟩
   exact⟨_,_,U.trans s4,s4 _ _ N,R,Κ⟩
noncomputable def whB(s:ϩ):List ϩ:=match s with
 |.While _ b _ _=>b
 |_=>[]
noncomputable def DK(s:ϩ):Scope:=match s with
 |.Assign _ (.Call _ [.ListComp _ _ sc _] _ _) _=>sc
 |_=>jl
noncomputable def Cg(s:ϩ):Scope:=match s with
 |.Return (Α (.Call _ [.ListComp _ _ sc _] _ _)) _=>sc
 |_=>jl
theorem rE(x:Nat)(us:List Nat):AH (.int (x:Int)) (nV us)=decide (x∈us):=by
 rw[show nV us=(iz us).map V.int from fV us,jt]
 exact lW
theorem jv(us:List Nat):(nV us).all iB=Γ:=by
 rw[show nV us=(iz us).map V.int from fV us]
 exact fJ _
theorem AC(l:Nat):∀us:List Nat,(iz us).idxOf (l:Int)=us.idxOf l
 |[]=>rfl
 | x:: us=>by
  show List.idxOf (l:Int) ((x:Int):: iz us)=_
  rw[List.idxOf_cons,List.idxOf_cons,AC l us]
  grind
theorem m4(us:List Nat)(h:i<=us.length):iQ (nV us) (Α (i:Int)) Β=nV (us.drop i):=by
 unfold iQ
 rw[HT.Kf,HT.N9,aw,Kz h,Ħ (by rw[ø,aw];exact Ξ _)]
 unfold nV
 rw[List.map_drop]
theorem DH(d a:Dn):(((dV d).map (·.1)).filter λk=>!(cC (dV a) k).isSome).map kV=nV ((ks d).filter λk=>!decide (k∈ks a)):=by
 rw[wg]
 unfold nV
 rw[XZ,Ú]
 congr 1
 refine A4 λk _=>?_
 show(!(cC (dV a) (ϫ (k:Int))).isSome)=_
 rw[nQ]
noncomputable def pI(q:Nat×Nat):Int×Int:=((q.1:Int),(q.2:Int))
inductive yG(vs:List V)(H:Hp)(Q:VK)(E:XK):Prop
 |mk (D nu:Ο) (ds:List Ο) (L:Ld) (a:Dn) (_:vs=[.ref D,.ref nu]) (_:Jz H D ds L) (_:H nu=Α (.dK (dV a))) (_:nu∉ds) (_:L.length<=1000) (_:(∀w,(L.getD w []).length<=1000)) (_:(∀w,∀x∈ks (L.getD w []),x<L.length)) (_:b5 L a=[]) (_:a.length<L.length) (_:∀(R:Ο)(H':Hp),Hz H H'->H' R=Α (.π (nV (iS L a)))->Q (.ref R) H')
inductive yk(vs:List V)(H:Hp)(Q:VK)(E:XK):Prop
 |mk (D nu:Ο) (ds:List Ο) (L:Ld) (a:Dn) (_:vs=[.ref D,.ref nu]) (_:Jz H D ds L) (_:H nu=Α (.dK (dV a))) (_:nu∉ds) (_:L.length<=1000) (_:(∀w,(L.getD w []).length<=1000)) (_:(∀w,∀x∈ks (L.getD w []),x<L.length)) (_:b5 L a=[]) (_:a.length<L.length) (_:∀(R:Ο)(us:List V)(H':Hp),Hz H H'->H' R=Α (.tup us)->HW H' us ((je L (iS L a).reverse).map pI)->Q (.ref R) H')
abbrev NBk:List Str:=["leads","numbers","left","walked","lane"]
abbrev NRg:List Str:=["leads","numbers","lanes","following"]
theorem Oi:aq NBk xL (ag lw):=bM
theorem bkB1:IP NBk (ag lw) (pX ((aB lw).getD 0 (.Pass ⟨0,0,0,0⟩))) qa [1]:=_L2.Jv
theorem bkB2:IP NBk (ag lw) (DK ((whB ((aB lw).getD 3 (.Pass ⟨0,0,0,0⟩))).getD 1 (.Pass ⟨0,0,0,0⟩))) qa [1]:=_L2.Jv
theorem We:(["lane","numbers"]:List Str).Nodup:=by decide +kernel
theorem Dc(F:HZ K "walk_back" "walk_back" lw f fd)(T:dz mg):HB P w K mg μ aK 1 f fd xL yG:=by
 refine F.ok Oi λ_ _ _ s H _ Q E hr h=>?_
 obtain⟨D,I,ds,L,a,rfl,v,N4,Ms,JL,J5,HS,Ng,RN,q⟩:=h
 have L9:=ë (ÿ (show 1<=64 by decide) _) hr.units
 refine⟨_,ac (bU (i:=2) (own:=["lane"]) (capN:=["numbers"]) (cap:=[1]) bkB1 Κ Oi.nd Κ Κ (aE Κ T.range (aa (gq T.len (pv 0)) ad))
   (λC s' n fp=>⟨b9 0 We,c7 (jE (fz L9 (pv 0) (pv 1)) (by with_unfolding_all rfl)),pv 0⟩))
  (ac (bG 3 Oi.nd (aJ ad))
  (ac (bG 4 Oi.nd (be HN (pv 2) ah))
  (ac (dS ñ (bJ (bV) (pv 4) (pv 3))
   (ac (aF (ck plainAttrs_list PySem.F.slot_list_append PySem.F.type_list_append bq (pv 3) (aa (pv 4) ad)))
   (af (bG 4 Oi.nd (aH (x8 Κ) Κ T.min PyProof.Rows.boot_min (aa (vo (aZ (own:=["other"]) (capN:=["numbers"]) (cap:=[1]) bkB2 Κ (kG (be HN (pv 0) (pv 4)))
    (λC s' n fp=>⟨b9 0 VX,c7 (jE (fz L9 (pv 0) (pv 1)) (by with_unfolding_all rfl)),pv 0⟩))) ad))))))
  (af (ao (dW fP (pv 3) (eG (ck plainAttrs_list slot_list_index PySem.F.type_list_index nK (pv 3) (aa (pv 4) ad))) ip)))))),?_⟩
 have J:(ds.map V.ref).length=L.length:=by rw[Ρ];exact v.len
 refine⟨D,_,Κ,.inl (HC.of v.l),_,by rw[J],by lia,by lia,?_⟩
 rw[Τ]
 refine jz (lo:=0) (λk=>!decide (k∈ks a)) (λk=>V.int k) (by rw[ϊ];lia) (λi acc N hi h=>?_) (λp hLf=>?_)
 ·rw[Õ]
  refine⟨I,_,Κ,II.k (k:=ϫ (i:Int)) N4,_,Κ,?_⟩
  rw[nQ]
  cases M:(!decide (i∈ks a)) with
  | true =>
   rw[M]at h
   exact az (h)
  | false =>
   rw[M]at h
   exact au h
 have eL:(List.filter (λk=>!decide (k∈ks a)) (Υ L.length)).map (λk:Nat=>V.int (k:Int))=nV (eP L a):=rfl
 rw[eL]
 have s0:=(Hz.refl H).new (o:=.π (nV (eP L a))) hLf
 have g0:=aX H p (.π (nV (eP L a)))
 generalize ο H p _=H0 at s0 g0⊢
 refine⟨ϡ _,λc r=>?_⟩
 have O:=s0.free r
 have s1:=s0.new (o:=.π []) r
 have R9:=cf g0 r (.π [])
 have S:(ο H0 c (.π [])) c=Α (.π (nV [])):=ae
 generalize ο H0 c _=H1 at s1 R9 S⊢
 have Ij:=vH RN
 have Yg:(nV (eP L a))[0]?=Α (.int (((eP L a).headD 0:Nat):Int)):=by
  cases e:eP L a with
  |nil=>exact Ι e Ij
  |cons z t=>rfl
 refine⟨p,_,0,_,Κ,Κ,HC.of R9,al (j:=0) Yg,?_⟩
 have hW0:LY L a [] ((eP L a).headD 0):=by
  cases e:eP L a with
  |nil=>exact Ι e Ij
  | cons z t =>
   have hz:z∈eP L a:=by rw[e];exact Ϧ
   obtain⟨h1,h2⟩:=Ϫ.mp hz
   exact⟨á,(λy hy=>by cases hy),⟨Ϩ.mp h1,by simpa using h2⟩,(λi x y U=>by simp at U),λx U=>by simp at U⟩
 refine⟨λm σ n=>∃(b:List Nat)(l f:Nat),m=f/\LY L a b l/\iS L a=ng L a f b l/\L.length+1<=f+b.length/\Hz H n/\n c=Α (.π (nV b))/\σ=[Α (.ref D),Α (.ref I),Α (.ref p),Α (.ref c),Α (.int (l:Nat))],
  ⟨L.length+1,[],_,L.length+1,Κ,hW0,Κ,by simp,s1,S,Κ⟩,?_⟩
 rintro m σ H2 ⟨b,l,f,rfl,A,X,hf,s2,G,rfl⟩
 have Kh:=jm _ _ A.nd λx U=>(A.lt x U).1
 refine⟨c,_,Κ,.inl (HC.of G),Κ,jv b,_,Κ,?_⟩
 rw[rE]
 cases m with
 |zero=>lia
 |succ m =>
 rw[ng]at X
 by_cases u:l∈b
 ·rw[Ε u]
  rw[Θ u]at X
  have hii:=zz (c0 u)
  refine au ⟨.inl ⟨Κ,_,HC.of G⟩,c,iz b,(l:Int),Κ,Κ,by rw[G];exact congrArg (λz=>Α (HO.π z)) (fV b),IL.mpr ⟨l,u,Κ⟩,by unfold iz;rw[Ρ];lia,_,Κ,c,_,Κ,HC.of G,λR hR=>?_⟩
  rw[AC,m4 b hii]
  refine q R _ (s2.new hR) ?_
  rw[ae,X]
 ·rw[Ζ u]
  rw[Η u]at X
  have MN:=A.step HS Ng u
  refine az ⟨λY n=>Hz H n/\n c=Α (.π (nV (b++[l])))/\Y=[Α (.ref D),Α (.ref I),Α (.ref p),Α (.ref c),Α (.int ((lN (ik L a l):Nat):Int))],?_,?_⟩
  ·rintro Y n ⟨s',gw',rfl⟩
   exact⟨m,ê _,_,_,m,Κ,MN,X,by rw[ϛ,Ã];lia,s',gw',Κ⟩
  refine⟨.inl ⟨Κ,_,HC.of G⟩,c,_,_,Κ,Κ,G,by rw[ϊ,aw];lia,?_⟩
  have Z:Hz H (ο H2 c (.π (nV b++[V.int (l:Int)]))):=s2.put O
  have gw3:(ο H2 c (.π (nV b++[V.int (l:Int)]))) c=Α (.π (nV (b++[l]))):=by rw[ae,eV];rfl
  generalize ο H2 c _=H3 at Z gw3⊢
  have Kt:l<ds.length:=by rw[v.len];exact A.cur.1
  have g:=Λ Kt
  generalize ds[l]=d at g
  have gd:=Z _ _ (v.d l d g)
  have P4:=Z _ _ N4
  have ndu:I≠d:=λz=>Ms (by rw[z];exact Ψ g)
  refine⟨D,_,_,_,Κ,Κ,HC.of (Z _ _ v.l),al (by rw[ώ,g];rfl),d,_,Κ,gd,λo=>?_⟩
  refine oj (λk=>!(cC (dV a) k).isSome) kV (by rw[m3,ϊ];have:=J5 l;lia) ae (λk acc N hk hN=>?_) (λB hB=>?_)
  ·refine⟨I,_,Κ,II.k (k:=k) (aI ndu P4 _),_,Κ,?_⟩
   cases M:(!(cC (dV a) k).isSome) with
   | true =>
    rw[M]at hN
    exact az (hN)
   | false =>
    rw[M]at hN
    exact au hN
  have nf:∀o' u',H d≠Α (.Jm o' u'):=λo' u' z=>by rw[v.d l d g]at z;cases z
  have RM:=ϗ (ai (H:=ο H3 d (.Jm o (.dK (dV (L.getD l []))))) ae hB)
  have QA:H3 B=Β:=by rw[aj RM]at hB;exact hB
  refine⟨d,o,_,aI (ϗ RM) ae _,nf,?_⟩
  rw[qi RM,qj gd,DH]
  have s4:=Z.new (o:=.π (nV (ik L a l))) QA
  have g4:(ο H3 B (.π (nV (ik L a l)))) B=Α (.π ((iz (ik L a l)).map V.int)):=by rw[ae];exact congrArg (λz=>Α (HO.π z)) (fV _)
  have gw4:=cf gw3 QA (.π (nV (ik L a l)))
  have Yq:=se Ng A.cur.1 A.cur.2
  refine⟨B,_,Κ,HC.of g4,λz=>Yq (Ī.mp z),λk hk χ=>?_⟩
  obtain⟨k',Rb,rfl⟩:=IL.mp hk
  have ek:=Dk Rb λz hz=>by
   have:=χ (z:Int) (IL.mpr ⟨z,hz,Κ⟩)
   lia
  rw[ek]
  exact⟨s4,gw4,Κ⟩
theorem RO:aq NRg xL (ag qB):=bM
theorem bkRg:IP NRg (ag qB) (Cg ((aB qB).getD 2 (.Pass ⟨0,0,0,0⟩))) ["leads"] [0]:=_L2.Jv
theorem Wg:(["lane","after","leads"]:List Str).Nodup:=by decide +kernel
theorem CA(F:HZ K "find_ring" "find_ring" qB f fd)(T:dz mg)(Gx:Ca P w K mg μ "walk_back" 1 xL yG):
  HB P w K mg μ aK 2 f fd xL yk:=by
 refine F.ok RO λ_ _ _ s H _ Q E hr h=>?_
 obtain⟨D,nu,ds,L,a,rfl,U,N4,Ms,JL,J5,HS,Ng,RN,q⟩:=h
 have L9:=ë (ÿ (show 1<=64 by decide) _) hr.units
 refine⟨_,ac (bG 2 RO.nd (wM Κ Κ T.list Κ T.Uq (aa (bF Gx hr (aa (pv 0) (aa (pv 1) ad))) ad)))
  (ac (bG 3 RO.nd (aA tH (dW fP (pv 2) (eG ah) ip) (dW fP (pv 2) ip (eG ah))))
  (af (ao (bP ce Κ T.tuple PySem.Pv.boot_tuple (aa (aZ (own:=["lane","after"]) (capN:=["leads"]) (cap:=[0]) bkRg Κ (F9 Κ T.zip (aa (pv 2) (aa (pv 3) ad)))
   (λC s' H' fp=>⟨(show PG _ _ (tW K 2 _) from bO Κ (av (b9 0 Wg) (av (b9 1 Wg) bz))),bu,
    aM (aa (pv 0) (aa (jk L9 (be (show JQ _ (qO K) from HN) (pv 2) (pv 1)) (pv 0) (λ_ _=>rfl)) ad))⟩)) ad))))),?_⟩
 have u:=uE HS Ng RN
 refine⟨D,_,_,L,a,Κ,U,N4,Ms,JL,J5,HS,Ng,RN,λR H1 s1 gR=>⟨R,_,Κ,HC.of gR,λv NQ=>?_⟩⟩
 generalize iS L a=j at u gR q
 have Nn:=jm _ _ u.nd u.lt
 have A:(nV j).reverse=nV j.reverse:=by unfold nV;rw[List.map_reverse]
 rw[A]
 have Wh:=u.fwd
 have Lh:j.reverse.length=j.length:=Ò ..
 have Wi:=λx X=>u.lt x (List.mem_reverse.mp X)
 generalize j.reverse=r at Wh Lh Wi q
 have s2:=s1.new (o:=.π (nV r)) NQ
 have g2:=aX H1 v (.π (nV r))
 generalize ο H1 v _=H2 at s2 g2⊢
 have B:1<=r.length:=by rw[Lh];exact Ē.mpr u.ne
 refine⟨1,Κ,v,_,Κ,HC.of g2,λc1 Q6=>?_⟩
 rw[show iQ (nV r) (Α 1) Β=nV (r.drop 1) from m4 r (i:=1) B]
 have s3:=s2.new (o:=.π (nV (r.drop 1))) Q6
 have g3:=cf g2 Q6 (.π (nV (r.drop 1)))
 have Sz:=aX H2 c1 (.π (nV (r.drop 1)))
 generalize ο H2 c1 _=H3 at s3 g3 Sz⊢
 refine⟨1,Κ,v,_,Κ,HC.of g3,λc2 LJ=>?_⟩
 rw[show iQ (nV r) Β (Α 1)=nV (r.take 1) from ue r 1]
 have s4:=s3.new (o:=.π (nV (r.take 1))) LJ
 have g4:=cf g3 LJ (.π (nV (r.take 1)))
 have Wj:=cf Sz LJ (.π (nV (r.take 1)))
 have Wl:=aX H3 c2 (.π (nV (r.take 1)))
 generalize ο H3 c2 _=H4 at s4 g4 Wj Wl⊢
 refine⟨_,_,_,_,Κ,Κ,Wj,Wl,by rw[aw,aw,ø,ņ,ϊ];lia,λFo Yr=>?_⟩
 rw[←eV]
 have Y:=s4.new (o:=.π (nV (nv r))) Yr
 have G:=cf g4 Yr (.π (nV (nv r)))
 have I:=aX H4 Fo (.π (nV (nv r)))
 show cr 3 (V.ref Fo) _ (ο H4 Fo (.π (nV (nv r)))) _
 generalize ο H4 Fo _=H5 at Y G I⊢
 have hrt:=pc r
 have J:∀x∈nv r,x∈r:=λx X=>by
  unfold nv at X
  rcases Á.mp X with h|h
  ·exact ew h
  ·exact Ā h
 refine⟨v,_,Κ,⟨_,HC.of G⟩,⟨_,HC.of I⟩,aW r.length (by rw[ϊ];lia) (λi acc c=>Hz H5 c/\HW c acc ((((r.zip (nv r)).take i).map λp=>(p.1,(fO (L.getD p.2 []) p.1).getD 0)).map pI)) ⟨Hz.refl _,.nil⟩ (λi acc c h=>?_) ?_ ?_⟩
 ·rw[Paired.length h.2,Ρ,Ρ]
  exact ü _ _
 ·rintro i acc c hi ⟨g,hU⟩
  have M:=Λ hi
  have hi2:i<(nv r).length:=by lia
  have b:=Λ hi2
  generalize r[i]=x at M
  generalize (nv r)[i]=y at b
  refine⟨⟨_,_,_,_,HC.of (g _ _ G),HC.of (g _ _ I),bB M,bB b⟩,λz Z hz=>?_⟩
  obtain⟨p,hp,rfl,hz⟩:=hz
  obtain⟨x',y',ex,ey,rfl⟩:=hz _ _ (HC.of (g _ _ G)) (HC.of (g _ _ I))
  rw[bB M]at ex
  rw[bB b]at ey
  have ex:=ϋ ex
  have ey:=ϋ ey
  subst ex ey
  have m:=g.new (o:=.tup [.int (x:Int),.int (y:Int)]) hp
  have N:=HW.same ((Hz.refl c).new (o:=.tup [.int (x:Int),.int (y:Int)]) hp) hU
  refine⟨p,_,Κ,HF.of ae,Κ,_,_,Κ,_,_,Κ,Κ,?_⟩
  generalize ο c p _=Z at m N⊢
  have hyl:=Wi y (J y (Ψ b))
  have hyd:y<ds.length:=by rw[U.len];exact hyl
  have n:=Λ hyd
  generalize ds[y]=d at n
  have gd:=m _ _ (Y _ _ (U.d y d n))
  obtain⟨gl,O⟩:=fj (Wh i x y M b)
  refine⟨D,_,_,_,Κ,Κ,HC.of (m _ _ (Y _ _ U.l)),al (by rw[ώ,n];rfl),d,.int (gl:Int),Κ,?_,by show 2<=Χ;decide,λt S=>?_⟩
  ·have e:=lT x (L.getD y [])
   rw[O]at e
   have e2:=II.k (k:=ϫ (x:Int)) gd
   rw[e]at e2
   exact e2
  refine⟨m.new S,?_⟩
  have ez:(r.zip (nv r))[i]?=Α (x,y):=by rw[ť];exact⟨M,b⟩
  rw[Ì,ez,Ϥ,Ϥ]
  refine HW.snoc ⟨t,Κ,?_⟩ (HW.same ((Hz.refl Z).new S) N)
  rw[ae]
  show Α (HO.tup [V.int (x:Int),V.int (gl:Int)])=Α (HO.tup [V.int ((x:Nat):Int),V.int (((fO (L.getD y []) x).getD 0:Nat):Int)])
  rw[O];rfl
 ·rintro acc c ⟨g,hU⟩
  refine⟨⟨_,_,HC.of (g _ _ G),HC.of (g _ _ I),.inl (by rw[Ë];rw[aw];exact Ξ _)⟩,λCm RP=>?_⟩
  have Wm:=HW.same ((Hz.refl c).new (o:=.π acc) RP) hU
  have m:=(Y.trans g).new (o:=.π acc) RP
  have g7:=aX c Cm (.π acc)
  generalize ο c Cm _=Z at Wm m g7⊢
  refine⟨_,_,Κ,.inl ⟨HC.of g7,λt S=>?_⟩⟩
  have hz:(r.zip (nv r)).length=r.length:=by rw[List.length_zip,hrt,Nat.min_self]
  rw[Ħ (by lia)]at Wm
  exact q t acc _ (m.new S) ae (HW.same ((Hz.refl Z).new S) Wm)
inductive EI
 |Ky (q:Nat×Nat)
 |ring (r:List (Nat×Nat))
 |Js (N:List Nat)
noncomputable def qe(wy:bo->Nat)(ps:IPs)(n:Nat):Ld:=eW (cu wy ps) (tV (bW wy ps n n)) ps.length
noncomputable def rl(wy:bo->Nat)(ps:IPs)(n:Nat):EI:=match dH wy ps n with
 |some q =>.Ky q
 |none=>if (i6 (qe wy ps n)).length<ps.length then .ring (je (qe wy ps n) (iS (qe wy ps n) (i6 (qe wy ps n))).reverse) else .Js (numsOf (i6 (qe wy ps n)) ps.length)
def JW(H:Hp)(v:V)(S:List Nat):EI->Prop
 |.Ky q=>∃t p,v=.ref t/\H t=Α (.tup [.str "lost",.ref p])/\H p=Α (.tup [.int (q.1:Int),.int (q.2:Int)])
 |.ring r=>∃t p us,v=.ref t/\H t=Α (.tup [.str "ring",.ref p])/\H p=Α (.tup us)/\HW H us (r.map pI)
 |.Js N=>∃t p a b,v=.ref t/\H t=Α (.tup [.str "paper",.ref p])/\H p=Α (.tup [.ref a,.ref b])/\H a=Α (.tup (nV N))/\H b=Α (.tup (nV S))
inductive y4(c:Cs)(C:Ο)(J:fg)(vs:List V)(H:Hp)(Q:VK)(E:XK):Prop
 |mk (x lx HJ lt:Ο) (n:Nat) (HE:List V) (ps:IPs) (wy:bo->Nat) (_:vs=[.ref x]) (_:Ir c C J H x lx HJ lt n HE ps wy) (_:∀(v:V)(H':Hp),Hz H H'->JW H' v (bW wy ps n n) (rl wy ps n)->Q v H')
abbrev Wn:List Str:=["table","pair","sets","leads","numbers"]
noncomputable def F2(s:ϩ):Scope:=match s with
 |.Return (Α (.Tuple [_,.Tuple [.Call _ [.ListComp _ _ sc _] _ _,_] _ _] _ _)) _=>sc
 |_=>jl
theorem LH:aq Wn si (ag qG):=bM
theorem bkLk:IP Wn (ag qG) (F2 ((aB qG).getD 6 (.Pass ⟨0,0,0,0⟩))) qa [4]:=_L2.Jv
theorem CS(F:HZ K "look" "look" qG f fd)(T:dz mg)(W:mX K C J)
  (Gl:Ca P w K mg μ "lost" 7 si (y3 c C J))
  (Gm:Ca P w K mg μ "met" 6 si (yz c C J))
  (Ga:Ca P w K mg μ "leads_of" 5 sr (uR c C J))
  (Gb:Ca P w K mg μ "number_lanes" 2 ["leads"] yr)
  (Gr:Ca P w K mg μ "find_ring" 2 xL yk):
  HB P w K mg μ aK 8 f fd si (y4 c C J):=by
 refine F.ok LH λ_ _ _ s H _ Q E B h=>?_
 obtain⟨x,lx,HJ,lt,n,HE,b,d,rfl,I,q⟩:=h
 have L9:=ë (ÿ (show 1<=64 by decide) _) B.units
 have hn:=I.Lw
 have h40:=I.few
 refine⟨_,ac (bG 1 LH.nd (bF Gl B (aa (pv 0) ad)))
  (ac (aC (bJ iu (pv 1) aT) (af (ao (aM (aa bA (aa (pv 1) ad))))) ar)
  (ac (bG 2 LH.nd (bF Gm B (aa (pv 0) ad)))
  (ac (bG 3 LH.nd (bF Ga B (aa (pv 0) (aa (pv 2) ad))))
  (ac (fR (i:=4) LH.nd Κ (ń Κ) (bF Gb B (aa (pv 3) ad)))
  (ac (aC (bJ jX (aH xA Κ T.len PySem.boot_len (aa (pv 4) ad)) (gq T.len (pv 2)))
   (af (ao (aM (aa bA (aa (bF Gr B (aa (pv 3) (aa (pv 4) ad))) ad))))) ar)
  (af (ao (aM (aa bA (aa (aM (aa (bP ce Κ T.tuple PySem.Pv.boot_tuple (aa (aZ (own:=["lane"]) (capN:=["numbers"]) (cap:=[4]) bkLk Κ
    (aE Κ T.range (aa (gq T.len (pv 2)) ad))
    (λC s' H' fp=>⟨b9 0 We,bu,jk L9 (pv 1) (pv 0) (λ_ _=>rfl)⟩)) ad)) (aa (pv 2) ad))) ad)))))))))),?_⟩
 refine⟨x,_,_,_,n,_,b,d,Κ,I,λv H1 Z G=>?_⟩
 refine⟨Κ,_,Κ,?_⟩
 unfold rl at q
 cases K0:dH d b n with
 | some p =>
  rw[K0]at G q
  obtain⟨t,rfl,gt⟩:=G
  refine az ⟨by show 2<=Χ;decide,λt2 MG=>?_⟩
  exact q _ _ (Z.new MG) ⟨t2,t,Κ,ae,cf gt MG _⟩
 |none =>
 rw[K0]at G q
 have G:=G
 subst G
 refine au ⟨x,lx,HJ,lt,n,HE,b,d,Κ,I.same W Z,λj H2 s2 hSe gS=>?_⟩
 have Lp:=eK d b n n
 have Mq:=iN d b n n (Ξ _)
 refine⟨x,_,_,_,j,n,_,b,d,_,Κ,I.same W (Z.trans s2),gS,Lp,Mq,λD ds H3 s3 M=>?_⟩
 have HK:Im (cu d b) (tV (bW d b n n)) b.length (qe d b n):=jq
 have M:Jz H3 D ds (qe d b n):=M
 dsimp only at q
 generalize qe d b n=L at HK M q
 have Yt:=HK.len
 have Jj:∀w,(L.getD w []).length<=1000:=λw=>Í (HK.few w) (by lia)
 have HS:∀w,∀z∈ks (L.getD w []),z<L.length:=λw z hz=>by
  obtain⟨y,hy,rfl⟩:=iO hz
  rw[Yt];exact(HK.of w y hy).1
 obtain⟨m,hN,Ng⟩:=p9 L
 refine⟨D,_,L,Κ,M,by lia,Jj,λnu H4 s4 N4 Ms P4=>?_⟩
 have Yu:=s4 _ _ (s3 _ _ gS)
 have Wq:=Z.trans (s2.trans (s3.trans s4))
 generalize bW d b n n=S at Yu Lp Mq q
 generalize i6 L=a at P4 hN Ng q
 have hNl:=hN.len
 refine⟨_,_,Κ,P4,j,_,Κ,.inr (HF.of Yu),_,_,Κ,Κ,_,Κ,?_⟩
 rw[m3,aw,Lp]
 by_cases l:a.length<b.length
 ·rw[Θ l]at q
  rw[Ε (show((a.length:Nat):Int)<((b.length:Nat):Int) by lia)]
  refine az ⟨D,nu,ds,L,a,Κ,M.same s4,P4,Ms,by lia,Jj,HS,Ng,by lia,λR us H5 s5 gR hU=>⟨by show 2<=Χ;decide,λt r=>?_⟩⟩
  exact q _ _ ((Wq.trans s5).new r) ⟨t,R,us,Κ,ae,cf gR r _,HW.same ((Hz.refl H5).new r) hU⟩
 ·rw[Η l]at q
  rw[Ζ (show ¬((a.length:Nat):Int)<((b.length:Nat):Int) by lia)]
  have full:∀z,z<b.length->z∈ks a:=v8 hN.nd (λz hz=>by rw[←Yt];exact hN.lt z hz) (by unfold ks;grind)
  refine au ⟨j,_,Κ,.inr (HF.of Yu),(b.length:Int),by rw[aw,Lp],by lia,by lia,?_⟩
  rw[Τ]
  refine jz (lo:=0) (λ_=>Γ) (λk=>V.int (((fO a k).getD 0:Nat):Int)) (by rw[ϊ];lia) (λi acc N hi h=>?_) (λCm RP=>?_)
  ·rw[Õ]
   obtain⟨g,hg⟩:=fj (full i hi)
   refine⟨_,.int (g:Int),Κ,?_,?_⟩
   ·have e:=lT i a
    rw[hg]at e
    have e2:=II.k (k:=ϫ (i:Int)) P4
    rw[e]at e2
    exact e2
   grind
  have eN:(List.filter (λ_=>Γ) (Υ b.length)).map (λk:Nat=>V.int (((fO a k).getD 0:Nat):Int))=nV (numsOf a b.length):=by
   rw[kb.mpr (λ_ _=>rfl)]
   unfold nV _Lk.numsOf
   rw[Ú];rfl
  rw[eN]
  have s5:=Wq.new (o:=.π (nV (numsOf a b.length))) RP
  have g5:=aX H4 Cm (.π (nV (numsOf a b.length)))
  have O:=cf Yu RP (.π (nV (numsOf a b.length)))
  generalize ο H4 Cm _=H5 at s5 g5 O⊢
  refine⟨_,_,Κ,.inl ⟨HC.of g5,λu U=>?_⟩⟩
  have s6:=s5.new (o:=.tup (nV (numsOf a b.length))) U
  have g6:=aX H5 u (.tup (nV (numsOf a b.length)))
  have Pr:=cf O U (.tup (nV (numsOf a b.length)))
  generalize ο H5 u _=H6 at s6 g6 Pr⊢
  refine⟨by show 2<=Χ;decide,λtp A=>?_⟩
  have s7:=s6.new (o:=.tup [.ref u,.ref j]) A
  have g7:=aX H6 tp (.tup [.ref u,.ref j])
  have X:=cf g6 A (.tup [.ref u,.ref j])
  have Y:=cf Pr A (.tup [.ref u,.ref j])
  generalize ο H6 tp _=H7 at s7 g7 X Y⊢
  refine⟨by show 2<=Χ;decide,λt r=>?_⟩
  exact q _ _ (s7.new r) ⟨t,tp,u,j,Κ,ae,cf g7 r _,cf X r _,cf Y r _⟩
abbrev Key:=Int×Int×Option Nat
noncomputable def keyN(r:Rw):Key:=(r.p,r.g,r.c)
noncomputable def qT(k:Key):bo:=[Α k.1,Α k.2.1,k.2.2.map λz:Nat=>(z:Int)]
theorem zD(h:qT k=qT l):k=l:=by
 obtain⟨a,b,c⟩:=k
 obtain⟨e,f,d⟩:=l
 simp only[qT,List.cons.injEq,Option.some.injEq,and_true]at h
 obtain⟨rfl,rfl,h⟩:=h
 congr 2
 cases c<;>cases d<;>simp_all<;>lia
theorem B9:z∈wl (kT rs) key↔∃r,dI rs key=Α r/\z∈r.s:=by
 unfold wl
 rw[Yd.Iz (Yd.Jf _)]
 unfold kT
 cases dI rs key with
 |none=>simp
 | some r =>
  dsimp only
  rw[Yd.IH,cy,ŭ,decide_eq_true_eq]
  simp
noncomputable def TC(ts:Ts)(tn:wu):Bool->Ο
 |true=>tn.near
 |false=>ts.told
def JJ(P:Program)(w:Å)(ts:Ts)(tn:wu):Bool->TJ
 |true=>S2 P w tn
 |false=>KP P w ts
noncomputable def okE(n:Nat)(e:Nat×Nat):iK n (zp e)=Γ↔(e.1<n/\e.2<n/\e.1≠e.2):=by
 unfold iK zp
 grind
noncomputable def B8(n:Nat)(kvs:List eR):Wf:=λp g k=>if p<n/\g<n then V0 kvs p g k else []
theorem xN(h:qd n es kvs n)(p g:Nat)(k:Option Nat):(∀z∈B8 n kvs p g k,z<es.length)/\(B8 n kvs p g k).length<=es.length:=by
 have c:∀z∈B8 n kvs p g k,z<es.length:=λz b=>by
  unfold B8 at b
  by_cases a:p<n/\g<n
  ·rw[Θ a]at b;exact EK h a.2 b
  ·rw[Η a]at b;cases b
 refine⟨c,dN _ _ ?_ c⟩
 unfold B8
 by_cases a:p<n/\g<n
 ·rw[Θ a];exact rh _
 ·rw[Η a];exact á
def Wr(n:Nat)(ps:IPs)(wy:Wf):Prop:=∀(p g:Nat)(k:Option Nat),p<n->g<n->(wy p g k).Pairwise (· < ·)/\(∀z∈wy p g k,z∈ia Ä ps p)/\(p=g->wy p g k=[])
theorem xV{n:Nat}(h:∀r∈rs,eY n ps r=Γ):Wr n ps (Ej rs):=λp g k _ _=>by
 have a:∀z∈Ej rs p g k,∃r∈rs,r.p=(p:Int)/\r.g=(g:Int)/\z∈r.s:=λz b=>by
  obtain⟨r,e,c⟩:=B9 (rs:=rs).mp b
  have i:keyN r=((p:Int),(g:Int),k):=zD (A0 e)
  exact⟨r,lU e,congrArg (·.1) i,congrArg (·.2.1) i,c⟩
 refine⟨Yd.JM _ _,λz b=>?_,λe=>oa.mpr λz b=>?_⟩
 ·obtain⟨r,d,j,_,c⟩:=a z b
  have f:=h r d
  unfold eY at f
  grind
 ·obtain⟨r,d,j,l,c⟩:=a z b
  have f:=h r d
  unfold eY iK at f
  grind
theorem Ah(h:qd n es kvs n):Wr n (es.map zp) (B8 n kvs):=λp g k f c=>by
 unfold B8
 rw[Θ ⟨f,c⟩]
 obtain⟨fs,i,e,_⟩:=oE h c p k
 rw[e]
 refine⟨kR es fs p,λz a=>?_,λj=>?_⟩
 ·have l:z∈i9 es p:=by
   unfold kU at a
   cases m:lk fs p with
   |none=>grind
   |some d=>rw[m]at a;exact(Ϫ.mp a).1
  obtain⟨o,b⟩:=Ϫ.mp l
  refine Ϫ.mpr ⟨by grind,?_⟩
  rw[oA]
  exact Ε (by have:=of_decide_eq_true b;show((es.getD z (0,0)).1:Int)=(p:Int);rw[this])
 ·subst j
  unfold kU
  rw[i.g0]
  refine oa.mpr λz a=>?_
  have b:=(Ϫ.mp a).2
  unfold jZ at b
  grind
noncomputable def Bb(wy:Wf)(p g:Nat):IPs:=if p≠g/\wy p g Β≠[] then [((p:Int),(g:Int))] else []
noncomputable def ul(wy:Wf)(n i:Nat):IPs:=(Υ i).flatMap λp=>(Υ n).flatMap (Bb wy p)
inductive y9(P:Program)(w:Å)(K:ϧ)(c:Cs)(ts:Ts)(tn:wu)(vs:List V)(H:Hp)(Q:VK)(E:XK):Prop
 |mk (sc:Ο) (ns:List Int) (_:vs=[.ref sc]) (_:HC K H sc (ns.map V.int)) (_:∀(b:Bool)(x lx HJ lt:Ο)(n:Nat)(HE:List V)(ps:IPs)(wy:Wf)(H':Hp),Hz H H'->H x=Β->IM c (TC ts tn b) (JJ P w ts tn b) H' x lx HJ lt n HE ps wy->(∀p g k,(wy p g k).length<=400)->((∀p∈ps,iK n p=Γ)/\Wr n ps wy)->ps.length<=8->2<=n->n<=5->Q (.ref x) H')
structure TbM(P:Program)(w:Å)(K:ϧ)(mg:Str->Option Φ)(μ:Ó)(c:Cs)(ts:Ts)(tn:wu)(fi fn ft:Ο)(di dn dt:Đ):Prop where
 Gc:Ca P w K mg μ "_law_cell_at" 1 uy (oQ K)
 Gl:Ca P w K mg μ "_law_lanes" 2 DY uT
 mi:mg "Land"=Α (.ref c.land)
 Mi:Mk K c.land fi
 bi:Binds K di Bx []
 Gi:HB P w K mg μ aK 4 fi di Bx (yB K c)
 mn:mg "Nearer"=Α (.ref tn.near)
 Mn:Mk K tn.near fn
 bn:Binds K dn xG []
 Gn:HB P w K mg μ aK 3 fn dn xG (yu P w c tn)
 mt:mg "Told"=Α (.ref ts.told)
 Mt:Mk K ts.told ft
 bt:Binds K dt Bw []
 Gt:HB P w K mg μ aK 5 ft dt Bw (yd P w K c ts)
 Gr:Ca P w K mg μ "_law_rows" 2 DX yj
def kH(a:YA)(ps:IPs):Prop:=∀p∈ps,∃x y:Nat,p=((x:Int),(y:Int))/\x<a.n/\y<a.n/\x≠y/\a.wy x y Β≠[]
inductive vd(c:Cs)(C:Ο)(J:TJ)(vs:List V)(H:Hp)(Q:VK)(E:XK):Prop
 |mk (a:YA) (_:vs=[.ref a.tb]) (_:xE c C J H a) (_:∀(D:Ο)(Jl:List V)(H':Hp),Hz H H'->H D=Β->H' D=Α (.π Jl)->HW H' Jl (ul a.wy a.n a.n)->(ul a.wy a.n a.n).length<=1000->Q (.ref D) H')
inductive lj(c:Cs)(C:Ο)(J:TJ)(vs:List V)(H:Hp)(Q:VK)(E:XK):Prop
 |mk (a:YA) (cl:Int) (_:vs=[.ref a.tb,.int cl]) (_:xE c C J H a) (_:∀(D:Ο)(rs:List Int)(H':Hp),Hz H H'->H D=Β->H' D=Α (.π (rs.map V.int))->rs.length=a.ps.length->(∀r∈rs,1<=r/\r<=60)->Q (.ref D) H')
theorem P5:aq ["_law_script","_law_places","_law_lanes_here","_law_land"] sw (ag ze):=bM
theorem CP(F:HZ K "_law_table" "_law_table" ze f fd)(M:TbM P w K mg μ c ts tn fi fn ft di dn dt):
  HB P w K mg μ aK 7 f fd sw (y9 P w K c ts tn):=by
 refine F.ok P5 λ_ _ _ s H _ Q E a h=>?_
 obtain⟨N,O,rfl,R,q⟩:=h
 have Uu:Il 4 _:=a.mono (by decide)
 have Ws:Il 5 _:=a.mono (by decide)
 refine⟨_,ac (bG 1 P5.nd (aA cQ ah (aA bQ (bF M.Gc a (aa (pv 0) (aa ah ad))) ah)))
  (ac (bG 2 P5.nd (bF M.Gl a (aa (pv 1) (aa (aA bQ (aA fU (bF M.Gc a (aa (pv 0) (aa ah ad))) ah) ah) (aa (bF M.Gc a (aa (pv 0) (aa ah ad))) ad)))))
  (ac (bG 3 P5.nd (dr M.Mi M.Gi Ws Κ M.mi M.bi .nil cU (aa (pv 1) (aa (pv 2) ad))))
  (ac (aC (bJ br (aA bQ (bF M.Gc a (aa (pv 0) (aa ah ad))) ah) ah) (af (ao (dr M.Mn M.Gn Uu Κ M.mn M.bn .nil cU (aa (pv 3) ad)))) ar)
  (af (ao (dr M.Mt M.Gt a Κ M.mt M.bt .nil cU (aa (pv 3) (aa (bF M.Gr a (aa (pv 1) (aa (pv 2) (aa (aA fU (bF M.Gc a (aa (pv 0) (aa ah ad))) ah) ad)))) ad)))))))),?_⟩
 refine⟨N,O,0,Κ,R,λd0=>⟨_,_,Κ,Κ,(by grind),_,_,Κ,Κ,?_⟩⟩
 obtain⟨n,hn,Nk,V5⟩:∃n:Nat,(2:Int)+d0% 4=(n:Int)/\2<=n/\n<=5:=⟨(2+d0% 4).toNat,by lia,by lia,by lia⟩
 dsimp only
 rw[hn]
 refine⟨N,O,0,Κ,R,λd1=>⟨_,_,Κ,Κ,⟨by decide,by decide⟩,_,_,Κ,Κ,(by grind),N,O,1,Κ,R,λd2=>?_⟩⟩
 obtain⟨m,hm,hm9⟩:∃m:Nat,d1 / 4% 9=(m:Int)/\m<9:=⟨(d1 / 4% 9).toNat,by lia,by lia⟩
 refine⟨n,m,d2,by grind,Nk,by lia,by lia,λl HQ d Z s1 nl gl NQ Kx Ij Q4=>?_⟩
 have Kt:HQ.length=d.length:=by rw[Paired.length NQ,Ρ]
 have hpl:(d.map zp).length=d.length:=Ρ ..
 have HK:∀p∈d.map zp,iK n p=Γ:=λp hp=>by
  obtain⟨e,he,rfl⟩:=Â.mp hp
  exact(okE n e).mpr ⟨(Kx e he).1,(Kx e he).2,Ij e he⟩
 have gd:=AS (ps:=d.map zp) (n:=n) (by lia) (by lia) (by lia) HK
 refine(λx A nx UI Qk=>?_)
 have s2:Hz Z (ο (ο Z A (.own x)) x (.ρ c.land A [])):=Hz.new (Hz.new (Hz.refl Z) UI) (aI (ϗ Qk) nx _)
 refine⟨x,A,_,l,_,_,Κ,ae,HC.of (s2 _ _ gl),HW.same s2 NQ,by lia,(λh=>by grind),(λk h=>by grind),(λk h=>by grind),λ_ S lt HE off j=>⟨Κ,?_⟩⟩
 have s3:=λb o e=>off b o (ai e nx) (s2 _ _ e)
 have J:=s1.trans s3
 refine⟨N,O,2,Κ,J.seq R,λd3=>⟨_,_,Κ,Κ,(by grind),Κ,_,Κ,?_⟩⟩
 cases hb:decide (V.int (d3% 2)=V.int 0) with
 | true =>
  refine az (λu t B C G=>?_)
  have y:Hz S (ο (ο S t (.own u)) u (.ρ tn.near t [])):=Hz.new (Hz.new (Hz.refl S) C) (aI (ϗ G) B _)
  refine⟨u,t,x,A,_,_,n,d,Κ,ae,⟨y _ _ j.1,y _ _ j.2.1,HW.same y j.2.2⟩,Kx,by lia,by lia,λH5 de v T U hE=>⟨Κ,?_⟩⟩
  have s5:=λb o e=>T b o (ai e B) (y _ _ e)
  refine q Γ u x A lt n HE (d.map zp) (B8 n v) H5 (J.trans s5) (J.free B) ⟨⟨t,x,de,v,d,U,hE,by lia,λp g k hp hg=>by unfold B8;grind⟩,⟨t,_,U.1,Κ,Κ⟩,⟨s5 _ _ j.1,s5 _ _ j.2.1,HW.same s5 j.2.2⟩,by lia,by lia,λp g k _ _ z hz=>by rw[hpl];exact(xN hE p g k).1 z hz⟩ (λp g k=>by have:=(xN hE p g k).2;lia) ⟨HK,Ah hE⟩ (by lia) Nk V5
 | false =>
  refine au ⟨N,O,2,Κ,J.seq R,λd4=>⟨_,_,Κ,Κ,⟨by decide,by decide⟩,?_⟩⟩
  refine⟨l,_,_,n,_,Κ,s3 _ _ gl,HW.same s3 NQ,HK,by lia,Nk,V5,λD HX X H4 y hD gD hR L=>?_⟩
  have Lh:=Paired.length hR
  have hrm:=L.len
  refine λu t B C G=>?_
  have s6:Hz H4 (ο (ο H4 t (.own u)) u (.ρ ts.told t [])):=Hz.new (Hz.new (Hz.refl H4) C) (aI (ϗ G) B _)
  have I:=y.trans s6
  refine⟨u,t,x,A,_,D,_,_,_,_,X,Κ,ae,⟨I _ _ j.1,I _ _ j.2.1,HW.same I j.2.2⟩,HC.of (s6 _ _ gD),Md.same s6 hR,by lia,by lia,λr a=>⟨λk hk=>by have:=nX (L.fit r a) k hk;lia,by have:=L.few r a;lia⟩,(λi e=>by rw[L.good]at e;cases e),λ_ H7 de v Y Wt hd7 hv7=>⟨Κ,?_⟩⟩
  have s7:=λb o e=>Y b o (ai e B) (s6 _ _ e)
  have Yv:=y.trans s7
  have R8:=λr a=>nX (L.fit r a)
  refine q Δ u x A lt n HE (d.map zp) (Ej X) H7 (J.trans Yv) (J.free (y.free B)) ⟨⟨t,de,_,v,X,Wt,hd7,hv7,(λr a k hk=>by grind),Κ⟩,⟨t,_,Wt,Κ,Κ⟩,⟨Yv _ _ j.1,Yv _ _ j.2.1,HW.same Yv j.2.2⟩,by lia,by lia,λp g k _ _ z hz=>(xM R8 p g k).1 z hz⟩ (λp g k=>by have:=(xM R8 p g k).2;lia) ⟨HK,xV L.fit⟩ (by lia) Nk V5
abbrev NBg:List Str:=["_law_table_here","_law_found","_law_place","_law_goal"]
theorem P6:aq NBg Ea (ag tu):=bM
theorem Aa(F:HZ K "_law_begins" "_law_begins" tu f fd)(T:dz mg)(L:i3 K c)(W:Wy K C J)(Gw:Me P w K mg μ C "ways" 3 kn (dq J)):
  HB P w K mg μ aK 4 f fd Ea (vd c C J):=by
 refine F.ok P6 λ_ _ _ s H _ Q E hr h=>?_
 obtain⟨a,rfl,B,q⟩:=h
 have hu:=hr.units
 have hn:=B.Lw
 refine⟨_,ac (bG 1 P6.nd (aJ ad))
  (ac (eI (aE Κ T.range (aa (aR (aR (pv 0))) ad)) (b9 2 P6.nd)
   (af (eI (aE Κ T.range (aa (aR (aR (pv 0))) ad)) (b9 3 P6.nd)
    (af (aC (kE (PW.pt (lA (bJ dc (pv 2) (pv 3)) (jh (bJ (tG hu) (cE (pv 0) W.cl Gw hr (aa (pv 2) (aa (pv 3) (aa aT ad)))) (aJ ad))))))
     (af (aF (ck plainAttrs_list PySem.F.slot_list_append PySem.F.type_list_append bq (pv 1) (aa (aM (aa (pv 2) (aa (pv 3) ad))) ad)))) ar)))))
  (af (ao (pv 1)))),?_⟩
 obtain⟨LB,m,K8,IE,JV⟩:=B.i
 refine⟨ϡ _,λD hD=>?_⟩
 have U:=(Hz.refl H).new (o:=.π []) hD
 have g0:=aX H D (.π [])
 generalize ο H D _=H0 at U g0⊢
 refine⟨_,C,_,m,_,Κ,U _ _ K8,W.cl,W.nl,IE,_,_,_,_,_,Κ,U _ _ B.l.1,L.cl,L.np,Κ,_,Κ,by lia,by lia,?_⟩
 rw[Τ]
 refine aS (n:=a.n) (λi r y=>∃(a2 t:Option V)(d:List V)(bs:IPs),Hz H y/\y D=Α (.π d)/\HW y d bs/\bs=ul a.wy a.n i/\bs.length<=i* 12/\r=[Α (.ref a.tb),Α (.ref D),a2,t])
  ⟨Β,Β,[],[],U,g0,.nil,Κ,by grind,Κ⟩ ?_ ?_
 rotate_left
 ·rintro r y ⟨a2,t,d,bs,G,g2,hL,hP,Wu,rfl⟩
  subst hP
  exact(q D d y G hD g2 hL (by lia))
 rintro i r y hi ⟨a2,t,d,bs,G,g2,hL,hP,Wu,rfl⟩
 rw[Õ]
 refine⟨_,C,_,m,_,Κ,G _ _ K8,W.cl,W.nl,IE,_,_,_,_,_,Κ,G _ _ B.l.1,L.cl,L.np,Κ,_,Κ,by lia,by lia,?_⟩
 rw[Τ]
 refine aS (n:=a.n) (λj r u=>∃(t:Option V)(d:List V)(bs:IPs),Hz H u/\u D=Α (.π d)/\HW u d bs/\bs=ul a.wy a.n i++(Υ j).flatMap (Bb a.wy i)/\bs.length<=i* 12+j/\r=[Α (.ref a.tb),Α (.ref D),Α (.int (i:Int)),t])
  ⟨_,d,bs,G,g2,hL,by grind,by lia,Κ⟩ ?_ ?_
 rotate_left
 ·rintro r u ⟨t,d,bs,A,I,M,X,hb3,rfl⟩
  exact⟨_,_,d,_,A,I,M,by rw[X];unfold ul;rw[É,Ĭ];simp,by lia,Κ⟩
 rintro j r u hj ⟨t,d,bs,A,I,M,X,hb3,rfl⟩
 rw[Õ]
 have hbl3:=Paired.length M
 refine⟨λb v=>Hz u v/\b=decide (i≠j/\a.wy i j Β≠[]),?_,?_⟩
 ·refine⟨Κ,_,Κ,?_⟩
  rw[bC]
  by_cases N:(i:Int)=(j:Int)
  ·rw[Ε N]
   exact au ⟨Hz.refl u,by grind⟩
  ·rw[Ζ N]
   refine az ⟨a.tb,LB,m,Κ,A _ _ K8,JV,a.tb,a.n,a.wy,i,j,Β,Κ,(IM.keep W B (Hz.HM A)).j,hi,hj,λDw v x hDw gDw=>⟨ϡ _,λY Yx=>?_⟩⟩
   have s5:=x.new (o:=.π []) Yx
   have Wv:=cf gDw Yx (.π [])
   have g7:(ο v Y (.π [])) Y=Α (.π (([]:List Int).map V.int)):=ae
   generalize ο v Y _=H5 at s5 Wv g7⊢
   refine⟨_,Y,_,_,Κ,Κ,by rw[←lJ];exact HC.of Wv,HC.of g7,_,Κ,s5,?_⟩
   by_cases g:a.wy i j Β=[]
   ·rw[Ε (show iz (a.wy i j Β)=[] by rw[g];rfl),Ζ (λz=>z.2 g)];rfl
   ·rw[Ζ (λz=>g (by unfold iz at z;exact Ī.mp z)),Ε ⟨by lia,g⟩];rfl
 rintro b v ⟨x,rfl⟩
 by_cases g:i≠j/\a.wy i j Β≠[]
 ·rw[Ε g]
  refine az ⟨.inl ⟨Κ,_,HC.of (x _ _ I)⟩,by show 2<=Χ;decide,λO h1=>?_⟩
  have Z:=x.new (o:=.tup [.int (i:Int),.int (j:Int)]) h1
  have v1:=aX v O (.tup [.int (i:Int),.int (j:Int)])
  generalize ο v O _=H5 at Z v1⊢
  have R:=Z _ _ I
  have S:HY H5 (ο H5 D (.π (d++[.ref O]))):=jp R
  refine⟨D,d,_,Κ,Κ,R,by rw[ϊ];lia,_,_,_,λb o e=>by rw[aj (ai e hD)];exact Z _ _ (A _ _ e),ae,HW.snoc (p:=((i:Int),(j:Int))) ⟨O,Κ,S _ _ v1 ϥ⟩ (S.MU (HW.same Z M)),by rw[X,É,Ĭ,←Ĝ];unfold Bb;simp[g],by grind,Κ⟩
 ·rw[Ζ g]
  exact au ⟨_,d,bs,A.trans x,x _ _ I,HW.same x M,by rw[X,É,Ĭ];unfold Bb;simp[g],by lia,Κ⟩
theorem scLR:aq uz uz (ag jc):=bM
theorem bkLR:IP uz (ag jc) (Ch ((aB jc).getD 0 (.Pass ⟨0,0,0,0⟩))) ["_law_cell"] [1]:=_L2.Jv
theorem ndLR:(["_law_lane","_law_cell"]:List Str).Nodup:=by decide +kernel
theorem wU(F:HZ K "_law_rooms" "_law_rooms" jc f fd)(T:dz mg)(L:i3 K c)(W:Wy K C J)(u:Ca P w K mg μ "_law_mixed" 1 ux qt):
  HB P w K mg μ aK 2 f fd uz (lj c C J):=by
 refine F.ok scLR λ_ _ _ s H _ Q E b h=>?_
 obtain⟨a,x,rfl,m,q⟩:=h
 have z:=m.few
 refine⟨_,af (ao (aZ (own:=["_law_lane"]) (capN:=["_law_cell"]) (cap:=[1]) bkLR Κ (aE Κ T.range (aa (gq T.len (aR (aR (pv 0)))) ad)) (λC M j N=>⟨b9 0 ndLR,bu,aA cQ ah (aA bQ (bF u b (aa (pv 1) (aa (pv 0) ad))) ah)⟩))),?_⟩
 obtain⟨A,n,B,G,O⟩:=m.i
 have o:=Paired.length m.l.2.2
 refine⟨_,C,A,n,_,Κ,B,W.cl,W.nl,G,_,_,_,_,_,Κ,m.l.1,L.cl,L.nl,Κ,_,_,Κ,.inr (HF.of m.l.2.1),_,Κ,by lia,by lia,?_⟩
 rw[Τ,o]
 refine aW a.ps.length (by rw[ϊ];lia) (λi acc j=>j=H/\∃g:List Int,acc=g.map V.int/\g.length=i/\∀r∈g,1<=r/\r<=60) ⟨Κ,[],Κ,Κ,λr b=>by cases b⟩ (λi acc j h=>by obtain⟨_,g,rfl,e,_⟩:=h;rw[Ρ];lia) (λi acc j I h=>?_) (λacc j h=>?_)
 ·obtain⟨rfl,g,rfl,e,p⟩:=h
  refine⟨I,λv R y=>?_⟩
  obtain⟨rfl,rfl⟩:=y
  rw[Õ]
  refine⟨x,i,Κ,by lia,λd S=>⟨_,_,Κ,Κ,(by show (0:Int)<3;decide),_,_,Κ,Κ,Κ,g++[1+d% 3],by rw[Ϥ];rfl,by rw[ϛ,e];rfl,λr b=>?_⟩⟩
  rcases Á.mp b with b|b
  ·exact p r b
  ·rw[ϙ.mp b];lia
 ·obtain⟨rfl,g,rfl,e,p⟩:=h
  exact⟨Ξ _,λD t=>q D g _ ((Hz.refl j).new t) t ae e p⟩
def Lq(on:Nat->List Nat)(fst:List Nat)(a:As):Prop:=∀(i:Nat)(x:Nat×Option Nat),a[i]?=Α x->(x.2=Β/\x.1∈fst)∨∃(l j:Nat)(y:Nat×Option Nat),x.2=Α l/\j<i/\a[j]?=Α y/\y.1=l/\x.1∈on l
theorem Lq.add(h:Lq on fst a)(p:(c=Β/\z∈fst)∨∃(l j:Nat) (y:Nat×Option Nat),c=Α l/\a[j]?=Α y/\y.1=l/\z∈on l):Lq on fst (a++[(z,c)]):=by
 intro i x b
 have pre:∀{j:Nat}{y:Nat×Option Nat},a[j]?=Α y->(a++[(z,c)])[j]?=Α y:=λ{j y} e=>by rw[Ϛ (gQ0 e)];exact e
 rcases ă i a.length with f|f
 ·rw[Ϛ f]at b
  rcases h i x b with h|⟨l,j,y,g,q,d,m,n⟩
  ·exact .inl h
  ·exact .inr ⟨l,j,y,g,q,pre d,m,n⟩
 ·rw[ä f]at b
  have o:i - a.length=0:=by
   cases r:i - a.length with
   |zero=>rfl
   |succ k=>rw[r]at b;cases b
  rw[o]at b
  cases b
  rcases p with h|⟨l,j,y,g,d,m,n⟩
  ·exact .inl h
  ·exact .inr ⟨l,j,y,g,by have:=(gQ0 d);lia,pre d,m,n⟩
theorem Lq.first:∀(b:List Nat){a:As},Lq on fst a->(∀z∈b,z∈fst)->Lq on fst (addW Β a b)
 |[],_,h,_=>h
 | x:: b,a,h,hw=>by
  rw[iy]
  refine Lq.first b ?_ λz c=>hw z (Ϯ _ c)
  split
  ·exact h
  ·exact h.add (.inl ⟨Κ,hw x Ϧ⟩)
theorem Lq.next{l j:Nat}(c:y.1=l):∀(b:List Nat){a:As},Lq on fst a->a[j]?=Α y->(∀z∈b,z∈on l)->Lq on fst (addW (Α l) a b)
 |[],_,h,_,_=>h
 | x:: b,a,h,hj,hw=>by
  rw[iy]
  split
  ·exact Lq.next c b h hj λz d=>hw z (Ϯ _ d)
  ·exact Lq.next c b (h.add (.inr ⟨l,j,y,Κ,hj,c,hw x Ϧ⟩)) (by rw[Ϛ (gQ0 hj)];exact hj) λz d=>hw z (Ϯ _ d)
theorem Lq.run:∀(f:Nat){a:As}{i:Nat},Lq on fst a->Lq on fst (iI on f a i)
 |0,_,_,h=>h
 | f+1,a,i,h=>by
  cases e:a[i]? with
  |none=>rw[ly e];exact h
  |some x=>rw[jB e];exact Lq.run f (h.next (y:=x) Κ _ e λz b=>b)
theorem Bh(a:bo->Nat)(b:IPs)(n g:Nat):Lq (cu a b g) (bf a g n) (bx a b n g):=
 Lq.run _ (Lq.first _ (λi x h=>by cases h) λz c=>c)
def Lk(on:Nat->List Nat):List Nat->Prop
 |x:: y:: t=>y∈on x/\Lk on (y:: t)
 |_=>True
theorem Lk.at:∀{r:List Nat}{k x y:Nat},Lk on r->r[k]?=Α x->r[k+1]?=Α y->y∈on x
 |[],_,_,_,_,h,_=>by cases h
 |[_],0,_,_,_,_,h=>by cases h
 |[_],_+1,_,_,_,h,_=>by cases h
 |a:: b:: t,0,x,y,h,h1,h2=>by cases h1;cases h2;exact h.1
 |a:: b:: t,k+1,x,y,h,h1,h2=>Lk.at (r:=b:: t) (k:=k) h.2 h1 h2
theorem Hi{a:As}(b:(a.map (·.1)).Nodup)(h:x∈a):cC (a.map ak) (ϫ (x.1:Int))=Α (oV x.2):=by
 induction a with
 |nil=>cases h
 | cons y a c =>
  rw[È,è]at b
  rw[È]
  rcases À.mp h with e|h
  ·subst e
   show(Se _ (ak x:: a.map ak)).map _=_
   rw[ć,show(decide ((ak x).1=(ϫ (x.1:Int):_L2.Key)))=Γ from Ε Κ]
   rfl
  ·have d:y.1≠x.1:=λz=>b.1 (by rw[z];exact Â.mpr ⟨x,h,Κ⟩)
   show(Se _ (ak y:: a.map ak)).map _=_
   rw[ć,show(decide ((ak y).1=(ϫ (x.1:Int):_L2.Key)))=Δ from Ζ (λz=>d (by injection z with z;lia))]
   exact c b.2 h
inductive yo(vs:List V)(H:Hp)(Q:VK)(E:XK):Prop
 |mk (i:Int) (p:Ο) (kvs:List (_L2.Key×V)) (_:vs=[.int i,.ref p]) (_:H p=Α (.dK kvs)) (_:Q (.bl (cC kvs (ϫ i)).isSome) H)
structure Bq(wy:bo->Nat)(ps:IPs)(n g l:Nat)(r:List Nat):Prop where
 nd:r.Nodup
 last:r.getLast?=Α l
 first:∃x t,r=x:: t/\x∈bf wy g n
 S6:Lk (cu wy ps g) r
 lt:∀z∈r,z<ps.length
inductive uK(c:Cs)(C:Ο)(J:fg)(vs:List V)(H:Hp)(Q:VK)(E:XK):Prop
 |mk (x lx HJ lt:Ο) (n:Nat) (HE:List V) (ps:IPs) (wy:bo->Nat) (l g:Nat) (_:vs=[.ref x,.int l,.int g]) (_:Ir c C J H x lx HJ lt n HE ps wy) (_:g<n) (_:mI wy ps n g l) (_:(∀(D:Ο)(r:List Nat)(H':Hp),Hz H H'->H' D=Α (.tup (nV r))->Bq wy ps n g l r->Q (.ref D) H'))
abbrev NWt:List Str:=["table","lane","goal","ahead","back","last"]
theorem G9(r:List Nat):(nV r).reverse=nV r.reverse:=by unfold nV;rw[List.map_reverse]
theorem CI(F:HZ K "is_one_of" "is_one_of" BW f fd)(T:dz mg)(c:mg "is_whole"=Α (.ref fh))(a:HZ K "is_whole" "is_whole" gF fh La)(d:Binds K La uq []):
  HB P w K mg μ aK 2 f fd uv yo:=by
 have G:HB P w K mg μ aK 1 fh La uq k9:=lH a T
 refine F.ok E2 λ_ _ _ s H _ Q E b h=>?_
 obtain⟨i,p,e,rfl,g,q⟩:=h
 have j:=ë (ÿ (show 1<=64 by decide) _) b.units
 refine⟨_,af (ao (cv (iq G b Κ c a.kp d .nil cU (aa (pv 0) ad)) (cP (zx (zy j (pv 0) (pv 1)) (by with_unfolding_all rfl))))),i,Κ,_,Κ,az ?_⟩
 exact⟨p,_,Κ,II.k (k:=ϫ i) g,q⟩
theorem Om:aq NWt pZ (ag sN):=bM
theorem zF(F:HZ K "way_to" "way_to" sN f fd)(T:dz mg)(L:i3 K c)(W:mX K C J)(nl:HL K C "land")
  (Gi:Ca P w K mg μ "is_within" 2 ko gE)
  (Go:Ca P w K mg μ "is_one_of" 2 uv yo)
  (Ga:Ca P w K mg μ "lanes_ahead" 5 qb (oR c C J)):
  HB P w K mg μ aK 6 f fd pZ (uK c C J):=by
 refine F.ok Om λ_ _ _ s H _ Q E hr h=>?_
 obtain⟨x,lx,HJ,lt,n,HE,b,A,l,g,rfl,hT,hg,hM,Na⟩:=h
 have L9:=ë (ÿ (show 1<=64 by decide) _) hr.units
 have h40:=hT.few
 refine⟨_,ac (aC (ba (aQ (bF Gi hr (aa (pv 2) (aa ah (aa (aA cZ (aR (aR (pv 0))) ah) ad))))))
   (af b7) ar)
  (ac (bG 3 Om.nd (bF Ga hr (aa (pv 0) (aa (pv 2) ad))))
  (ac (aC (ba (aQ (bF Go hr (aa (pv 1) (aa (pv 3) ad)))))
   (af b7) ar)
  (ac (bG 4 Om.nd (aJ ad))
  (ac (bG 5 Om.nd (pv 1))
  (ac (dS ñ (bJ iu (pv 5) aT)
   (ac (aF (ck plainAttrs_list PySem.F.slot_list_append PySem.F.type_list_append bq (pv 4) (aa (pv 5) ad)))
   (af (bG 5 Om.nd (jk L9 (pv 3) (pv 5) (λ_ _=>rfl))))))
  (af (ao (wL Κ Κ T.tuple Κ T.Uq (aa (pv 4) ad))))))))),?_⟩
 obtain⟨dx,fs,hx,hf⟩:=hT.i
 refine⟨x,C,_,_,_,Κ,hx,W.cl,nl,hf,_,_,_,_,_,Κ,hT.l.1,L.cl,L.np,Κ,_,_,Κ,Κ,_,0,_,Κ,_,Κ,?_⟩
 rw[Ε (show (0:Int)<=(g:Int)/\(g:Int)<=(n:Int) - 1 by lia)]
 refine au ?_
 refine⟨x,_,_,_,n,_,b,A,g,Κ,hT,hg,λI H1 s1 hDd hA gD=>?_⟩
 have LD:=Bh A b n g
 have Ww:mI A b n g l↔l∈(bx A b n g).map (·.1):=Iff.rfl
 generalize bx A b n g=a at hA gD LD Ww
 have Jj:=hA.few
 refine⟨_,I,_,Κ,gD,_,Κ,?_⟩
 rw[mB]
 have hm:=Ww.mp hM
 rw[Ε hm]
 refine au ⟨ϡ _,λbk Yy=>?_⟩
 have s2:=s1.new (o:=.π []) Yy
 have g2:(ο H1 bk (.π [])) bk=Α (.π (nV [])):=ae
 have P7:=cf gD Yy (.π [])
 have nbD:=ai gD Yy
 have hHb:=s1.free Yy
 generalize ο H1 bk _=H2 at s2 g2 P7⊢
 have B:∀{i j:Nat}{y z:Nat×Option Nat},a[i]?=Α y->a[j]?=Α z->y.1=z.1->i=j:=λ{i j y z} h1 h2 e=>by
  have nd:=hA.nd
  have M:(a.map (·.1))[i]?=Α y.1:=by rw[ώ,h1];rfl
  have p:(a.map (·.1))[j]?=Α y.1:=by rw[ώ,h2,e];rfl
  obtain⟨h3,N⟩:=ϝ.mp M
  obtain⟨h4,S⟩:=ϝ.mp p
  exact(Ŝ nd).mp (N.trans S.symm)
 obtain⟨y0,hy0,e0⟩:=Â.mp hm
 obtain⟨j0,hj0,ej0⟩:=ì hy0
 refine⟨λm σ O=>∃(r:List Nat)(o:Option Nat),Hz H O/\O I=Α (.dK (a.map ak))/\O bk=Α (.π (nV r.reverse))/\r.length<=b.length/\σ=[Α (.ref x),Α (.int l),Α (.int g),Α (.ref I),Α (.ref bk),Α (oV o)]/\
   match o with
   |none=>Bq A b n g l r
   |some z=>∃j y,m=j+1/\a[j]?=Α y/\y.1=z/\Lk (cu A b g) (z:: r)/\(z:: r).getLast?=Α l/\(z:: r).Nodup/\∀u∈r,u<b.length/\∃i v,j<i/\a[i]?=Α v/\v.1=u,
  ⟨j0+1,[],Α l,s2,P7,g2,ϡ _,Κ,j0,y0,Κ,by rw[Λ hj0,ej0],e0,trivial,Κ,è.mpr ⟨Ñ,á⟩,λu d=>by cases d⟩,?_⟩
 rintro m σ O ⟨r,o,s',gD',R,Lh,rfl,Jh⟩
 refine⟨Κ,_,Κ,?_⟩
 cases o with
 | none =>
  refine au ⟨bk,_,Κ,HC.of R,λt ht=>?_⟩
  rw[G9,List.reverse_reverse]
  exact Na t r _ (s'.new ht) ae Jh
 | some z =>
  obtain⟨j,y,rfl,hj,U,J5,υ,Ms,JF⟩:=Jh
  refine az ⟨λσ' H3=>∃(q:List Nat)(o':Option Nat),Hz H H3/\H3 I=Α (.dK (a.map ak))/\H3 bk=Α (.π (nV q.reverse))/\q.length<=b.length/\σ'=[Α (.ref x),Α (.int l),Α (.int g),Α (.ref I),Α (.ref bk),Α (oV o')]/\
   match o' with
   |none=>Bq A b n g l q
   |some X=>∃D Y,D<j/\a[D]?=Α Y/\Y.1=X/\Lk (cu A b g) (X:: q)/\(X:: q).getLast?=Α l/\(X:: q).Nodup/\∀u∈q,u<b.length/\∃i v,D<i/\a[i]?=Α v/\v.1=u,?_,?_⟩
  ·rintro σ' H3 ⟨q,o',s3,Z,Wz,W0,rfl,W2⟩
   cases o' with
   |none=>exact⟨0,Y9 _,q,_,s3,Z,Wz,W0,Κ,W2⟩
   | some X =>
    obtain⟨D,Y,Yz,M,p,N,S,e5,e6⟩:=W2
    exact⟨_,Nat.succ_lt_succ Yz,q,_,s3,Z,Wz,W0,Κ,D,Y,Κ,M,p,N,S,e5,e6⟩
  have hym:=Ψ hj
  have VS:z<b.length:=by rw[←U];exact hA.lt y hym
  have IV:∀u∈z:: r,u<b.length:=λu d=>by
   rcases À.mp d with e|d
   ·rw[e];exact VS
   ·exact(JF u d).1
  have G:=dE _ _ Ms IV
  have KN:=G
  refine⟨.inl ⟨Κ,_,HC.of R⟩,_,_,_,Κ,Κ,R,by rw[ϊ,aw,Ò];lia,?_⟩
  have Wz:(ο O bk (.π (nV r.reverse++[oV (Α z)]))) bk=Α (.π (nV (z:: r).reverse)):=by
   rw[ae,List.reverse_cons,eV]
   rfl
  have Z:=aI nbD gD' (.π (nV r.reverse++[oV (Α z)]))
  have s3:Hz H (ο O bk (.π (nV r.reverse++[oV (Α z)]))):=s'.put hHb
  generalize ο O bk _=H3 at Wz Z s3⊢
  refine⟨I,oV y.2,Κ,?_,?_⟩
  ·have e:=Hi hA.nd hym
   rw[U]at e
   rw[←e]
   exact II.k (k:=ϫ (z:Int)) Z
  refine⟨_,_,s3,Z,Wz,G,Κ,?_⟩
  rcases LD j y hj with ⟨M,p⟩|⟨l',D,Y,M,Yz,p,N,S⟩
  ·rw[M]
   rw[U]at p
   exact⟨Ms,υ,⟨z,r,Κ,p⟩,J5,IV⟩
  ·rw[M]
   rw[U]at S
   refine⟨D,Y,Yz,p,N,⟨S,J5⟩,?_,è.mpr ⟨λhin'=>?_,Ms⟩,λu d=>?_⟩
   ·rw[MW];exact υ
   ·rcases À.mp hin' with e|d
    ·have:=B p hj (by rw[N,e,U]);lia
    ·obtain⟨_,i,v,hi,hv,ev⟩:=JF l' d
     have:=B p hv (by rw[N,ev]);lia
   ·rcases À.mp d with e|d
    ·exact⟨by rw[e];exact VS,j,y,Yz,hj,by rw[U,e]⟩
    ·obtain⟨h1,i,v,hi,hv,ev⟩:=JF u d
     exact⟨h1,i,v,by lia,hv,ev⟩
noncomputable def dA(rm:List Nat)(l:Nat):Nat:=rm.getD l 0
noncomputable def aD(rg:List (Nat×Nat))(k:Nat):Nat×Nat:=rg.getD k (0,0)
noncomputable def Dy(rg:List (Nat×Nat))(l:Nat):Option Nat:=rg.findIdx? λp=>p.1 == l
noncomputable def Av(rm:List Nat)(l k c:Nat):Ie:=⟨(dA rm l:Int) - c,0,if c=0∨c=dA rm l then Β else Α (k:Int),(Υ c).map λi:Nat=>((k:Int),(i:Int))⟩
noncomputable def sA(rg:List (Nat×Nat))(rm:List Nat)(f:Nat->Nat)(l:Nat):Ie:=match Dy rg l with
 |none=>⟨dA rm l,0,Β,[]⟩
 |some k=>Av rm l k (f k)
noncomputable def jo(a:YA)(rg:List (Nat×Nat))(rm:List Nat)(k c:Nat):bj:=⟨(a.ps.getD (aD rg k).1 (0,0)).1,((aD rg k).2:Int),(dA rm (aD rg k).1:Int),0,(c:Int),if c=0 then [] else [(aD rg k).1]⟩
noncomputable def dL(a:YA)(rg:List (Nat×Nat))(rm:List Nat)(m:Nat)(f:Nat->Nat)(d:List (List V)):YS:=
 ⟨rm.map λr:Nat=>V.int (r:Int),(Υ a.ps.length).map (sA rg rm f),(Υ m).map λk=>jo a rg rm k (f k),Ϗ a.n [],d⟩
structure Rg(a:YA)(rg:List (Nat×Nat))(rm:List Nat):Prop where
 nd:(rg.map (·.1)).Nodup
 ln:∀k,k<rg.length->(aD rg k).1<a.ps.length
 rms:rm.length=a.ps.length
 pos:∀l,l<a.ps.length->1<=dA rm l/\dA rm l<=60
 go:∀k,k<rg.length->(aD rg k).1∈a.wy (a.ps.getD (aD rg k).1 (0,0)).1.toNat (aD rg k).2 Β
 on:∀k,k<rg.length->ff a (aD rg k).1 (aD rg k).2=[(aD rg ((k+1)% rg.length)).1]
theorem c6(h:k<rg.length):rg[k]?=Α (aD rg k):=by
 unfold aD
 grind
theorem Fz(c:(rg.map (·.1)).Nodup)(a:j<rg.length)(d:k<rg.length)(e:(aD rg j).1=(aD rg k).1):j=k:=by
 have f:(rg.map (·.1))[j]?=Α (aD rg j).1:=by rw[ώ,c6 a];rfl
 have b:(rg.map (·.1))[k]?=Α (aD rg k).1:=by rw[ώ,c6 d];rfl
 rw[←e,←f]at b
 exact((List.getElem?_inj (by rw[Ρ];exact a) c).mp b.symm)
theorem pF(d:(rg.map (·.1)).Nodup)(c:k<rg.length):Dy rg (aD rg k).1=Α k:=by
 unfold Dy
 cases h:rg.findIdx? λp=>p.1 == (aD rg k).1 with
 | none =>
  have:=List.findIdx?_eq_none_iff.mp h _ (Ψ (c6 c))
  simp at this
 | some j =>
  obtain⟨b,a,_⟩:=Ĺ.mp h
  have a:=a
  have e:rg[j]=aD rg j:=by
   have:=c6 b
   rw[Λ b]at this
   exact ϋ this
  rw[e]at a
  rw[Fz d b c (by simpa using a)]
theorem rA(h:Dy rg l=Α k):k<rg.length/\(aD rg k).1=l:=by
 obtain⟨a,b,_⟩:=Ĺ.mp h
 have e:rg[k]=aD rg k:=by
  have:=c6 a
  grind
 grind
theorem cN{a:Type}(g:Nat->a)(h:k<n):((Υ n).map g)[k]?=Α (g k):=by
 rw[ώ,QK h];rfl
theorem pe{b:Type}{g g':Nat->b}(h:∀j,j<n->j≠k->g j=g' j):((Υ n).map g).set k (g' k)=(Υ n).map g':=by
 refine ū λj=>?_
 by_cases a:j<n
 ·rw[cN g' a]
  by_cases e:k=j
  ·subst e
   exact cY (cN g a)
  ·rw[Û e,cN g a,h j a (ϗ e)]
 ·rw[Ë (by rw[ī,Ρ,ě];lia),Ë (by rw[Ρ,ě];lia)]
noncomputable def qk(f:Nat->Nat)(k:Nat):Nat->Nat:=λj=>if j=k then f k+1 else f j
theorem Cd(R:Rg a rg rm)(b:k<rg.length)(g:f k<dA rm (aD rg k).1):
  Mv.IB k (aD rg k).1∈bK a (dL a rg rm rg.length f d):=by
 have c:(dL a rg rm rg.length f d).Hw[k]?=Α (jo a rg rm k (f k)):=cN _ b
 have e:(dL a rg rm rg.length f d).γ[(aD rg k).1]?=Α (Av rm (aD rg k).1 k (f k)):=by
  have:=cN (sA rg rm f) (R.ln k b)
  unfold sA at this
  rw[pF R.nd b]at this
  exact this
 refine ï _ (ï _ (ï _ (â.mpr ⟨k,Ϩ.mpr (by grind),?_⟩)))
 unfold gX
 rw[c]
 show Mv.IB k (aD rg k).1∈if (f k:Int)=(dA rm (aD rg k).1:Int) then [] else _
 rw[Η (by lia)]
 refine Â.mpr ⟨_,Ϫ.mpr ⟨?_,?_⟩,Κ⟩
 ·unfold bS
  show(aD rg k).1∈if (f k:Int)=0 then _ else List.take 1 (if f k=0 then [] else [(aD rg k).1])
  by_cases h:f k=0
  ·rw[Θ (by lia)]
   have:=R.go k b
   show(aD rg k).1∈a.wy (a.ps.getD (aD rg k).1 (0,0)).1.toNat ((aD rg k).2:Int).toNat Β
   grind
  grind
 ·show cW _ _ _ _=Γ
  unfold cW
  rw[e]
  show bL ((dA rm (aD rg k).1:Int) - (f k:Int)) (if f k=0∨f k=dA rm (aD rg k).1 then Β else Α (k:Int)) k (f k:Int)=Γ
  unfold bL
  grind
theorem Cb(R:Rg a rg rm)(g:k<rg.length)(y:f k<dA rm (aD rg k).1)
  (h:Kd a (dL a rg rm rg.length f d) (.IB k (aD rg k).1) s'):s'=dL a rg rm rg.length (qk f k) d:=by
 have u:(dL a rg rm rg.length f d).Hw[k]?=Α (jo a rg rm k (f k)):=cN _ g
 have v:(dL a rg rm rg.length f d).γ[(aD rg k).1]?=Α (Av rm (aD rg k).1 k (f k)):=by
  have:=cN (sA rg rm f) (R.ln k g)
  unfold sA at this
  rw[pF R.nd g]at this
  exact this
 cases h with
 | IB n A B o C =>
  rw[u]at n
  rw[v]at o
  cases n
  cases o
  have w:((dL a rg rm rg.length f d).γ.set (aD rg k).1 (dG (Av rm (aD rg k).1 k (f k)) k (f k:Int) (dA rm (aD rg k).1:Int)))=(dL a rg rm rg.length (qk f k) d).γ:=by
   have e:dG (Av rm (aD rg k).1 k (f k)) k (f k:Int) (dA rm (aD rg k).1:Int)=sA rg rm (qk f k) (aD rg k).1:=by
    unfold sA
    rw[pF R.nd g]
    show _=Av rm (aD rg k).1 k (qk f k k)
    have l:qk f k k=f k+1:=Θ Κ
    rw[l]
    unfold dG Av
    have D:((dA rm (aD rg k).1:Int) - (f k:Int)) - 1=(dA rm (aD rg k).1:Int) - ((f k+1:Nat):Int):=by lia
    have E:((Υ (f k)).map λi:Nat=>((k:Int),(i:Int)))++[((k:Int),(f k:Int))]=(Υ (f k+1)).map λi:Nat=>((k:Int),(i:Int)):=by
     rw[É,Ϥ];rfl
    grind
   rw[e]
   refine pe λj F p=>?_
   unfold sA
   cases m:Dy rg j with
   |none=>rfl
   | some c =>
    have:=rA m
    have q:c≠k:=λz=>p (by grind)
    unfold qk
    grind
  have x:(if (f k:Int)=0 then ((dL a rg rm rg.length f d).Hw.set k {jo a rg rm k (f k) with δ:=(f k:Int)+1}).set k {jo a rg rm k (f k) with δ:=(f k:Int)+1,ω:=(jo a rg rm k (f k)).ω++[(aD rg k).1]} else (dL a rg rm rg.length f d).Hw.set k {jo a rg rm k (f k) with δ:=(f k:Int)+1})=(dL a rg rm rg.length (qk f k) d).Hw:=by
   have l:qk f k k=f k+1:=Θ Κ
   have r:∀j,j<rg.length->j≠k->jo a rg rm j (f j)=jo a rg rm j (qk f k j):=λj _ p=>by unfold qk;grind
   have G:((f k:Int)+1)=((f k+1:Nat):Int):=by lia
   by_cases H:f k=0
   ·rw[Θ (by lia),List.set_set]
    have e:({jo a rg rm k (f k) with δ:=(f k:Int)+1,ω:=(jo a rg rm k (f k)).ω++[(aD rg k).1]}:bj)=jo a rg rm k (qk f k k):=by
     rw[l]
     unfold jo
     grind
    rw[e]
    exact pe (g':=λj=>jo a rg rm j (qk f k j)) r
   ·rw[Η (by lia)]
    have e:({jo a rg rm k (f k) with δ:=(f k:Int)+1}:bj)=jo a rg rm k (qk f k k):=by
     rw[l]
     unfold jo
     grind
    rw[e]
    exact pe (g':=λj=>jo a rg rm j (qk f k j)) r
  have s:=w
  have t:=x
  unfold dL at s t⊢
  exact congr (congr (congr (congr (congrArg YS.mk Κ) s) t) Κ) Κ
theorem F0(R:Rg a rg rm)(p:∀k,k<rg.length->f k=dA rm (aD rg k).1):bK a (dL a rg rm rg.length f d)=[]:=by
 have q:∀l,l<a.ps.length->(dL a rg rm rg.length f d).γ[l]?=Α (sA rg rm f l):=λl h=>cN _ h
 have u:∀l,l<a.ps.length->(Dy rg l=Β/\aU (dL a rg rm rg.length f d) l=Β)∨∃k,k<rg.length/\(aD rg k).1=l/\aU (dL a rg rm rg.length f d) l=Α ((k:Int),0):=λl h=>by
  unfold aU
  rw[q l h]
  unfold sA
  cases g:Dy rg l with
  |none=>exact .inl ⟨Κ,Κ⟩
  | some k =>
   obtain⟨n,o⟩:=rA g
   refine .inr ⟨k,n,o,?_⟩
   have:=(R.pos l h).1
   have e:f k=dA rm l:=by rw[p k n,o]
   show((Υ (f k)).map λi:Nat=>((k:Int),(i:Int))).head?=_
   obtain⟨c,hc⟩:∃c,f k=c+1:=⟨f k - 1,by lia⟩
   rw[hc,List.range_succ_eq_map]
   rfl
 have v:∀k,k<rg.length->∀m c:Int,cW (dL a rg rm rg.length f d) (aD rg k).1 m c=Δ:=λk g m c=>by
  unfold cW
  rw[q _ (R.ln k g)]
  unfold sA
  rw[pF R.nd g]
  show bL ((dA rm (aD rg k).1:Int) - (f k:Int)) _ m c=Δ
  unfold bL
  rw[Θ (by rw[p k g];lia)]
 have w:(dL a rg rm rg.length f d).γ.length=a.ps.length:=by show((Υ _).map _).length=_;rw[Ρ,ě]
 have r:∀k,k<rg.length->(dL a rg rm rg.length f d).Hw[k]?=Α (jo a rg rm k (f k)):=λk g=>cN _ g
 unfold bK
 rw[w]
 have n:(Υ (dL a rg rm rg.length f d).Hw.length).flatMap (gX a (dL a rg rm rg.length f d))=[]:=by
  rw[ł]
  intro k g
  have g:k<rg.length:=by
   have:=Ϩ.mp g
   have e:(dL a rg rm rg.length f d).Hw.length=rg.length:=by show((Υ _).map _).length=_;rw[Ρ,ě]
   lia
  unfold gX
  rw[r k g]
  show(if (f k:Int)=(dA rm (aD rg k).1:Int) then [] else _)=[]
  rw[Θ (by rw[p k g])]
 have o:(Υ a.ps.length).flatMap (iM a (dL a rg rm rg.length f d))=[]:=by
  rw[ł]
  intro l h
  have h:=Ϩ.mp h
  unfold iM
  rcases u l h with ⟨_,e⟩|⟨k,g,s,e⟩
  ·rw[e]
  ·rw[e]
   show(((bI a _ l).filter _).map _)=[]
   rw[Ī,ō]
   intro z j
   unfold bI at j
   rw[e]at j
   have j:z∈(match (dL a rg rm rg.length f d).Hw[((k:Int)).toNat]? with
    |none=>[]
    |some t=>if (0:Int)=0 then (ff a l t.ι.toNat).filter λl=>!decide (l∈t.ω) else (t.ω.drop (t.ω.idxOf l+1)).take 1):=j
   rw[Τ,r k g]at j
   have j:z∈(ff a l ((aD rg k).2:Int).toNat).filter λx=>!decide (x∈(jo a rg rm k (f k)).ω):=j
   have j:=(Ϫ.mp j).1
   rw[Τ,←s,R.on k g]at j
   rw[ϙ.mp j,v _ (Nat.mod_lt _ (by lia))]
   decide
 have y:(Υ a.ps.length).flatMap (eJ a (dL a rg rm rg.length f d))=[]:=by
  rw[ł]
  intro l h
  have h:=Ϩ.mp h
  unfold eJ
  rcases u l h with ⟨_,e⟩|⟨k,g,s,e⟩
  ·rw[e]
  ·rw[e]
   show(match (dL a rg rm rg.length f d).Hw[((k:Int)).toNat]? with
    |none=>[]
    |some t=>if t.ι=(a.ps.getD l (0,0)).2 then [Mv.J4 l] else [])=[]
   rw[Τ,r k g]
   show(if ((aD rg k).2:Int)=(a.ps.getD l (0,0)).2 then [Mv.J4 l] else [])=[]
   rw[Η]
   intro z
   have:=R.on k g
   unfold ff at this
   rw[s,Θ z.symm]at this
   cases this
 have A:(Υ a.ps.length).flatMap (dh (dL a rg rm rg.length f d))=[]:=by
  rw[ł]
  intro l h
  unfold dh
  rw[q l (Ϩ.mp h)]
  have:(sA rg rm f l).b=0:=by unfold sA;cases Dy rg l<;>rfl
  show(if 0<(sA rg rm f l).b then _ else _)=_
  rw[this]
  rfl
 rw[n,o,y,A]
 rfl
theorem Cc(R:Rg a rg rm)(f:Nat->Nat)(d:List (List V))(i:0<rg.length):rL (dL a rg rm rg.length f d)=Δ:=by
 unfold rL
 refine Ζ λz=>?_
 have c:(((dL a rg rm rg.length f d).ε.map λq=>(q.length:Int))).sum=0:=by
  show((Ϗ a.n []).map _).sum=0
  rw[List.map_replicate]
  have:∀n:Nat,(Ϗ n (((([]:IPs)).length:Nat):Int)).sum=0:=λn=>by
   induction n with
   |zero=>rfl
   |succ n b=>rw[List.replicate_succ,ĩ,b];rfl
  exact this a.n
 rw[c]at z
 have e:∀m,m<=rg.length->(m:Int)<=((Υ m).map λk=>(jo a rg rm k (f k)).len).sum:=λm=>by
  induction m with
  |zero=>intro _;exact ĺ _
  | succ m b =>
   intro j
   rw[É,Ϥ,ph]
   have g:=b (by lia)
   have l:=(R.pos _ (R.ln m (by lia))).1
   have h:([m].map λk=>(jo a rg rm k (f k)).len).sum=(dA rm (aD rg m).1:Int):=by
    show(dA rm (aD rg m).1:Int)+0=_
    lia
   rw[h]
   lia
 have g:=e rg.length (Ξ _)
 have z:(((Υ rg.length).map λk=>jo a rg rm k (f k)).map (·.len)).sum=0:=z
 rw[Ú]at z
 have z:((Υ rg.length).map λk=>(jo a rg rm k (f k)).len).sum=0:=z
 lia
noncomputable def cF(rg:List (Nat×Nat))(rm:List Nat)(m:Nat):List Mv:=(Υ m).flatMap λk=>Ϗ (dA rm (aD rg k).1) (.IB k (aD rg k).1)
noncomputable def isK(k:Nat):Mv->Bool
 |.IB j _=>j == k
 |_=>Δ
noncomputable def dk(ms:List Mv)(k:Nat):Nat:=ms.countP (isK k)
theorem jH(a:List (Nat×Nat))(b:List Nat)(m:Nat):cF a b (m+1)=cF a b m++Ϗ (dA b (aD a m).1) (.IB m (aD a m).1):=dQ _ m
theorem wm(c j l k:Nat):dk (Ϗ c (.IB j l)) k=if j=k then c else 0:=by
 unfold dk
 rw[List.countP_replicate]
 show(if (j == k)=Γ then c else 0)=_
 grind
theorem pV(a:List (Nat×Nat))(b:List Nat):∀m k,dk (cF a b m) k=if k<m then dA b (aD a k).1 else 0
 |0,k=>by rw[Η (Ņ _)];rfl
 | m+1,k=>by
  rw[jH]
  have:dk (cF a b m++Ϗ (dA b (aD a m).1) (.IB m (aD a m).1)) k=dk (cF a b m) k+dk (Ϗ (dA b (aD a m).1) (.IB m (aD a m).1)) k:=Si
  rw[this,pV a b m k,wm]
  grind
theorem Aq(h:v∈cF rg rm m):∃k,k<m/\v=.IB k (aD rg k).1:=by
 obtain⟨k,a,h⟩:=â.mp h
 exact⟨k,Ϩ.mp a,(Rx.mp h).2⟩
theorem AY(h:(cF rg rm m)[t]?=Α v):∃k,k<m/\v=.IB k (aD rg k).1/\dk ((cF rg rm m).take t) k<dA rm (aD rg k).1/\dk ((cF rg rm m).take (t+1))=qk (dk ((cF rg rm m).take t)) k:=by
 obtain⟨k,a,rfl⟩:=Aq (Ψ h)
 have b:∀j,dk ((cF rg rm m).take (t+1)) j=dk ((cF rg rm m).take t) j+if k=j then 1 else 0:=λj=>by
  rw[Ì,h]
  have:dk ((cF rg rm m).take t++[Mv.IB k (aD rg k).1]) j=dk ((cF rg rm m).take t) j+dk (Ϗ 1 (Mv.IB k (aD rg k).1)) j:=Si
  rw[wm]at this
  exact this
 refine⟨k,a,Κ,?_,funext λj=>?_⟩
 ·have c:=b k
  rw[Θ Κ]at c
  have d:dk ((cF rg rm m).take (t+1)) k<=dk (cF rg rm m) k:=(Tq _ _).countP_le
  rw[pV,Θ a]at d
  lia
 ·rw[b j]
  unfold qk
  by_cases e:j=k
  ·rw[Θ e,Θ e.symm,e]
  ·rw[Η e,Η (ϗ e)];rfl
theorem lK:∀{m:Nat},(∀k,k<m->dA rm (aD rg k).1<=60)->(cF rg rm m).length<=60* m
 |0,_=>Ξ _
 | m+1,h=>by
  rw[jH,ϛ,é]
  have:=lK (m:=m) λk a=>h k (by lia)
  grind
noncomputable def bE(a:YA)(l:Nat):Nat:=(a.ps.getD l (0,0)).1.toNat
noncomputable def Df(a:YA)(rg:List (Nat×Nat))(k:Nat):Bool:=decide ((aD rg k).1∈a.wy (bE a (aD rg k).1) (aD rg k).2 Β)&& decide (ff a (aD rg k).1 (aD rg k).2=[(aD rg ((k+1)% rg.length)).1])
noncomputable def mV(a:YA)(rg:List (Nat×Nat)):Bool:=(Υ rg.length).all (Df a rg)
structure P8(H:Hp)(a:YA)(ra:Ο)(HR:List V)(rg:List (Nat×Nat)):Prop where
 t:H ra=Α (.tup HR)
 l:HW H HR (rg.map pI)
 few:rg.length<=40
 ok:∀k,k<rg.length->(aD rg k).1<a.ps.length/\(aD rg k).2<a.n
theorem P8.same(h:P8 H a ra HR rg)(s:Hz H H'):P8 H' a ra HR rg:=⟨s _ _ h.t,HW.same s h.l,h.few,h.ok⟩
theorem P8.get(h:P8 H a ra HR rg)(d:HR[k]?=Α v):k<rg.length/\∃u,v=.ref u/\H u=Α (.tup [.int (aD rg k).1,.int (aD rg k).2]):=by
 have f:HR.length=rg.length:=by rw[Paired.length h.l,Ρ]
 have b:k<rg.length:=by grind
 obtain⟨g,c,u,rfl,e⟩:=HW.LZ h.l (p:=pI (aD rg k)) (by rw[ώ,c6 b];rfl)
 rw[d]at c
 cases c
 exact⟨b,u,Κ,e⟩
def Sta(a:YA):Prop:=∀(l:Nat)(pr:Int×Int),a.ps[l]?=Α pr->∃e:Nat,pr.1=(e:Int)/\e<a.n
theorem j8(h:Sta a)(d:l<a.ps.length):∃c,a.ps[l]?=Α c/\c.1=(bE a l:Int)/\bE a l<a.n:=by
 have e:=Λ d
 obtain⟨x,f,b⟩:=h l _ e
 refine⟨_,e,?_⟩
 unfold bE
 rw[Ω,e]
 show _=(((a.ps[l]).1.toNat:Nat):Int)/\(a.ps[l]).1.toNat<_
 rw[f,Τ]
 exact⟨Κ,b⟩
inductive Ez(c:Cs)(TC:Ο)(J:TJ)(vs:List V)(H:Hp)(Q:VK)(E:XK):Prop
 |mk (a:YA) (ra:Ο) (HR:List V) (rg:List (Nat×Nat)) (_:vs=[.ref a.tb,.ref ra]) (_:xE c TC J H a) (_:xK a) (_:Sta a) (_:P8 H a ra HR rg) (_:1<=rg.length) (_:∀H',Hz H H'->Q (.bl (mV a rg)) H')
abbrev NCa:List Str:=["table","ring","lanes","following","pair","after","start"]
theorem D7(d:i<rg.length):((rg.map (·.1)).drop 1++(rg.map (·.1)).take 1)[i]?=Α (aD rg ((i+1)% rg.length)).1:=by
 have a:∀k,k<rg.length->(rg.map (·.1))[k]?=Α (aD rg k).1:=λk b=>by rw[ώ,c6 b];rfl
 have c:((rg.map (·.1)).drop 1).length=rg.length - 1:=by grind
 by_cases h:i+1<rg.length
 ·rw[Ϛ (by lia),č,Nat.mod_eq_of_lt h,Nat.add_comm 1 i]
  exact a _ h
 ·have e:i+1=rg.length:=by lia
  rw[ä (by lia),c,e,YD,show i - (rg.length - 1)=0 by lia,Lf (by lia)]
  grind
theorem xw(f:Nat->V)(l:xs.length<Χ)(c:HF K H a xs)
  (m:∀(i:Nat)(x:V)(N:V->Hp->Prop),xs[i]?=Α x->N (f i) H->g x σ0 H λd j=>te d j N)
  (n:∀D,H D=Β->Q (.ref D) (ο H D (.π ((Υ xs.length).map f)))):dJ (EJ K a) g oI te σ0 Q H:=by
 refine aW xs.length l (λi acc b=>b=H/\acc=(Υ i).map f) ⟨Κ,Κ⟩ (λi acc b h=>by grind) (λi acc b o h=>?_) (λacc b h=>?_)
 ·obtain⟨rfl,rfl⟩:=h
  refine⟨⟨xs,xs[i],c,by simp[o]⟩,λv j y=>?_⟩
  obtain⟨e,y⟩:=y
  subst e
  exact m i v (λy p=>p=j/\(Υ i).map f++[y]=(Υ (i+1)).map f) (y xs c) ⟨Κ,by rw[É,Ϥ];rfl⟩
 ·obtain⟨rfl,rfl⟩:=h
  exact⟨⟨xs,c,Ξ _⟩,n⟩
theorem Nh:aq NCa DV (ag zh):=bM
theorem bkCa:IP NCa (ag zh) (pX ((aB zh).getD 0 (.Pass ⟨0,0,0,0⟩))) [] []:=_L2.Jv
theorem W4:(["lane","goal"]:List Str).Nodup:=by decide +kernel
theorem Gv{TC f:Ο}(F:HZ K "can_stand" "can_stand" zh f fd)(T:dz mg)(L:i3 K c)(W:Wy K TC J)(Gw:Me P w K mg μ TC "ways" 3 kn (dq J))
  (Gs:Me P w K mg μ c.land "start_of" 1 eC (gm c Ä)) (Go:Ca P w K mg μ "onward" 4 pZ (yp c TC J)):
  HB P w K mg μ aK 5 f fd DV (Ez c TC J):=by
 refine F.ok Nh λ_ _ _ s H _ Q E R h=>?_
 obtain⟨a,S,U,b,rfl,hT,hO,hS,d,Lg,q⟩:=h
 have hu:=R.units
 refine⟨_,ac (bU (i:=2) (own:=["lane","goal"]) (capN:=[]) (cap:=[]) bkCa Κ Nh.nd Κ Κ (dU (pv 1))
   (λC s' H' fp=>⟨(show PG _ _ (tW K 2 _) from bO Κ (av (b9 0 W4) (av (b9 1 W4) bz))),bu,pv 0⟩))
  (ac (bG 3 Nh.nd (aA tH (dW fP (pv 2) (eG ah) ip) (dW fP (pv 2) ip (eG ah))))
  (ac (eI (Cr Κ T.zip (aa (pv 1) (aa (pv 3) ad))) (bO Κ (av (b9 4 Nh.nd) (av (b9 5 Nh.nd) bz)))
   (ac (bG 6 Nh.nd (cE (aR (pv 0)) L.cl Gs R (aa (be HA (pv 4) ah) ad)))
   (af (aC (PW.pt (c9 (bJ (bV) (be HA (pv 4) ah) (cE (pv 0) W.cl Gw R (aa (pv 6) (aa (be HA (pv 4) ah) (aa aT ad)))))
     (bT (bJ (tG hu) (bF Go R (aa (pv 0) (aa (be HA (pv 4) ah) (aa (be HA (pv 4) ah) ad)))) (aJ (aa (pv 5) ad))))))
    (af (ao bY)) ar))))
  (af (ao bY)))),?_⟩
 have m:U.length=b.length:=by rw[Paired.length d.l,Ρ]
 have Jj:=d.few
 refine⟨S,Κ,⟨_,HF.of d.t⟩,?_⟩
 refine xw (K:=K) (a:=S) (xs:=U) (λi=>V.int ((aD b i).1:Int)) (by rw[ϊ];lia) (HF.of d.t) (λi x N hx h=>?_) (λD hD=>?_)
 ·obtain⟨_,u,rfl,p⟩:=d.get hx
  exact⟨u,_,Κ,HF.of p,Κ,_,_,Κ,_,_,Κ,Κ,h⟩
 have eL:((Υ U.length).map λi=>V.int ((aD b i).1:Int))=nV (b.map (·.1)):=by
  rw[m]
  refine ū λj=>?_
  by_cases hj:j<b.length
  ·rw[cN _ hj]
   exact(bB (by rw[ώ,c6 hj];rfl)).symm
  ·rw[Ë (by rw[Ρ,ě];lia),Ë (by rw[aw,Ρ];lia)]
 rw[eL]
 have s2:=(Hz.refl H).new (o:=.π (nV (b.map (·.1)))) hD
 have g2:=aX H D (.π (nV (b.map (·.1))))
 generalize ο H D _=H2 at s2 g2⊢
 have Pg:(b.map (·.1)).length=b.length:=Ρ ..
 refine⟨1,Κ,D,_,Κ,HC.of g2,λc1 Q6=>?_⟩
 rw[show iQ (nV (b.map (·.1))) (Α 1) Β=nV ((b.map (·.1)).drop 1) from m4 _ (i:=1) (by lia)]
 have s3:=s2.new (o:=.π (nV ((b.map (·.1)).drop 1))) Q6
 have g3:=cf g2 Q6 (.π (nV ((b.map (·.1)).drop 1)))
 have Sz:=aX H2 c1 (.π (nV ((b.map (·.1)).drop 1)))
 generalize ο H2 c1 _=H3 at s3 g3 Sz⊢
 refine⟨1,Κ,D,_,Κ,HC.of g3,λc2 LJ=>?_⟩
 rw[show iQ (nV (b.map (·.1))) Β (Α 1)=nV ((b.map (·.1)).take 1) from ue _ 1]
 have s4:=s3.new (o:=.π (nV ((b.map (·.1)).take 1))) LJ
 have Wj:=cf Sz LJ (.π (nV ((b.map (·.1)).take 1)))
 have Wl:=aX H3 c2 (.π (nV ((b.map (·.1)).take 1)))
 generalize ο H3 c2 _=H4 at s4 Wj Wl⊢
 refine⟨_,_,_,_,Κ,Κ,Wj,Wl,by rw[aw,aw,ø,ņ,ϊ];lia,λFo Yr=>?_⟩
 rw[←eV]
 have s5:=s4.new (o:=.π (nV ((b.map (·.1)).drop 1++(b.map (·.1)).take 1))) Yr
 have g5:=aX H4 Fo (.π (nV ((b.map (·.1)).drop 1++(b.map (·.1)).take 1)))
 generalize ο H4 Fo _=H5 at s5 g5⊢
 have Sv:(nV ((b.map (·.1)).drop 1++(b.map (·.1)).take 1)).length=U.length:=by rw[aw,ϛ,ø,ņ,Pg,m];lia
 refine⟨S,_,Κ,⟨_,s5 _ _ d.t⟩,⟨_,HC.of g5⟩,?_⟩
 refine AN Sv (λi X g=>∃a4 a5 a6:Option V,Hz H g/\g Fo=Α (.π (nV ((b.map (·.1)).drop 1++(b.map (·.1)).take 1)))/\(∀k,k<i->Df a b k=Γ)/\X=[Α (.ref a.tb),Α (.ref S),Α (.ref D),Α (.ref Fo),a4,a5,a6])
  ⟨Β,Β,Β,s5,g5,(λk Y=>Ι Y (Ņ _)),Κ⟩ (λi X g _ HD=>by obtain⟨_,_,_,v,g6,_⟩:=HD;exact⟨v _ _ d.t,HC.of g6⟩) ?_ ?_
 rotate_left
 ·rintro X g ⟨a4,a5,a6,v,_,IV,rfl⟩
  have e:mV a b=Γ:=ù.mpr λk Y=>IV k (by rw[m];exact Ϩ.mp Y)
  rw[e]at q
  exact q g v
 rintro i x y pt X g hx hy ⟨a4,a5,a6,v,g6,IV,rfl⟩ K1
 obtain⟨hi,u,rfl,p⟩:=d.get hx
 obtain⟨A,Y1⟩:=d.ok i hi
 have B:=bB (D7 hi)
 rw[hy]at B
 cases B
 have r:=v.new (o:=.tup [.ref u,.int ((aD b ((i+1)% b.length)).1:Int)]) K1
 have g7:=aX g pt (.tup [.ref u,.int ((aD b ((i+1)% b.length)).1:Int)])
 have G:=cf g6 K1 (.tup [.ref u,.int ((aD b ((i+1)% b.length)).1:Int)])
 generalize ο g pt _=H7 at r g7 G⊢
 refine⟨_,_,Κ,HF.of g7,Κ,_,_,Κ,_,_,Κ,Κ,?_⟩
 have Z:=IM.keep W hT (Hz.HM r)
 obtain⟨dx,Io,Wt,hf7,hw7⟩:=Z.i
 obtain⟨pr,hpr,Jh,OF⟩:=j8 hS A
 refine⟨_,_,_,_,_,Κ,Wt,W.cl,W.nl,hf7,_,_,_,Κ,Z.l.1,Κ,u,_,0,_,Κ,Κ,HF.of (r _ _ p),al (j:=0) Κ,_,_,_,_,_,_,_,_,Κ,Z.l,hpr,?_⟩
 rw[Jh]
 refine⟨u,_,0,_,Κ,Κ,HF.of (r _ _ p),al (j:=0) Κ,_,_,_,Κ,Wt,hw7,u,_,1,_,Κ,Κ,HF.of (r _ _ p),al (j:=1) Κ,_,_,_,_,_,Β,Κ,Z.j,OF,Y1,λDw H8 s8 hDw gDw=>?_⟩
 have I:=r.trans s8
 refine⟨_,_,Κ,.inl (HC.of gDw),Κ,by rw[lJ];exact fJ _,_,Κ,?_⟩
 rw[lJ (a.wy (bE a (aD b i).1) (aD b i).2 Β),jt]
 rw[lW]
 have M:Df a b i=Δ->mV a b=Δ:=λh=>by
  unfold mV
  rw[List.all_eq_false]
  exact⟨i,Ϩ.mpr hi,by rw[h];decide⟩
 cases hb:decide ((aD b i).1∈a.wy (bE a (aD b i).1) (aD b i).2 Β) with
 | false =>
  rw[M (by unfold Df;rw[hb];rfl)]at q
  exact az (q H8 I)
 | true =>
  have hT8:=IM.keep W hT (Hz.HM I)
  refine au ⟨u,_,0,_,Κ,Κ,HF.of (I _ _ p),al (j:=0) Κ,u,_,1,_,Κ,Κ,HF.of (I _ _ p),al (j:=1) Κ,a,(aD b i).1,(aD b i).2,Κ,hT8,hO,A,Y1,λD2 H9 s9 JA P7=>?_⟩
  refine⟨by show 1<=Χ;decide,λe1 O=>?_⟩
  have QN:=s9.new (o:=.π [.int ((aD b ((i+1)% b.length)).1:Int)]) O
  have O8:(ο H9 e1 (.π [.int ((aD b ((i+1)% b.length)).1:Int)])) e1=Α (.π ([(((aD b ((i+1)% b.length)).1:Nat):Int)].map V.int)):=ae
  have W6:=cf P7 O (.π [.int ((aD b ((i+1)% b.length)).1:Int)])
  generalize ο H9 e1 _=Nl at QN O8 W6⊢
  refine⟨_,_,_,_,Κ,Κ,HC.of (by rw[W6,lJ]),HC.of O8,_,Κ,?_⟩
  have eqv:decide (iz (ff a (aD b i).1 (aD b i).2)=[(((aD b ((i+1)% b.length)).1:Nat):Int)])=decide (ff a (aD b i).1 (aD b i).2=[(aD b ((i+1)% b.length)).1]):=by
   rw[decide_eq_decide]
   constructor
   ·intro z
    have z:=z
    exact List.map_inj_right (λx y e=>by lia)|>.mp z
   ·intro z;rw[z];rfl
  have W7:=I.trans QN
  rw[eqv]
  cases Ye:decide (ff a (aD b i).1 (aD b i).2=[(aD b ((i+1)% b.length)).1]) with
  | false =>
   rw[M (by unfold Df;rw[hb,Ye];rfl)]at q
   exact az (q Nl W7)
  | true =>
   refine au ⟨_,_,_,W7,QN _ _ (s8 _ _ G),(λk Y=>?_),Κ⟩
   by_cases e:k=i
   ·rw[e];unfold Df;rw[hb,Ye];rfl
   ·exact IV k (by lia)
theorem oB{TC:Ο}(h:lg K c TC J ys vs H Q E)(k:∀v a,Q v a->Q' v a):lg K c TC J ys vs H Q' E:=by
 obtain⟨y,b,d,e,f,lt,n,g,i,j,l,m,o,p,q,r,s,t⟩:=h
 exact⟨y,b,d,e,f,_,n,g,i,j,l,m,o,p,q,r,s,λh u x le z dn a A B C D F G=>k _ _ (t h u x le z dn a A B C D F G)⟩
theorem iW(k:HY H H')(h:HF K H a xs):HF K H' a xs:=by
 rcases h with (e|⟨o,e⟩)|e
 ·exact .inl (.inl (k _ _ e ϥ))
 ·exact .inl (.inr ⟨o,k _ _ e ϥ⟩)
 ·exact .inr e
theorem W8(a:H F=Β)(b:Hz H H2)(c:H2 F=Α (.π vs))(d:Paired (IQ H2) vs xs)(e:H2 t=Α (.tup m)):
  Hz H (ο H2 F (.π (vs++[.ref t])))/\HY H2 (ο H2 F (.π (vs++[.ref t])))/\Paired (IQ (ο H2 F (.π (vs++[.ref t])))) (vs++[.ref t]) (xs++[m]):=by
 have kk:HY H2 (ο H2 F (.π (vs++[.ref t]))):=jp c
 exact⟨b.put a,kk,Paired.snoc ⟨t,Κ,kk _ _ e ϥ⟩ (Paired.mono (λ_ _ z=>z.keep kk) d)⟩
noncomputable def rq(a:YA)(rg:List (Nat×Nat))(rm:List Nat)(k:Nat):List V:=[.int (bE a (aD rg k).1),.int (aD rg k).2,.int (dA rm (aD rg k).1),.int 0]
noncomputable def fG(a:YA)(rg:List (Nat×Nat))(rm:List Nat)(m:Nat):List (List V):=(Υ m).map (rq a rg rm)
noncomputable def wG(rm:List Nat):List V:=rm.map λr:Nat=>V.int (r:Int)
structure SD(a:YA)(rm:List Nat):Prop where
 len:rm.length=a.ps.length
 pos:∀l,l<a.ps.length->1<=dA rm l/\dA rm l<=60
theorem t8(h:l<rm.length):(wG rm)[l]?=Α (V.int (dA rm l)):=by
 unfold wG dA
 rw[ώ,Λ h,Ω,Λ h]
 rfl
theorem zl(a:List Nat):wG a=(a.map λr:Nat=>(r:Int)).map V.int:=by unfold wG;rw[Ú];rfl
theorem SD.iz(h:SD a rm):(rm.map λr:Nat=>(r:Int)).length=a.ps.length/\∀r∈rm.map λr:Nat=>(r:Int),1<=r/\r<=60:=by
 refine⟨by rw[Ρ];exact h.len,λr b=>?_⟩
 obtain⟨x,c,rfl⟩:=Â.mp b
 obtain⟨i,d⟩:=pB c
 have e:=(gQ0 d)
 have:=h.pos i (by rw[←h.len];exact e)
 unfold dA at this
 grind
inductive yf(c:Cs)(TC:Ο)(J:TJ)(vs:List V)(H:Hp)(Q:VK)(E:XK):Prop
 |mk (a:YA) (ra rr:Ο) (HR:List V) (rg:List (Nat×Nat)) (rm:List Nat) (_:vs=[.ref a.tb,.ref rr,.ref ra]) (_:xE c TC J H a) (_:xK a) (_:(∀p∈a.ps,iK a.n p=Γ)) (_:P8 H a ra HR rg) (_:1<=rg.length) (_:H rr=Α (.π (wG rm))) (_:SD a rm) (_:(mV a rg=Δ->∀H',Hz H H'->Q .HU H')) (_:(mV a rg=Γ->∀(t LL MM:Ο)(HQ Ik:List V)(H':Hp),Hz H H'->H t=Β->H LL=Β->H MM=Β->H' t=Α (.tup [.ref LL,.ref MM])->H' LL=Α (.π HQ)->Paired (IQ H') HQ (fG a rg rm rg.length)->H' MM=Α (.π Ik)->Paired (IQ H') Ik ((cF rg rm rg.length).map dY)->Q (.ref t) H'))
theorem j7(d:∀p∈a.ps,iK a.n p=Γ):Sta a:=λl b h=>by
 have c:=d b (Ψ h)
 unfold iK at c
 simp only[Ù,decide_eq_true_eq,Ľ,decide_eq_false_iff_not]at c
 exact⟨b.1.toNat,by lia,by lia⟩
abbrev NSo:List Str:=["table","rooms","ring","by_lane","letters","moves","number","pair","lane"]
noncomputable def extC(s:ϩ):Scope:=match s with
 |.Expr (.Call _ [.ListComp _ _ sc _] _ _) _=>sc
 |_=>zQ0
theorem Mx:aq NSo Ee (ag q5):=bM
theorem bkSo:IP NSo (ag q5) (extC (iL (jO (iL (aB q5) 4)) 2)) ["number","lane"] [6,8]:=_L2.Jv
theorem ndSo:(["piece","number","lane"]:List Str).Nodup:=by decide +kernel
theorem C7{TC f fy:Ο}(F:HZ K "stand_of" "stand_of" q5 f fd)(T:dz mg)(L:i3 K c)(Y:mG K ys)(W:Wy K TC J)
  (Gc:Ca P w K mg μ "can_stand" 5 DV (Ez c TC J))
  (Gs:Me P w K mg μ c.land "start_of" 1 eC (gm c Ä)) (my:mg "Yard"=Α (.ref ys.HH)) (My:Mk K ys.HH fy) (P9:Binds K dy kq []) (Gy:HB P w K mg μ aK 4 fy dy kq (lg K c TC J (yx ys []))):
  HB P w K mg μ aK 6 f fd Ee (yf c TC J):=by
 refine F.ok Mx λ_ _ _ s H _ Q E hr h=>?_
 obtain⟨a,ra,rr,HR,rg,rm,rfl,hT,hO,HK,G,Lg,W9,Z,q0,q1⟩:=h
 refine⟨_,ac (aC (ba (aQ (bF Gc hr (aa (pv 0) (aa (pv 2) ad))))) (af (ao aT)) ar)
  (ac (bG 3 Mx.nd (aR (dr My Gy hr Κ my P9 .nil cU (aa (pv 0) (aa (pv 1) ad)))))
  (ac (bG 4 Mx.nd (aJ ad))
  (ac (bG 5 Mx.nd (aJ ad))
  (ac (eI (gP Κ T.enum (aa (pv 2) ad)) (bO Κ (av (jj (i:=6) Mx.nd Κ (ń Κ)) (av (b9 7 Mx.nd) bz)))
   (ac (fR (i:=8) Mx.nd Κ (ń Κ) (be HA (pv 7) ah))
   (ac (aF (ck plainAttrs_list PySem.F.slot_list_append PySem.F.type_list_append bq (pv 4) (aa (aM (aa (cE (aR (pv 0)) L.cl Gs hr (aa (pv 8) ad)) (aa (be HA (pv 7) ah) (aa (be HA (pv 3) (pv 8)) (aa ah ad))))) ad)))
   (af (aF (ck plainAttrs_list slot_list_extend type_list_extend dP (pv 5) (aa (aZ (own:=["piece"]) (capN:=["number","lane"]) (cap:=[6,8]) bkSo Κ (aE Κ T.range (aa (be HA (pv 3) (pv 8)) ad))
    (λC s' H' fp=>⟨b9 0 ndSo,bu,aM (aa bA (aa (pv 1) (aa (pv 2) ad)))⟩)) ad)))))))
  (af (ao (aM (aa (pv 4) (aa (pv 5) ad))))))))),?_⟩
 have hpl:HR.length=rg.length:=by rw[Paired.length G.l,Ρ]
 have Jj:=G.few
 refine⟨a,_,_,_,Κ,hT,hO,j7 HK,G,Lg,λH1 s1=>⟨_,Κ,?_⟩⟩
 cases hb:mV a rg with
 |false=>exact az (q0 hb H1 s1)
 |true =>
 refine au ?_
 have q1:=q1 hb
 have Ql:=IM.keep W hT (Hz.HM s1)
 refine(λy dy ny RA RB=>oB (oC (P:=P) (w:=w) (ys:=ys) (ex:=[]) W Ql hO.few HK (HC.of (by rw[s1 _ _ W9,zl])) Z.iz.1 Z.iz.2 hT.few (λz hz=>by cases hz) y dy ny RA RB) λv H2 h=>⟨h.1,?_⟩)
 obtain⟨_,b,eb,_,_,_,_,s2,_,hI,_⟩:=h
 injection eb with eb
 subst eb
 have O6:HF K H2 b.ro (wG rm):=by rw[zl];exact hI.Y.O6
 have RQ:=hI.Y.ρ
 generalize b.ro=X at O6 RQ
 refine⟨_,_,_,_,_,Κ,RQ,Y.cl,Y.n2,Κ,?_⟩
 have OG:=s1.trans s2
 clear hI RQ
 refine⟨ϡ _,λg M=>?_⟩
 have u3:=OG.new (o:=.π []) M
 have WA:=OG.free M
 have v3:=(Hz.refl H2).new (o:=.π []) M
 have RS:=aX H2 g (.π [])
 generalize ο H2 g _=H3 at u3 v3 RS⊢
 refine⟨ϡ _,λr WB=>?_⟩
 have u4:=u3.new (o:=.π []) WB
 have WC:=u3.free WB
 have v4:=v3.new (o:=.π []) WB
 have SE:=cf RS WB (.π [])
 have WD:=aX H3 r (.π [])
 have nLM:=ai RS WB
 generalize ο H3 r _=H4 at u4 v4 SE WD⊢
 have hro4:=iW (Hz.HM v4) O6
 refine⟨_,Κ,⟨_,HF.of (u4 _ _ G.t)⟩,?_⟩
 refine fI (sq:=λH=>HF K H ra) (xs:=HR) (λi σ q=>∃(a6 a7 a8:Option V)(A D:List V),Hz H q/\HF K q X (wG rm)/\q g=Α (.π A)/\Paired (IQ q) A (fG a rg rm i)/\q r=Α (.π D)/\Paired (IQ q) D ((cF rg rm i).map dY)/\σ=[Α (.ref a.tb),Α (.ref rr),Α (.ref ra),Α (.ref X),Α (.ref g),Α (.ref r),a6,a7,a8])
  ⟨Β,Β,Β,[],[],u4,hro4,SE,.nil,WD,.nil,Κ⟩ (λi σ q _ HD=>by obtain⟨_,_,_,_,_,O,_⟩:=HD;exact HF.of (O _ _ G.t)) ?_ ?_
 rotate_left
 ·rintro σ q ⟨a6,a7,a8,A,D,O,_,WE,WH,S7,WI,rfl⟩
  rw[hpl]at WH WI
  refine⟨by show 2<=Χ;decide,λt ht=>?_⟩
  have B:=(Hz.refl q).new (o:=.tup [.ref g,.ref r]) ht
  exact q1 t g r A D _ (O.trans B) (O.free ht) WA WC ae (B _ _ WE) (Paired.mono (λ_ _ z=>z.keep (Hz.HM B)) WH) (B _ _ S7) (Paired.mono (λ_ _ z=>z.keep (Hz.HM B)) WI)
 rintro i x pt σ q hx ⟨a6,a7,a8,A,D,O,NR,WE,WH,S7,WI,rfl⟩ K1
 obtain⟨hi,u,rfl,gu⟩:=G.get hx
 obtain⟨S,Y1⟩:=G.ok i hi
 have B:=(Hz.refl q).new (o:=.tup [.int (i:Int),.ref u]) K1
 have g6:=aX q pt (.tup [.int (i:Int),.ref u])
 generalize ο q pt _=H6 at B g6⊢
 refine⟨_,_,Κ,HF.of g6,Κ,_,_,Κ,_,_,Κ,Κ,?_⟩
 have s6:=O.trans B
 have O5:=IM.keep W hT (Hz.HM s6)
 obtain⟨dx,Io,hx6,hf6,hw6⟩:=O5.i
 obtain⟨pr,hpr,Jh,OF⟩:=j8 (j7 HK) S
 have gu6:=s6 _ _ gu
 have Pb:=iW (Hz.HM B) NR
 have Lh:(aD rg i).1<rm.length:=by rw[Z.len];exact S
 have JL:A.length=i:=by rw[Paired.length WH];unfold fG;rw[Ρ,ě]
 refine⟨u,_,0,_,Κ,Κ,HF.of gu6,al (j:=0) Κ,.inl ⟨Κ,_,HC.of (B _ _ WE)⟩,_,_,_,_,_,Κ,hx6,W.cl,W.nl,hf6,_,_,_,Κ,O5.l.1,Κ,_,_,_,_,_,_,_,_,Κ,O5.l,hpr,u,_,1,_,Κ,Κ,HF.of gu6,al (j:=1) Κ,X,_,_,_,Κ,Κ,Pb,al (t8 Lh),by show 4<=Χ;decide,λt ht=>?_⟩
 rw[Jh]
 have I:=B.new (o:=.tup [V.int (bE a (aD rg i).1),V.int (aD rg i).2,V.int (dA rm (aD rg i).1),V.int 0]) ht
 have g7:(ο H6 t (.tup [V.int (bE a (aD rg i).1),V.int (aD rg i).2,V.int (dA rm (aD rg i).1),V.int 0])) t=Α (.tup (rq a rg rm i)):=ae
 generalize ο H6 t _=H7 at I g7⊢
 have s7:=O.trans I
 obtain⟨k1,k2,k3⟩:=W8 (m:=rq a rg rm i) WA s7 (I _ _ WE) (Paired.mono (λ_ _ z=>z.keep (Hz.HM I)) WH) g7
 refine⟨g,A,_,Κ,Κ,I _ _ WE,by rw[ϊ];lia,?_⟩
 have WJ:=aI (ϗ nLM) (I _ _ S7) (.π (A++[.ref t]))
 have gL8:=aX H7 g (.π (A++[.ref t]))
 have pM8:=Paired.mono (λ_ _ z=>z.keep (HY.trans (Hz.HM I) k2)) WI
 have MX:=iW (HY.trans (Hz.HM I) k2) NR
 generalize ο H7 g _=H8 at k1 k3 WJ gL8 pM8 MX⊢
 have eL:fG a rg rm i++[rq a rg rm i]=fG a rg rm (i+1):=by unfold fG;rw[É,Ϥ];rfl
 rw[eL]at k3
 have hrp:=Z.pos _ S
 refine⟨.inl ⟨Κ,_,HC.of WJ⟩,X,_,_,_,Κ,Κ,MX,al (t8 Lh),_,Κ,by lia,by lia,?_⟩
 rw[Τ]
 have el:((Ϗ (dA rm (aD rg i).1) (Mv.IB i (aD rg i).1)).map dY).length=dA rm (aD rg i).1:=by rw[Ρ,é]
 refine el▸AW (R:=IQ) (λs _ _ h=>h.keep (Hz.HM s)) ((Ϗ (dA rm (aD rg i).1) (Mv.IB i (aD rg i).1)).map dY) (by rw[el,ϊ];lia) (λj m H9 N hj s9 hN=>?_) (λD2 U H9 s9 JA hp=>?_)
 ·have hm:m=dY (.IB i (aD rg i).1):=by
   obtain⟨z,hz,rfl⟩:=Â.mp (Ψ hj)
   rw[(Rx.mp hz).2]
  refine⟨by show 3<=Χ;decide,λt2 MG=>hN _ _ ((Hz.refl H9).new MG) ⟨t2,Κ,?_⟩⟩
  rw[hm]
  exact ae
 ·have p:=s9.new (o:=.π U) JA
  have O8:=aX H9 D2 (.π U)
  have p10:=Paired.mono (λ_ _ z=>z.keep (Hz.HM ((Hz.refl H9).new (o:=.π U) JA))) hp
  generalize ο H9 D2 _=Nl at p O8 p10⊢
  have Pg:D.length<=60* 40:=by
   rw[Paired.length WI,Ρ]
   have:=lK (rg:=rg) (rm:=rm) (m:=i) λk hk=>(Z.pos _ (G.ok k (by lia)).1).2
   lia
  have Nx:U.length<=60:=by rw[Paired.length hp,el];exact hrp.2
  obtain⟨z1,z2,z3⟩:=jn WC k1 WJ pM8 p p10
  refine⟨r,_,D,U,Κ,Κ,p _ _ WJ,O8,by rw[ϊ];lia,?_⟩
  have kk:HY Nl (ο Nl r (.π (D++U))):=jp (p _ _ WJ)
  refine⟨_,_,_,_,_,z1,iW (HY.trans (Hz.HM p) kk) MX,aI nLM (p _ _ gL8) _,Paired.mono (λ_ _ z=>z.keep (HY.trans (Hz.HM p) kk)) k3,z2,?_,Κ⟩
  rw[jH]
  exact z3
def E4(P:Program)(w:Å):List V->Hp->VK->Prop:=λxs H Q=>∃(p:Ο)(n:Nat),xs=[.ref p]/\H p=Α (Ic P w p n)/\n<64/\Q (.int n) H
def WK(P:Program)(w:Å)(K:ϧ):List V->Hp->VK->Prop:=λxs H Q=>∃(p:Ο)(ns:List Int),xs=[.ref p]/\HF K H p (ns.map V.int)/\ns.Nodup/\ns.length<64/\∀q,H q=Β->Q (.ref q) (ο H q (Ic P w q ns.length))
def zq(P:Program)(w:Å)(K:ϧ):List V->Hp->VK->Prop:=λxs H Q=>∃(p:Ο)(ns:List Int),xs=[.ref p]/\HC K H p (ns.map V.int)/\ns.Nodup/\ns.length<64/\∀q,H q=Β->Q (.ref q) (ο H q (Ic P w q ns.length))
theorem rB(h:r.Nodup):(iz r).Nodup:=E1 _ (λa b (e:a≠b) z=>e (by lia)) h
theorem DJ{z:Nat}(h:r.getLast?=Α z):qf (nV r) (-1)=Α (.int (z:Int)):=by
 have a:r≠[]:=λe=>by grind
 have b:=Ē.mpr a
 unfold qf AE
 rw[Η (by decide),Θ (by rw[aw];lia),aw,m2,show((-1:Int)+(r.length:Int)).toNat=r.length - 1 by lia]
 rw[Ť]at h
 exact bB h
def DP(wy:bo->Nat)(ps:IPs):Prop:=∀p g z:Nat,z∈wl wy [Α (p:Int),Α (g:Int),Β]->(ps.getD z (0,0)).1=(p:Int)/\p≠g
inductive yF(c:Cs)(C:Ο)(J:fg)(vs:List V)(H:Hp)(Q:VK)(E:XK):Prop
 |mk (x lx HJ lt:Ο) (n:Nat) (HE:List V) (ps:IPs) (wy:bo->Nat) (l g:Nat) (_:vs=[.ref x,.int l,.int g]) (_:Ir c C J H x lx HJ lt n HE ps wy) (_:g<n) (_:DP wy ps) (_:mI wy ps n g l) (_:∀H',Hz H H'->Q (.bl Γ) H')
theorem Jd:p∈cR m↔m.testBit p=Γ:=Yd.Iz (Yd.Jf m)
theorem JP:q∈eU S m↔q.1<m/\(S.getD q.1 0).testBit q.2=Γ:=by
 unfold eU lE
 rw[â]
 constructor
 ·rintro⟨l,a,h⟩
  obtain⟨g,b,rfl⟩:=Â.mp h
  exact⟨Ϩ.mp a,Jd.mp b⟩
 ·rintro⟨c,d⟩
  exact⟨_,Ϩ.mpr c,Â.mpr ⟨q.2,Jd.mpr d,Κ⟩⟩
theorem ui{S:List Nat}(h:∀z∈S,z<2^n)(a:(S.getD l 0).testBit g=Γ):g<n:=by
 have b:S.getD l 0<2^n:=by
  rw[Ω]
  cases e:S[l]? with
  |none=>exact VR n
  |some y=>exact h y (Ψ e)
 refine Þ λc=>?_
 rw[Ł (Ϝ b (ç (by decide) (by lia)))]at a
 cases a
structure pY(wy:bo->Nat)(ps:IPs)(n:Nat)(r:List (Nat×Nat)):Prop where
 ne:r≠[]
 nd:(r.map (·.1)).Nodup
 few:r.length<=ps.length
 st:∀k p q,r[if k=0 then r.length - 1 else k - 1]?=Α p->r[k]?=Α q->p.1<ps.length/\p.2<n/\mI wy ps n p.2 p.1/\q.1∈cu wy ps p.2 p.1
theorem vi{i:Nat}(h:(je L r)[i]?=Α q):∃x y,r[i]?=Α x/\(nv r)[i]?=Α y/\q=(x,(fO (L.getD y []) x).getD 0):=by
 unfold je at h
 rw[ώ]at h
 cases e:(r.zip (nv r))[i]? with
 |none=>rw[e]at h;cases h
 | some p =>
  rw[e]at h
  obtain⟨a,b⟩:=ť.mp e
  exact⟨_,_,a,b,(ϋ h).symm⟩
theorem lz(L:Ld)(r:List Nat):(je L r).length=r.length:=by
 unfold je
 rw[Ρ,List.length_zip,pc,Nat.min_self]
theorem zn(L:Ld)(r:List Nat):(je L r).map (·.1)=r:=by
 unfold je
 rw[Ú]
 have:((λx:Nat×Nat=>x.1) ∘ λp:Nat×Nat=>(p.1,(fO (L.getD p.2 []) p.1).getD 0))=Ä:=rfl
 rw[this,List.map_fst_zip]
 rw[pc];exact Ξ _
theorem zk(a:(nv r)[if k=0 then r.length - 1 else k - 1]?=Α x)(b:r[k]?=Α y):x=y:=by
 have c:=(gQ0 b)
 unfold nv at a
 by_cases h:k=0
 ·subst h
  rw[Θ Κ,ä (by rw[ø];exact Ξ _),ø,Nat.sub_self,RG,Θ (by lia),b]at a
  exact(ϋ a).symm
 ·rw[Η h,Ϛ (by rw[ø];lia),č,show 1+(k - 1)=k by lia,b]at a
  exact(ϋ a).symm
theorem BZ(r:(i6 (qe wy ps n)).length<ps.length):pY wy ps n (je (qe wy ps n) (iS (qe wy ps n) (i6 (qe wy ps n))).reverse):=by
 have b:Im (cu wy ps) (tV (bW wy ps n n)) ps.length (qe wy ps n):=jq
 generalize qe wy ps n=L at b r
 have s:=b.len
 have t:∀w,∀z∈ks (L.getD w []),z<L.length:=λw z u=>by
  obtain⟨y,c,rfl⟩:=iO u
  rw[s];exact(b.of w y c).1
 obtain⟨m,F,v⟩:=p9 L
 have a:=uE t v (by lia)
 generalize iS L (i6 L)=A at a
 have G:=jm _ _ a.nd a.lt
 refine⟨λz=>a.ne ?_,by rw[zn];exact List.pairwise_reverse.mpr (a.nd.imp λh=>ϗ h),by rw[lz,Ò];lia,λk p q e B=>?_⟩
 ·have:=congrArg p0 z
  rw[lz,Ò]at this
  grind
 ·rw[lz]at e
  obtain⟨x,y,C,c,rfl⟩:=vi e
  obtain⟨D,H,E,I,rfl⟩:=vi B
  have d:=zk c E
  subst d
  obtain⟨g,f⟩:=fj (a.fwd _ x y C c)
  obtain⟨i,j,l⟩:=b.of y (x,g) (oG f)
  dsimp only at i j l
  rw[f]
  have o:=Jd.mp j
  exact⟨i,ui (iN wy ps n n (Ξ _)) o,dZ o,l⟩
theorem RT:(iz us=[])↔us=[]:=by unfold iz;exact Ī
theorem Bc{k:Nat}{v:α}(a:k<xs.length)(h:xs[if k=0 then xs.length - 1 else k - 1]?=Α v):qf xs ((k:Int) - 1)=Α v:=by
 unfold qf AE
 by_cases e:k=0
 ·subst e
  rw[Θ Κ]at h
  rw[Η (by decide),Θ (by lia),m2,show(((0:Nat):Int) - 1+(xs.length:Int)).toNat=xs.length - 1 by lia]
  exact h
 ·rw[Η e]at h
  rw[Θ (by lia),Θ (by lia),m2,show((k:Int) - 1).toNat=k - 1 by lia]
  exact h
structure Bz(wy:bo->Nat)(ps:IPs)(n l g:Nat):Prop where
 hl:l<ps.length
 hg:g<n
 m:mI wy ps n g l
 e:¬(ps.getD l (0,0)).2=(g:Int)
 on:cu wy ps g l=[]
theorem Dr(h:dH wy ps n=Α (l,g)):Bz wy ps n l g:=by
 unfold dH at h
 have c:=Jp h
 have d:=List.find?_some h
 have a:=d
 obtain⟨e,b⟩:=JP.mp c
 unfold eM at a
 rw[Ù,Ľ,decide_eq_false_iff_not,List.isEmpty_iff]at a
 exact⟨e,ui (iN wy ps n n (Ξ _)) b,dZ b,a.1,a.2⟩
theorem SF(h:iK n p=Γ):(0<=p.1/\p.1<n)/\(0<=p.2/\p.2<n)/\¬p.1=p.2:=by
 unfold iK at h
 grind
theorem dv{a:IPs}(h:o<a.length):a.getD o (0,0)=a[o]:=by grind
abbrev NCo:List Str:=["_law_table_here","_law_lane","_law_goal","_law_row","_law_land","_law_k","_law_end"]
theorem Oo:aq NCo DR (ag tj):=bM
theorem Da(F:HZ K "_law_comes" "_law_comes" tj f fd)(T:dz mg)(L:i3 K c)(W:mX K C J)(nl:HL K C "land")(Gw:Me P w K mg μ C "ways" 3 kn (iF J))
  (Ge:Me P w K mg μ c.land "end_of" 1 eC (gm c Î)) (Gs:Me P w K mg μ c.land "start_of" 1 eC (gm c Ä))
  (Gy:Ca P w K mg μ "way_to" 6 pZ (uK c C J)):
  HB P w K mg μ aK 7 f fd DR (yF c C J):=by
 refine F.ok Oo λ_ _ _ s H _ Q E A h=>?_
 obtain⟨x,t,B,lt,n,HE,a,D,l,g,rfl,G,hg,WL,hm,q⟩:=h
 have hu:=A.units
 have h40:=G.few
 refine⟨_,ac (bG 3 Oo.nd (bF Gy A (aa (pv 0) (aa (pv 1) (aa (pv 2) ad)))))
  (ac (aC (PW.pt (c9 (ba (aQ (aH fK Κ T.O4 ϯ (aa (pv 3) (aa (du (v:=.ty "tuple") Κ T.tuple PySem.Pv.boot_tuple Κ) ad)))))
    (c9 (bJ (p8 hu) (pv 3) (aM ad))
    (c9 (bJ dc (be HA (pv 3) (Tf EM ah)) (pv 1))
    (bT (bJ dc (aH (oq) Κ T.len PySem.boot_len (aa (bP (show c5 _ (.type "set") (WK P w K) from xz Κ) Κ T.set oD (aa (pv 3) ad)) ad)) (gq T.len (pv 3)))))))) (af (ao bY)) ar)
  (ac (bG 4 Oo.nd (aR (pv 0)))
  (ac (aC (PW.pt (c9 (bJ br (cE (pv 4) L.cl Gs A (aa (be HA (pv 3) ah) ad)) (pv 2))
    (bT (bJ (bV) (be HA (pv 3) ah) (cE (pv 0) W.cl Gw A (aa (cE (pv 4) L.cl Gs A (aa (be HA (pv 3) ah) ad)) (aa (pv 2) (aa aT ad)))))))) (af (ao bY)) ar)
  (ac (eI (wK Κ T.range (aa ah (aa (gq T.len (pv 3)) ad))) (b9 5 Oo.nd)
   (ac (bG 6 Oo.nd (cE (pv 4) L.cl Ge A (aa (be HA (pv 3) (aA cZ (pv 5) ah)) ad)))
   (af (aC (PW.pt (c9 (bJ br (pv 6) (pv 2))
    (bT (bJ (bV) (be HA (pv 3) (pv 5)) (cE (pv 0) W.cl Gw A (aa (pv 6) (aa (pv 2) (aa (be HA (pv 3) (aA cZ (pv 5) ah)) ad)))))))) (af (ao bY)) ar))))
  (af (ao bY)))))),?_⟩
 obtain⟨dx,Io,hx,hf⟩:=G.i
 obtain⟨KI,RU,IF,Kc⟩:=W.inst _ _ _ _ G.j
 rw[hx]at IF
 injection IF with IF
 injection IF with _ e1 e2
 subst e1 e2
 refine⟨x,t,B,_,n,_,a,D,l,g,Κ,G,hg,hm,λb r H1 s1 gr u=>?_⟩
 obtain⟨e,t0,er,hz0⟩:=u.first
 have hlen:=dE _ _ u.nd u.lt
 have X:HF K H1 b ((iz r).map V.int):=by rw[show(iz r).map V.int=nV r from (fV r).symm];exact HF.of gr
 have izl:(iz r).length=r.length:=by unfold iz;grind
 refine(.inr (.inr (.inr ⟨b,_,Κ,HF.of gr,_,Κ,au ?_⟩)))
 refine⟨ϡ _,λe0 RV=>?_⟩
 have Y:=(Hz.refl H1).new (o:=.tup []) RV
 refine⟨_,_,.tup (Hz.RJ Y X) (iw _),.tup (HF.of ae) .nil,((cT (m:=0) λy hy=>by obtain⟨i,_,rfl⟩:=Â.mp hy;exact cj _).le (show 1<=64 by decide)).shaped (Ξ _),((cT (m:=0) λy hy=>by cases hy).le (show 1<=64 by decide)).shaped (Ξ _),_,Κ,?_⟩
 have eqv:į (.tuple ((iz r).map ŕ)) (.tuple [])=Δ:=by rw[er];rfl
 rw[eqv]
 generalize ο H1 e0 _=H2 at Y⊢
 refine au ⟨_,Κ,b,_,_,_,Κ,Κ,HF.of (Y _ _ gr),DJ u.last,Κ,_,Κ,?_⟩
 rw[bR,Ε Κ]
 refine au ⟨b,iz r,Κ,Hz.RJ Y X,rB u.nd,by lia,λsq hsq=>?_⟩
 have I:=Y.new (o:=Ic P w sq (iz r).length) hsq
 refine⟨_,_,Κ,ae,by lia,?_⟩
 generalize ο H2 sq _=H3 at I⊢
 refine⟨b,_,Κ,.inr (HF.of (I _ _ gr)),Κ,_,Κ,?_⟩
 rw[bR,aw,izl,Ε Κ]
 refine au ?_
 have M:=s1.trans I
 have Z:=G.same W M
 obtain⟨N,hp0,hzw⟩:=â.mp hz0
 have hp0:=Ϩ.mp hp0
 obtain⟨Jh,Mw⟩:=WL N g e hzw
 have WM:=u.lt e (by grind)
 have hk0:=Λ WM
 rw[dv WM]at Jh
 have a0:qf (nV r) 0=Α (.int (e:Int)):=al (j:=0) (by rw[er];rfl)
 refine⟨x,C,_,_,_,Κ,M _ _ hx,W.cl,nl,hf,t,B,_,Κ,Z.l.1,Κ,b,_,0,_,Κ,Κ,HF.of (I _ _ gr),a0,t,B,_,_,_,a,e,_,Κ,Z.l,hk0,?_⟩
 rw[Jh]
 refine⟨Κ,_,Κ,?_⟩
 rw[bR,Ζ (show ¬(N:Int)=(g:Int) by lia)]
 refine au ⟨b,_,0,_,Κ,Κ,HF.of (I _ _ gr),a0,x,dx,Io,Κ,M _ _ hx,Kc,t,B,_,Κ,Z.l.1,Κ,b,_,0,_,Κ,Κ,HF.of (I _ _ gr),a0,t,B,lt,_,HE,a,e,a[e],Κ,Z.l,hk0,?_⟩
 rw[Jh]
 refine⟨x,n,D,⟨(N:Int),(g:Int),Β,[]⟩,Κ,Z.j,(show (0:Int)<=(N:Int)/\(N:Int)<(n:Int) by lia),(show (0:Int)<=(g:Int)/\(g:Int)<(n:Int) by lia),λH4 U s4 hU=>?_⟩
 have s5:=I.trans (s4.new (o:=.π (fF (D (aP ⟨(N:Int),(g:Int),Β,[]⟩)))) hU)
 refine⟨U,_,Κ,.inl (HC.of ae),Κ,jv _,_,Κ,?_⟩
 show if (!(AH (.int (e:Int)) (nV (wl D [Α (N:Int),Α (g:Int),Β]))))=Γ then _ else _
 rw[rE,Ε hzw]
 generalize ο H4 U _=H5 at s5⊢
 refine au ?_
 have hr1':1<=r.length:=by rw[er];simp
 refine⟨b,_,Κ,.inr (HF.of (s5 _ _ gr)),1,_,Κ,⟨by lia,by lia,by grind,by rw[aw];lia⟩,?_⟩
 refine aS (n:=(((nV r).length:Nat) - (1:Int)).toNat) (λi σ H6=>∃a5 a6:Option V,Hz H1 H6/\σ=[Α (.ref x),Α (.int l),Α (.int g),Α (.ref b),Α (.ref t),a5,a6])
  ⟨Β,Β,s5,Κ⟩ ?_ ?_
 ·rintro i σ H6 hi ⟨a5,a6,O,rfl⟩
  rw[aw]at hi
  have p:=Λ (show i<r.length by lia)
  have R:=Λ (show i+1<r.length by lia)
  generalize r[i]=d at p
  generalize r[i+1]=yi at R
  have KQ:=u.S6.at p R
  have S:=u.lt d (Ψ p)
  have hk:=Λ S
  unfold cu at KQ
  rw[dv S]at KQ
  have IW:¬(a[d]).2=(g:Int):=λz=>by grind
  rw[Η IW]at KQ
  have RW:=(SF (G.pk _ (ã S))).2.1
  have s06:=s1.trans O
  have O5:=G.same W s06
  have ax:qf (nV r) ((1:Int)+(i:Int) - 1)=Α (.int (d:Int)):=by rw[show (1:Int)+(i:Int) - 1=(i:Int) by lia];exact al (bB p)
  have ay:qf (nV r) ((1:Int)+(i:Int))=Α (.int (yi:Int)):=by rw[show (1:Int)+(i:Int)=((i+1:Nat):Int) by lia];exact al (j:=i+1) (bB R)
  refine⟨t,B,_,Κ,O5.l.1,Κ,_,_,Κ,Κ,b,_,_,_,Κ,Κ,HF.of (O _ _ gr),ax,t,B,_,_,_,a,d,_,Κ,O5.l,hk,Κ,_,Κ,?_⟩
  rw[bR,Ζ IW]
  refine au ⟨b,_,_,_,Κ,Κ,HF.of (O _ _ gr),ay,x,dx,Io,Κ,s06 _ _ hx,Kc,_,_,Κ,Κ,b,_,_,_,Κ,Κ,HF.of (O _ _ gr),ax,x,n,D,⟨(a[d]).2,(g:Int),Α d,[]⟩,Κ,O5.j,RW,(show (0:Int)<=(g:Int)/\(g:Int)<(n:Int) by lia),λH7 U2 s7 Wm=>?_⟩
  have s8:=O.trans (s7.new (o:=.π (fF (D (aP ⟨(a[d]).2,(g:Int),Α d,[]⟩)))) Wm)
  refine⟨_,_,Κ,.inl (HC.of ae),Κ,jv _,_,Κ,?_⟩
  show if (!(AH (.int (yi:Int)) (nV (wl D [Α (a[d]).2,Α (g:Int),Α (d:Int)]))))=Γ then _ else _
  rw[rE,Ε KQ]
  exact au ⟨_,_,s8,Κ⟩
 ·rintro σ H6 ⟨a5,a6,O,rfl⟩
  exact q _ (s1.trans O)
abbrev NLl:List Str:=["_law_table_here","_law_pair","_law_lane","_law_goal","_law_end"]
inductive uX(c:Cs)(C:Ο)(J:fg)(vs:List V)(H:Hp)(Q:VK)(E:XK):Prop
 |mk (x lx HJ lt pa:Ο) (n:Nat) (HE:List V) (ps:IPs) (wy:bo->Nat) (l g:Nat) (_:vs=[.ref x,.ref pa]) (_:Ir c C J H x lx HJ lt n HE ps wy) (_:H pa=Α (.tup [.int (l:Int),.int (g:Int)])) (_:DP wy ps) (_:Bz wy ps n l g) (_:∀H',Q (.bl Γ) H')
structure Y3(P:Program)(w:Å)(K:ϧ)(mg:Str->Option Φ)(μ:Ó)(c:Cs)(C:Ο)(J:fg):Prop where
 nl:HL K C "land"
 Gw:Me P w K mg μ C "ways" 3 kn (iF J)
 Ge:Me P w K mg μ c.land "end_of" 1 eC (gm c Î)
 Gc:Ca P w K mg μ "_law_comes" 7 DR (yF c C J)
theorem PB:aq NLl DW (ag sW):=bM
theorem zP(F:HZ K "_law_lost" "_law_lost" sW f fd)(L:i3 K c)(W:mX K C J)(B:Y3 P w K mg μ c C J):
  HB P w K mg μ aK 8 f fd DW (uX c C J):=by
 refine F.ok PB λ_ _ _ s H _ Q E o h=>?_
 obtain⟨x,r,t,lt,I,n,A,d,u,l,g,rfl,b,M,N,a,q⟩:=h
 have O:=o.units
 refine⟨_,ac (gN (pv 1) (bO Κ (av (b9 2 PB.nd) (av (b9 3 PB.nd) bz))))
  (ac (bG 4 PB.nd (cE (aR (pv 0)) L.cl B.Ge o (aa (pv 2) ad)))
  (af (ao (cv (bF B.Gc o (aa (pv 0) (aa (pv 2) (aa (pv 3) ad)))) (cv (vn dc (pv 4) (pv 3)) (cP (vn (zB O) (cE (pv 0) W.cl B.Gw o (aa (pv 4) (aa (pv 3) (aa (pv 2) ad)))) (aJ ad)))))))),?_⟩
 obtain⟨D,fs,v,R⟩:=b.i
 obtain⟨KI,RU,p,S⟩:=W.inst _ _ _ _ b.j
 rw[v]at p
 injection p with p
 injection p with _ T X
 subst T X
 have y:=a.e
 rw[dv a.hl]at y
 have Y:=(SF (b.pk _ (ã a.hl))).2.1
 have Z:(0:Int)<=(g:Int)/\(g:Int)<(n:Int):=by have:=a.hg;lia
 have z:=a.on
 unfold cu at z
 rw[dv a.hl,Η y]at z
 refine⟨I,_,Κ,HF.of M,Κ,_,_,Κ,_,_,Κ,Κ,x,C,D,_,_,Κ,v,W.cl,B.nl,R,r,t,_,Κ,b.l.1,Κ,r,t,_,_,A,d,l,_,Κ,b.l,Λ a.hl,x,r,t,_,n,A,d,u,l,g,Κ,b,a.hg,N,a.m,λH1 G=>?_⟩
 refine⟨_,Κ,az ⟨Κ,_,Κ,?_⟩⟩
 rw[bR,Ζ y]
 have Ql:=b.same W G
 refine az ⟨x,D,fs,Κ,G _ _ v,S,x,n,u,⟨(d[l]' a.hl).2,(g:Int),Α l,[]⟩,Κ,Ql.j,Y,Z,λH2 U s2 hU=>?_⟩
 rw[show fF (u (aP ⟨(d[l]' a.hl).2,(g:Int),Α l,[]⟩))=([]:List Int).map V.int from congrArg nV z]
 refine⟨ϡ _,λe0 RV=>⟨U,e0,[],[],Κ,Κ,HC.of (cf ae RV _),HC.of ae,?_⟩⟩
 rw[Ε Κ]
 exact q _
abbrev NRi:List Str:=["_law_table_here","_law_ring_here","_law_k","_law_lane","_law_goal","_law_end"]
noncomputable def GM(s:ϩ):Scope:=match s with
 |.If (.Compare (.Call _ [.Call _ [.ListComp _ _ sc _] _ _] _ _) _ _ _) _ _ _=>sc
 |_=>jl
inductive uW(c:Cs)(C:Ο)(J:fg)(vs:List V)(H:Hp)(Q:VK)(E:XK):Prop
 |mk (x lx HJ lt pa:Ο) (n:Nat) (HE us:List V) (ps:IPs) (wy:bo->Nat) (r:List (Nat×Nat)) (_:vs=[.ref x,.ref pa]) (_:Ir c C J H x lx HJ lt n HE ps wy) (_:H pa=Α (.tup us)) (_:HW H us (r.map pI)) (_:DP wy ps) (_:pY wy ps n r) (_:2<=r.length) (_:∀H',Hz H H'->Q (.bl Γ) H')
theorem Oq:aq NRi su (ag lu):=bM
theorem bkRi:IP NRi (ag lu) (GM (iL (aB lu) 1)) [] []:=_L2.Jv
theorem WN:(["_law_lane","_law_goal"]:List Str).Nodup:=by decide +kernel
theorem zO(F:HZ K "_law_ring" "_law_ring" lu f fd)(T:dz mg)(L:i3 K c)(W:mX K C J)(B:Y3 P w K mg μ c C J):
  HB P w K mg μ aK 8 f fd su (uW c C J):=by
 refine F.ok Oq λ_ _ _ s H _ Q E M h=>?_
 obtain⟨x,Y,Z,lt,d,n,HE,us,g,N,r,rfl,A,b,hU,WL,hO,h2,q⟩:=h
 have hu:=M.units
 have h40:=A.few
 have Jj:=hO.few
 have O:us.length=r.length:=by rw[Paired.length hU,Ρ]
 refine⟨_,ac (aC (PW.pt (c9 (ba (aQ (aH fK Κ T.O4 ϯ (aa (pv 1) (aa (du (v:=.ty "tuple") Κ T.tuple PySem.Pv.boot_tuple Κ) ad)))))
    (bT (bJ jX (gq T.len (pv 1)) ah)))) (af (ao bY)) ar)
  (ac (aC (bJ dc (aH (oq) Κ T.len PySem.boot_len (aa (bP (show c5 _ (.type "set") (zq P w K) from x5 Κ) Κ T.set oD (aa
      (aZ (own:=["_law_lane","_law_goal"]) (capN:=[]) (cap:=[]) bkRi Κ (dU (pv 1)) (λC s' H' fp=>⟨(show PG _ _ (tW K 2 _) from bO Κ (av (b9 0 WN) (av (b9 1 WN) bz))),bu,pv 0⟩)) ad)) ad)) (gq T.len (pv 1))) (af (ao bY)) ar)
  (ac (eI (aE Κ T.range (aa (gq T.len (pv 1)) ad)) (b9 2 Oq.nd)
   (ac (gN (be HA (pv 1) (aA cZ (pv 2) ah)) (bO Κ (av (b9 3 Oq.nd) (av (b9 4 Oq.nd) bz))))
   (ac (bG 5 Oq.nd (cE (aR (pv 0)) L.cl B.Ge M (aa (pv 3) ad)))
   (ac (aC (PW.pt (c9 (ba (aQ (bF B.Gc M (aa (pv 0) (aa (pv 3) (aa (pv 4) ad))))))
    (bT (bJ br (pv 5) (pv 4))))) (af (ao bY)) ar)
   (af (aC (bJ (bV) (be HA (be HA (pv 1) (pv 2)) ah) (cE (pv 0) W.cl B.Gw M (aa (pv 5) (aa (pv 4) (aa (pv 3) ad))))) (af (ao bY)) ar))))))
  (af (ao bY)))),?_⟩
 obtain⟨dx,fs,hx,hf⟩:=A.i
 obtain⟨KI,RU,R,Kc⟩:=W.inst _ _ _ _ A.j
 rw[hx]at R
 injection R with R
 injection R with _ e1 e2
 subst e1 e2
 refine(.inr (.inr (.inr ⟨d,_,Κ,HF.of b,_,Κ,au ?_⟩)))
 refine⟨d,_,Κ,.inr (HF.of b),_,_,Κ,Κ,_,Κ,?_⟩
 rw[Ζ (show ¬((us.length:Nat):Int)<2 by lia)]
 refine au ⟨d,Κ,⟨_,HF.of b⟩,aW us.length (by rw[ϊ];lia) (λi acc m=>m=H/\acc=(iz ((r.map (·.1)).take i)).map V.int) ⟨Κ,Κ⟩ (λi acc m h=>?_) ?_ ?_⟩
 ·rw[h.2,Ρ]
  unfold iz
  rw[Ρ]
  exact ü _ _
 ·rintro i acc m hi ⟨rfl,rfl⟩
  refine⟨⟨us,us[i],HF.of b,Λ hi⟩,λy H3 G=>?_⟩
  obtain⟨rfl,G⟩:=G
  have G:=G us (HF.of b)
  obtain⟨p,a,t,rfl,gt⟩:=HW.get hU G
  rw[ώ]at a
  cases e:r[i]? with
  |none=>rw[e]at a;cases a
  | some z =>
   rw[e]at a
   have a:=ϋ a
   subst a
   refine⟨t,_,Κ,HF.of gt,Κ,_,_,Κ,_,_,Κ,Κ,Κ,?_⟩
   rw[Ì,ώ,e]
   unfold iz
   rw[Ϥ,Ϥ];rfl
 rintro acc m ⟨rfl,rfl⟩
 refine⟨⟨us,HF.of b,Ξ _⟩,λCm RP=>?_⟩
 rw[Ħ (by rw[Ρ,O];exact Ξ _)]
 have izl:(iz (r.map (·.1))).length=r.length:=by unfold iz;rw[Ρ,Ρ]
 have s2:=(Hz.refl m).new (o:=.π ((iz (r.map (·.1))).map V.int)) RP
 refine⟨_,_,Κ,HC.of ae,rB hO.nd,by lia,λsq hsq=>?_⟩
 have S:=s2.new (o:=Ic P w sq (iz (r.map (·.1))).length) hsq
 refine⟨_,_,Κ,ae,by lia,?_⟩
 generalize ο (ο m Cm _) sq _=H3 at S⊢
 refine⟨d,_,Κ,.inr (HF.of (S _ _ b)),Κ,_,Κ,?_⟩
 rw[bR,izl,O,Ε Κ]
 refine au ?_
 refine⟨d,_,Κ,.inr (HF.of (S _ _ b)),_,Κ,by lia,by lia,?_⟩
 rw[O,Τ]
 refine aS (n:=r.length) (λi σ H4=>∃a2 a3 a4 a5:Option V,Hz m H4/\σ=[Α (.ref x),Α (.ref d),a2,a3,a4,a5])
  ⟨Β,Β,Β,Β,S,Κ⟩ ?_ ?_
 rotate_left
 ·rintro σ H4 ⟨a2,a3,a4,a5,u,rfl⟩
  exact q _ u
 rintro k σ H4 hk ⟨a2,a3,a4,a5,u,rfl⟩
 rw[Õ]
 have Kq:(if k=0 then r.length - 1 else k - 1)<r.length:=by split<;>lia
 have a:=Λ Kq
 have hq:=Λ hk
 generalize r[if k=0 then r.length - 1 else k - 1]=p at a
 generalize r[k]=z at hq
 obtain⟨b1,b2,b3,D⟩:=hO.st k p z a hq
 unfold cu at D
 rw[dv b1]at D
 have IW:¬(g[p.1]).2=(p.2:Int):=λe=>by rw[Θ e]at D;cases D
 rw[Η IW]at D
 have RW:=(SF (A.pk _ (ã b1))).2.1
 have I:=HW.same u hU
 have Mg:=A.same W u
 obtain⟨vp,hvp,tp,rfl,gtp⟩:=HW.LZ I (show(r.map pI)[if k=0 then r.length - 1 else k - 1]?=Α (pI p) by rw[ώ,a];rfl)
 obtain⟨vz,hvz,tz,rfl,gtz⟩:=HW.LZ I (show(r.map pI)[k]?=Α (pI z) by rw[ώ,hq];rfl)
 have ap:qf us ((k:Int) - 1)=Α (.ref tp):=Bc (by lia) (by rw[O];exact hvp)
 refine⟨_,_,Κ,Κ,d,_,_,_,Κ,Κ,HF.of (u _ _ b),ap,_,_,Κ,HF.of gtp,Κ,_,_,Κ,_,_,Κ,Κ,x,C,_,_,_,Κ,u _ _ hx,W.cl,B.nl,hf,Y,Z,_,Κ,Mg.l.1,Κ,Y,Z,_,_,_,g,_,_,Κ,Mg.l,Λ b1,x,Y,Z,_,n,_,g,N,_,_,Κ,Mg,b2,WL,b3,λH5 s5=>⟨_,Κ,au ?_⟩⟩
 refine⟨Κ,_,Κ,?_⟩
 rw[bR,Ζ (show ¬(g[p.1]).2=(pI p).2 from IW)]
 refine au ?_
 have X:=u.trans s5
 refine⟨d,_,_,_,Κ,Κ,HF.of (X _ _ b),al hvz,_,_,0,_,Κ,Κ,HF.of (s5 _ _ gtz),al (j:=0) Κ,x,_,_,Κ,X _ _ hx,Kc,x,n,N,⟨(g[p.1]).2,(p.2:Int),Α p.1,[]⟩,Κ,(A.same W X).j,RW,(show (0:Int)<=(p.2:Int)/\(p.2:Int)<(n:Int) by lia),λH6 U s6 hU6=>?_⟩
 have s8:=(X.trans s6).new (o:=.π (fF (N (aP ⟨(g[p.1]).2,(p.2:Int),Α p.1,[]⟩)))) hU6
 refine⟨U,_,Κ,.inl (HC.of ae),Κ,jv _,_,Κ,?_⟩
 show if (!(AH (.int (z.1:Int)) (nV (wl N [Α (g[p.1]).2,Α (p.2:Int),Α (p.1:Int)]))))=Γ then _ else _
 rw[rE,Ε D]
 exact au ⟨_,_,_,_,s8,Κ⟩
theorem AB:∀{a b:List Nat},iz a=iz b->a=b
 |[],[],_=>rfl
 |[],_:: _,h=>by cases h
 |_:: _,[],h=>by cases h
 | x:: a,y:: b,h=>by
  have d:=(ŝ h).1
  have c:=(ŝ h).2
  rw[AB c]
  grind
theorem Ao(h:F.Pairwise (· < ·)):Yd.J7 (Yd.Ic F 0) (Ϭ ((Yd.Ic F 0:Nat):Int))=F:=AB (lQ (vM h) λk=>Iff.rfl)
noncomputable def wz(n:Nat)(wy:Wf):bo->Nat
 |[Α (qp p),Α (qp g),Β]=>if p<n/\g<n then Yd.Ic (wy p g Β) 0 else 0
 |[Α (qp p),Α (qp g),Α (qp k)]=>if p<n/\g<n then Yd.Ic (wy p g (Α k)) 0 else 0
 |_=>0
theorem Ek(p g:Nat)(k:Option Nat):wz n wy (qT ((p:Int),(g:Int),k))=if p<n/\g<n then Yd.Ic (wy p g k) 0 else 0:=by
 cases k<;>rfl
theorem uC(h:wy k=0):wl wy k=[]:=by unfold wl;rw[h];rfl
theorem Rg.cast(h:Rg a rg rm)(c:b.ps=a.ps)(e:b.wy=a.wy):Rg b rg rm:=by
 refine⟨h.nd,λk d=>by rw[c];exact h.ln k d,by rw[c];exact h.rms,λl f=>h.pos l (by rw[←c];exact f),λk d=>by rw[c,e];exact h.go k d,λk d=>?_⟩
 have:=h.on k d
 unfold ff at this⊢
 rw[c,e]
 exact this
theorem xZ(f:rm.length=b.ps.length):Y0 ((rm.map λr:Nat=>(r:Int)).map V.int) b.n=dL b rg rm 0 (λ_=>0) []:=by
 unfold Y0 dL
 have a:(rm.map λr:Nat=>(r:Int)).map V.int=rm.map λr:Nat=>V.int (r:Int):=by rw[Ú];rfl
 rw[a]
 have c:(rm.map λr:Nat=>V.int (r:Int)).map rp=(Υ b.ps.length).map (sA rg rm λ_=>0):=by
  refine ū λj=>?_
  by_cases d:j<rm.length
  ·rw[cN _ (by lia),Ú,ώ,Λ d]
   show Α (Ie.mk ((rm[j]:Nat):Int) 0 Β [])=_
   have e:rm[j]=dA rm j:=by unfold dA;grind
   rw[e]
   unfold sA
   cases Dy rg j with
   |none=>rfl
   | some k =>
    unfold Av
    grind
  grind
 rw[c]
 rfl
theorem BJ{x:Nat}(a:(b.ps.getD (aD rg i).1 (0,0)).1=(x:Int)):
  dB (dL b rg rm i (λ_=>0) d) x ((aD rg i).2:Int) (dA rm (aD rg i).1:Int) 0=dL b rg rm (i+1) (λ_=>0) (d++[[.str "post",.int x,.int (aD rg i).2,.int (dA rm (aD rg i).1),.int 0]]):=by
 unfold dB dL
 dsimp only
 have e:((Υ i).map λk=>jo b rg rm k 0)++[⟨(x:Int),((aD rg i).2:Int),(dA rm (aD rg i).1:Int),0,0,[]⟩]=(Υ (i+1)).map λk=>jo b rg rm k 0:=by
  rw[É,Ϥ]
  have:jo b rg rm i 0=⟨(x:Int),((aD rg i).2:Int),(dA rm (aD rg i).1:Int),0,0,[]⟩:=by unfold jo;rw[a];rfl
  show _=_++[jo b rg rm i 0]
  rw[this]
 rw[e]
noncomputable def JX(TC:Ο)(J:TJ):fg:=λH x n wb=>∃(wy:Wf)(dx:Ο)(fs:Fs),J H x n wy/\H x=Α (.ρ TC dx fs)/\fs.lookup ("ways":Str)=Β/\∀p g k,p<n->g<n->nV (wy p g k)=fF (wb (qT ((p:Int),(g:Int),k)))
theorem WO{TC:Ο}(W:Wy K TC J):mX K TC (JX TC J):=
 ⟨W.cl,λH x n wb e=>by obtain⟨d,a,fs,h,b,c,_⟩:=e;exact⟨a,_,b,c⟩,λH g x n wb ⟨d,a,fs,h,b,c,f⟩ s=>⟨d,a,fs,W.IZ _ _ _ _ _ h (Hz.HM s),s _ _ b,c,f⟩⟩
theorem EL{TC:Ο}(G:Me P w K mg μ TC "ways" 3 kn (dq J)):
  Me P w K mg μ TC "ways" 3 kn (iF (JX TC J)):=
 let ⟨_,_,a,b,G⟩:=G.h;⟨_,_,a,b,G.imp λA H Q E h=>by
  obtain⟨x,n,wb,r,e,⟨m,B,fs,t,C,F,u⟩,c,d,q⟩:=h
  obtain⟨p,g,k,s⟩:=r
  obtain⟨p,rfl⟩:=NN c.1
  obtain⟨g,rfl⟩:=NN d.1
  have c:=ų.mp c.2
  have d:=ų.mp d.2
  refine⟨x,n,m,p,g,k,e,t,c,d,λD f s v y=>?_⟩
  have j:∀b,b≠D->(λb=>if b=D then Β else f b) b=f b:=λb i=>Η i
  have q:=q (λb=>if b=D then Β else f b) D (λb o l=>(j b (ai l v)).trans (s _ _ l)) (Θ Κ)
  have z:ο (λb=>if b=D then Β else f b) D (.π (fF (wb (aP ⟨(p:Int),(g:Int),k,[]⟩))))=f:=by
   funext b
   by_cases i:b=D
   ·rw[i,ae,y,u p g k c d];rfl
   ·rw[aj i];exact j b i
  exact z▸q⟩
abbrev uD(a:YA):bo->Nat:=wz a.n a.wy
structure K3(c:Cs)(TC:Ο)(J:TJ)(H:Hp)(a:YA):Prop where
 T:xE c TC J H a
 O:xK a
 ok:∀p∈a.ps,iK a.n p=Γ
 tw:Wr a.n a.ps a.wy
theorem K3.same{TC:Ο}(W:Wy K TC J)(h:K3 c TC J H a)(s:Hz H H'):K3 c TC J H' a:=⟨IM.keep W h.T (Hz.HM s),h.O,h.ok,h.tw⟩
theorem K3.lt{TC:Ο}(h:K3 c TC J H a)(d:p<a.n)(e:g<a.n)(f:z∈a.wy p g k):z<a.ps.length/\(a.ps.getD z (0,0)).1=(p:Int):=by
 have b:=(h.tw p g k d e).2.1 z f
 exact⟨GJ b,of_decide_eq_true (Ϫ.mp b).2⟩
section
theorem qg(h:Wr n ps wy)(a:p<n)(b:g<n):wl (wz n wy) (qT ((p:Int),(g:Int),k))=wy p g k:=by
 unfold wl
 rw[Ek,Θ ⟨a,b⟩]
 exact Ao (h p g k a b).1
theorem WQ(k:bo):wz n wy k=0∨∃(p g:Nat)(c:Option Nat),k=qT ((p:Int),(g:Int),c)/\p<n/\g<n:=by
 unfold wz
 split
 ·split
  ·next hc=>exact .inr ⟨_,_,Β,Κ,hc⟩
  ·exact .inl Κ
 ·split
  ·next hc=>exact .inr ⟨_,_,Α _,Κ,hc⟩
  ·exact .inl Κ
 ·exact .inl Κ
end
section
variable {c:Cs}{TC:Ο}{J:TJ}{H:Hp}{a:YA}
theorem K3.wb(h:K3 c TC J H a)(k:bo):∀z∈wl (uD a) k,z<a.ps.length:=λz b=>by
 rcases WQ k with e|⟨p,g,c,rfl,d,f⟩
 ·rw[uC e]at b;cases b
 ·rw[qg h.tw d f]at b
  exact(h.lt d f b).1
theorem K3.tab(h:K3 c TC J H a):Ir c TC (JX TC J) H a.tb a.lx a.HJ a.lt a.n a.HE a.ps (uD a):=by
 obtain⟨b,fs,d,e,f⟩:=h.T.i
 exact⟨⟨a.wy,b,fs,h.T.j,d,f,λp g k m o=>(congrArg nV (qg h.tw m o)).symm⟩,⟨b,fs,d,e⟩,h.T.l,h.T.Lw,h.T.few,h.wb,λk=>Í (dE _ _ ((Yd.JM _ _).imp λh=>ϳ h) (h.wb k)) h.T.few,h.ok⟩
theorem K3.st(h:K3 c TC J H a):DP (uD a) a.ps:=λp g z b=>by
 have b:z∈wl (wz a.n a.wy) (qT ((p:Int),(g:Int),Β)):=b
 by_cases d:p<a.n/\g<a.n
 ·rw[qg h.tw d.1 d.2]at b
  refine⟨(h.lt d.1 d.2 b).2,λe=>?_⟩
  rw[(h.tw p g Β d.1 d.2).2.2 e]at b
  cases b
 ·rw[uC (by rw[Ek,Η d])]at b
  cases b
theorem K3.end(h:K3 c TC J H a)(b:l<a.ps.length):∃e:Nat,(a.ps.getD l (0,0)).2=(e:Int)/\e<a.n:=by
 rw[dv b]
 exact h.O.ends l _ (Λ b)
theorem K3.on(h:K3 c TC J H a){l g:Nat}(d:l<a.ps.length)(f:g<a.n):cu (uD a) a.ps g l=ff a l g:=by
 obtain⟨e,i,j⟩:=h.end d
 unfold cu ff
 rw[i]
 by_cases b:(e:Int)=(g:Int)
 ·rw[Θ b,Θ b]
 ·rw[Η b,Η b,Τ]
  exact qg (k:=Α l) h.tw j f
end
noncomputable def Cq(a:YA)(p:Nat×Nat):Bool:=decide (p.1∈a.wy (bE a p.1) p.2 Β)&& decide ((a.wy (a.ps.getD p.1 (0,0)).2.toNat p.2 (Α p.1)).length=1)
inductive uN(c:Cs)(TC:Ο)(J:TJ)(vs:List V)(H:Hp)(Q:VK)(E:XK):Prop
 |mk (a:YA) (ra:Ο) (HR:List V) (rg:List (Nat×Nat)) (_:vs=[.ref a.tb,.ref ra]) (_:K3 c TC J H a) (_:P8 H a ra HR rg) (_:∀H',Hz H H'->Q (.bl (rg.all (Cq a))) H')
abbrev NPl:List Str:=["_law_table_here","_law_ring_here","_law_land","_law_lane","_law_goal"]
structure EnM(P:Program)(w:Å)(K:ϧ)(mg:Str->Option Φ)(μ:Ó)(c:Cs)(TC:Ο)(J:TJ):Prop where
 Gw:Me P w K mg μ TC "ways" 3 kn (dq J)
 Ge:Me P w K mg μ c.land "end_of" 1 eC (gm c Î)
 Gs:Me P w K mg μ c.land "start_of" 1 eC (gm c Ä)
theorem Be{a:Type}{f:a->Bool}{xs:List a}{x:a}(b:xs[i]?=Α x):(xs.take (i+1)).all f=((xs.take i).all f&& f x):=by
 rw[Ì,b,ŗ,List.all_append,OL,List.all_nil,Bool.and_true]
theorem xC{a:Type}{f:a->Bool}{xs:List a}{i:Nat}{x:a}(b:xs[i]?=Α x)(h:f x=Δ):xs.all f=Δ:=by
 cases e:xs.all f with
 |false=>rfl
 |true=>rw[ù.mp e x (Ψ b)]at h;cases h
theorem PD:aq NPl su (ag sQ):=bM
theorem zI{TC f:Ο}(F:HZ K "_law_plain" "_law_plain" sQ f fd)(T:dz mg)(L:i3 K c)(W:Wy K TC J)(M:EnM P w K mg μ c TC J):
  HB P w K mg μ aK 4 f fd su (uN c TC J):=by
 refine F.ok PD λ_ _ _ s H _ Q E C h=>?_
 obtain⟨a,R,HR,S,rfl,p,r,q⟩:=h
 refine⟨_,ac (bG 2 PD.nd (aR (pv 0)))
  (ac (eI (dU (pv 1)) (bO Κ (av (b9 3 PD.nd) (av (b9 4 PD.nd) bz)))
   (ac (aC (bJ (bV) (pv 3) (cE (pv 0) W.cl M.Gw C (aa (cE (pv 2) L.cl M.Gs C (aa (pv 3) ad)) (aa (pv 4) (aa aT ad))))) (af (ao bY)) ar)
   (af (aC (bJ dc (gq T.len (cE (pv 0) W.cl M.Gw C (aa (cE (pv 2) L.cl M.Ge C (aa (pv 3) ad)) (aa (pv 4) (aa (pv 3) ad))))) ah) (af (ao bY)) ar))))
  (af (ao bY))),?_⟩
 obtain⟨U,X,Y,hf,hw⟩:=p.T.i
 have Z:HR.length=S.length:=by rw[Paired.length r.l,Ρ]
 refine⟨_,_,U,X,_,Κ,Y,W.cl,W.nl,hf,R,Κ,⟨_,HF.of r.t⟩,?_⟩
 refine D6 (K:=K) (a:=R) (xs:=HR) (λi G I=>∃a3 a4:Option V,Hz H I/\(S.take i).all (Cq a)=Γ/\G=[Α (.ref a.tb),Α (.ref R),Α (.ref a.lx),a3,a4]) ⟨Β,Β,Hz.refl _,Κ,Κ⟩ (λi G I _ HD=>by obtain⟨_,_,s,_⟩:=HD;exact HF.of (s _ _ r.t)) ?_ ?_
 rotate_left
 ·rintro G I ⟨a3,a4,b,N,rfl⟩
  rw[Z,Æ]at N
  rw[N]at q
  exact q _ b
 rintro i v G I hv ⟨a3,a4,b,N,rfl⟩
 obtain⟨hi,u,rfl,gu⟩:=r.get hv
 obtain⟨d,y⟩:=r.ok i hi
 have m:=c6 hi
 generalize aD S i=z at gu d y m
 obtain⟨l,g⟩:=z
 have d:=d
 have y:=y
 have B1:=p.same W b
 obtain⟨x,Nw,JB,hxn⟩:=j8 (j7 p.ok) d
 obtain⟨e,he,Nb⟩:=p.end d
 have A:=Be (f:=Cq a) m
 rw[N,Ý]at A
 have Ke:=xC (f:=Cq a) m
 have o:Cq a (l,g)=(decide (l∈a.wy (bE a l) g Β)&& decide ((a.wy e g (Α l)).length=1)):=by unfold Cq;rw[he,Τ]
 rw[dv d]at he
 refine⟨u,_,Κ,HF.of (b _ _ gu),Κ,_,_,Κ,_,_,Κ,Κ,_,U,X,Κ,b _ _ Y,hw,_,_,_,Κ,B1.T.l.1,Κ,_,_,_,_,_,_,l,x,Κ,B1.T.l,Nw,?_⟩
 rw[JB]
 refine⟨_,_,_,_,g,Β,Κ,B1.T.j,hxn,y,λD H2 s2 hD gD=>?_⟩
 refine⟨D,_,Κ,.inl (HC.of gD),Κ,jv _,_,Κ,?_⟩
 rw[rE]
 by_cases O:l∈a.wy (bE a l) g Β
 rotate_left
 ·rw[Ζ O]
  rw[Ke (by rw[o,Ζ O];rfl)]at q
  exact az (q _ (b.trans s2))
 rw[Ε O]
 rw[Ε O,Ý]at o
 have MY:=b.trans s2
 have B2:=p.same W MY
 refine au ⟨a.tb,U,X,Κ,MY _ _ Y,hw,a.lx,a.HJ,_,Κ,B2.T.l.1,Κ,a.lx,a.HJ,a.lt,_,a.HE,a.ps,l,a.ps[l],Κ,B2.T.l,Λ d,?_⟩
 rw[he]
 refine⟨_,_,_,e,g,Α l,Κ,B2.T.j,Nb,y,λD2 H3 s3 JA P7=>⟨D2,_,Κ,.inl (HC.of P7),Κ,_,Κ,?_⟩⟩
 rw[aw]
 have B:=MY.trans s3
 by_cases h2:(a.wy e g (Α l)).length=1
 ·rw[Ε h2]at o
  rw[bR,Ε (show(((a.wy e g (Α l)).length:Nat):Int)=1 by lia)]
  exact au ⟨_,_,B,by rw[A,o],Κ⟩
 ·rw[Ζ h2]at o
  rw[bR,Ζ (show ¬(((a.wy e g (Α l)).length:Nat):Int)=1 by lia)]
  rw[Ke o]at q
  exact az (q _ B)
noncomputable def Dx(a:YA)(rg:List (Nat×Nat))(rm:List Nat)(k:Nat):û:=.tuple [.int (bE a (aD rg k).1),.int (aD rg k).2,.int (dA rm (aD rg k).1),.int 0]
theorem mz:∀{b:List V}{ks:List Nat},Paired (IQ H) b (ks.map (rq a rg rm))->ku K H b (ks.map (Dx a rg rm))
 |_,[],.nil =>.nil
 | _,_:: _,.cons ⟨_,e,g⟩ r=>by
  subst e
  exact .cons (.tup (HF.of g) (.cons (.int _) (.cons (.int _) (.cons (.int _) (.cons (.int _) .nil))))) (mz r)
theorem BL(a:YA)(c:List (Nat×Nat))(d:List Nat)(k:Nat):JE (Dx a c d k) 1:=by
 refine cT (m:=0) λz b=>?_
 simp only[À,Ñ,or_false]at b
 rcases b with rfl|rfl|rfl|rfl<;>exact cj _
theorem yJ(a:YA)(b:List (Nat×Nat))(c:List Nat)(ks:List Nat):JE (.list (ks.map (Dx a b c))) 2:=iY (m:=1) λz d=>by
 obtain⟨k,_,rfl⟩:=Â.mp d
 exact BL a b c k
structure WR(a:YA)(rg:List (Nat×Nat)):Prop where
 nd:(rg.map (·.1)).Nodup
 next:∀k,k<rg.length->(aD rg ((k+1)% rg.length)).1∈ff a (aD rg k).1 (aD rg k).2
theorem Ac(h:WR a rg)(c:k<rg.length):Df a rg k=Cq a (aD rg k):=by
 have b:=h.next k c
 unfold Df Cq
 congr 1
 unfold ff at b⊢
 by_cases e:(a.ps.getD (aD rg k).1 (0,0)).2=((aD rg k).2:Int)
 ·rw[Θ e]at b;cases b
 ·rw[Η e]at b⊢
  generalize a.wy (a.ps.getD (aD rg k).1 (0,0)).2.toNat (aD rg k).2 (Α (aD rg k).1)=l at b⊢
  refine decide_eq_decide.mpr ⟨λz=>by rw[z];rfl,λz=>?_⟩
  obtain⟨y,rfl⟩:=List.length_eq_one_iff.mp z
  rw[ϙ.mp b]
theorem GV(h:WR a rg):mV a rg=rg.all (Cq a):=by
 unfold mV
 rw[ri,ù,ù]
 constructor
 ·intro z x d
  obtain⟨k,c⟩:=ģ d
  have b:=(gQ0 c)
  have:=z k (Ϩ.mpr b)
  rw[Ac h b]at this
  rw[c6 b]at c
  grind
 ·intro z k c
  have b:=Ϩ.mp c
  rw[Ac h b]
  exact z _ (Ψ (c6 b))
theorem F1{TC:Ο}(f:K3 c TC J H a)(h:WR a rg)(ok:∀k,k<rg.length->(aD rg k).1<a.ps.length/\(aD rg k).2<a.n)(M:SD a rm)(b:mV a rg=Γ):
  Rg a rg rm/\∀k,k<rg.length->(aD rg k).2<a.n/\bE a (aD rg k).1≠(aD rg k).2:=by
 have d:∀k,k<rg.length->(aD rg k).1∈a.wy (bE a (aD rg k).1) (aD rg k).2 Β/\ff a (aD rg k).1 (aD rg k).2=[(aD rg ((k+1)% rg.length)).1]:=λk d=>by
  have:=ù.mp b k (Ϩ.mpr d)
  unfold Df at this
  grind
 refine⟨⟨h.nd,λk z=>(ok k z).1,M.len,M.pos,λk z=>(d k z).1,λk z=>(d k z).2⟩,λk z=>⟨(ok k z).2,λe=>?_⟩⟩
 obtain⟨_,_,_,i⟩:=j8 (j7 f.ok) (ok k z).1
 have g:=(d k z).1
 rw[(f.tw _ _ Β i (ok k z).2).2.2 e]at g
 cases g
inductive nq(c:Cs)(TC:Ο)(J:TJ)(vs:List V)(H:Hp)(Q:VK)(E:XK):Prop
 |mk (a:YA) (ra rr:Ο) (HR:List V) (rg:List (Nat×Nat)) (rm:List Nat) (_:vs=[.ref a.tb,.ref ra,.ref rr]) (_:K3 c TC J H a) (_:P8 H a ra HR rg) (_:WR a rg) (_:2<=rg.length) (_:H rr=Α (.π (wG rm))) (_:SD a rm) (_:∀H',Q (.bl Γ) H')
abbrev PSt:List Str:=["_law_table_here","_law_ring_here","_law_rooms_here"]
abbrev NLS:List Str:=["_law_table_here","_law_ring_here","_law_rooms_here","_law_told","_law_due","_law_yard","_law_begin","_law_goal","_law_length","_law_word","_law_move"]
structure StF(P:Program)(w:Å)(K:ϧ)(mg:Str->Option Φ)(μ:Ó)(c:Cs)(TC:Ο)(J:TJ)(ys:Ys)(fy:Ο)(dy:Đ):Prop where
 Go:Ca P w K mg μ "stand_of" 6 Ee (yf c TC J)
 Gl:Ca P w K mg μ "_law_plain" 4 su (uN c TC J)
 Gs:Me P w K mg μ c.land "start_of" 1 eC (gm c Ä)
 my:mg "Yard"=Α (.ref ys.HH)
 My:Mk K ys.HH fy
 P9:Binds K dy kq []
 Gy:HB P w K mg μ aK 4 fy dy kq (lg K c TC J (yx ys []))
 Gp:Me P w K mg μ ys.HH "post" 4 UY (sL K c TC J (yx ys []))
 Gm:Me P w K mg μ ys.HH "moves" 7 gj (oO K c TC J (yx ys []))
 Gd:Me P w K mg μ ys.HH "do" 8 kr (EZ K c TC J (yx ys []))
 Ge:Me P w K mg μ ys.HH "ended" 1 gj (kB K (yx ys []))
theorem Lr:aq NLS PSt (ag gG):=bM
theorem bkLS:IP NLS (ag gG) (pX (iL (aB gG) 3)) ["_law_table_here","_law_rooms_here"] [0,2]:=_L2.Jv
theorem WS:(["_law_lane","_law_goal","_law_table_here","_law_rooms_here"]:List Str).Nodup:=by decide +kernel
theorem tK{TC f fy:Ο}(F:HZ K "_law_stands" "_law_stands" gG f fd)(T:dz mg)(L:i3 K c)(Y:mG K (yx ys []))(W:Wy K TC J)
  (D:StF P w K mg μ c TC J ys fy dy):HB P w K mg μ aK 9 f fd PSt (nq c TC J):=by
 refine F.ok Lr λ_ _ _ s H _ Q E N h=>?_
 obtain⟨a,ra,rr,HR,rg,rm,rfl,G,hV,hL,h2,W9,hM,q⟩:=h
 have hu:=N.units
 have Ws:Il 5 _:=N.mono (by decide)
 refine⟨_,ac (bG 3 Lr.nd (bF D.Go N (aa (pv 0) (aa (pv 2) (aa (pv 1) ad)))))
  (ac (aC (ba (aQ (bF D.Gl N (aa (pv 0) (aa (pv 1) ad))))) (af (ao (vn jG (pv 3) aT))) ar)
  (ac (aC (PW.pt (c9 (ba (aQ (aH fK Κ T.O4 ϯ (aa (pv 3) (aa (du (v:=.ty "tuple") Κ T.tuple PySem.Pv.boot_tuple Κ) ad)))))
    (bT (bJ dc (gq T.len (pv 3)) ah)))) (af (ao bY)) ar)
  (ac (bU (i:=4) (own:=["_law_lane","_law_goal"]) (capN:=["_law_table_here","_law_rooms_here"]) (cap:=[0,2]) bkLS Κ Lr.nd Κ Κ (dU (pv 1))
   (λC s' R fp=>⟨(show PG _ _ (tW K 2 _) from bO Κ (av (b9 0 WS) (av (b9 1 WS) bz))),bu,aM (aa (cE (show PE _ _ (oK K (oJ 2) "land") from aR (pv 2)) L.cl D.Gs N (aa (pv 0) ad)) (aa (pv 1) (aa (be (show JQ _ (qO K) from HN) (pv 3) (pv 0)) (aa ah ad))))⟩))
  (ac (bG 5 Lr.nd (dr D.My D.Gy Ws Κ D.my D.P9 .nil cU (aa (pv 0) (aa (pv 2) ad))))
  (ac (eI (aL (pv 4)) (bO Κ (av (b9 6 Lr.nd) (av (b9 7 Lr.nd) (av (b9 8 Lr.nd) (av (b9 9 Lr.nd) bz)))))
   (af (aF (cE (pv 5) Y.cl D.Gp N (aa (pv 6) (aa (pv 7) (aa (pv 8) (aa (pv 9) ad))))))))
  (ac (eI (aL (be HA (pv 3) ah)) (b9 10 Lr.nd)
   (ac (aC (bJ (nA hu) (pv 10) (ji (pv 5) Y.cl D.Gm N)) (af (ao bY)) ar)
   (af (aF (cE (pv 5) Y.cl D.Gd N (aa (pv 10) ad))))))
  (af (ao (cv (vn (p8 hu) (be HA (pv 3) ah) (pv 4)) (cv (vn (p8 hu) (ji (pv 5) Y.cl D.Gm N) (aJ ad)) (cP (tD (ji (pv 5) Y.cl D.Ge N))))))))))))),?_⟩
 have Jj:=hV.few
 have hpl:HR.length=rg.length:=by rw[Paired.length hV.l,Ρ]
 have hcp:=GV hL
 have Lg:1<=rg.length:=by lia
 refine⟨a,_,_,_,_,_,Κ,G.T,G.O,G.ok,hV,Lg,W9,hM,λhb H1 s1=>?_,λhb t LL MM HQ Ik H1 s1 nt nL nM gt gL pL gM pM=>?_⟩
 ·refine⟨a,_,_,_,Κ,G.same W s1,hV.same s1,λH2 s2=>⟨_,Κ,?_⟩⟩
  rw[←hcp,hb]
  exact az ⟨Κ,q _⟩
 obtain⟨hG,hgo⟩:=F1 G hL hV.ok hM hb
 refine⟨a,_,_,_,Κ,G.same W s1,hV.same s1,λH2 s2=>⟨_,Κ,?_⟩⟩
 rw[←hcp,hb]
 have gt2:=s2 _ _ gt
 refine au (.inr (.inr (.inr ⟨t,_,Κ,HF.of gt2,_,Κ,au ?_⟩)))
 refine⟨t,_,Κ,.inr (HF.of gt2),Κ,_,Κ,?_⟩
 rw[bR,Ε (show(([V.ref LL,V.ref MM].length:Nat):Int)=2 from Κ)]
 refine au ?_
 have OG:=s1.trans s2
 refine⟨_,Κ,⟨_,HF.of (OG _ _ hV.t)⟩,?_⟩
 refine aW rg.length (by rw[ϊ];lia) (λi acc R=>Hz H2 R/\Paired (IQ R) acc (fG a rg rm i)) ⟨Hz.refl _,.nil⟩ (λi acc R h=>by rw[Paired.length h.2];unfold fG;grind) (λi acc R hi h=>?_) (λacc R h=>?_)
 ·obtain⟨sj,pj⟩:=h
  have s0j:=OG.trans sj
  have hVj:=hV.same s0j
  have Bj:=G.same W s0j
  refine⟨⟨HR,_,HF.of hVj.t,Λ (show i<HR.length by lia)⟩,λv Hj y=>?_⟩
  obtain⟨rfl,y⟩:=y
  have hv:=y _ (HF.of hVj.t)
  obtain⟨_,u,rfl,gu⟩:=hVj.get hv
  obtain⟨X,Y1⟩:=hV.ok i hi
  obtain⟨pr,hpr,Jh,OF⟩:=j8 (j7 G.ok) X
  obtain⟨dx,Io,hx,hf,hw⟩:=Bj.T.i
  refine⟨u,_,Κ,HF.of gu,Κ,_,_,Κ,_,_,Κ,Κ,_,_,_,_,_,Κ,hx,W.cl,W.nl,hf,_,_,_,Κ,Bj.T.l.1,Κ,_,_,_,_,_,_,_,_,Κ,Bj.T.l,hpr,_,_,_,_,Κ,Κ,HC.of (s0j _ _ W9),al (t8 (by rw[hM.len];exact X)),by show 4<=Χ;decide,λt9 ht9=>?_⟩
  rw[Jh]
  refine⟨sj.new ht9,?_⟩
  have e:fG a rg rm (i+1)=fG a rg rm i++[rq a rg rm i]:=by unfold fG;rw[É,Ϥ];rfl
  rw[e]
  exact Paired.snoc ⟨t9,Κ,ae⟩ (Paired.mono (λ_ _ z=>IQ.keep (Hz.HM ((Hz.refl Hj).new ht9)) z) pj)
 obtain⟨sj,pj⟩:=h
 refine⟨⟨HR,HF.of ((OG.trans sj) _ _ hV.t),by lia⟩,λS hDu=>?_⟩
 have sk:=sj.new (o:=.π acc) hDu
 have gk:=aX R S (.π acc)
 have pk:=Paired.mono (λ_ _ z=>IQ.keep (Hz.HM ((Hz.refl R).new (o:=.π acc) hDu)) z) pj
 generalize ο R S _=Hk at sk gk pk⊢
 have RN:acc.length=rg.length:=by rw[Paired.length pk];unfold fG;grind
 have WT:=s2.trans sk
 have s0k:=s1.trans WT
 have gtk:=sk _ _ gt2
 have gLk:=WT _ _ gL
 have gMk:=WT _ _ gM
 have grk:=s0k _ _ W9
 have pLk:=Paired.mono (λ_ _ z=>IQ.keep (Hz.HM WT) z) pL
 have pMk:=Paired.mono (λ_ _ z=>IQ.keep (Hz.HM WT) z) pM
 have Bk:=G.same W s0k
 refine(λy dy ny RA RB=>oB (oC (P:=P) (w:=w) (ys:=ys) (ex:=[]) W Bk.T G.O.few G.ok (HC.of (by rw[grk,zl])) hM.iz.1 hM.iz.2 G.T.few (λz M=>by cases M) y dy ny RA RB) λv Hy h=>⟨h.1,?_⟩)
 obtain⟨_,b,eb,e1,e2,e3,e4,sy,fr,hI,hJ⟩:=h
 injection eb with eb
 subst eb
 have Nd:=hG.cast e2 e4
 have fr4:∀{z:Ο}{o:HO},Hk z=Α o->z∉b.four:=λ{z o} M hm=>by grind
 have nDu:=fr4 gk
 have WA:=fr4 gLk
 have WC:=fr4 gMk
 have Nb:=e3
 rw[←Nb,xZ (rg:=rg) Nd.rms]at hI hJ
 clear pj sj G hV
 have in4:∀z:Ο,z∉b.four->z∉[b.le,b.dn]:=λz M h=>M (by grind)
 refine⟨S,Κ,⟨_,HC.of (sy _ _ gk)⟩,?_⟩
 refine b8 (K:=K) (a:=S) (xs:=acc) (λi Z B=>∃(a6 a7 a8 a9:Option V)(d:List (List V)),HY Hy B/\B LL=Α (.π HQ)/\B MM=Α (.π Ik)/\B S=Α (.π acc)/\Jk K (yx ys []) B b (dL b rg rm i (λ_=>0) d)/\IY b (dL b rg rm i (λ_=>0) d)/\d.length<=i/\Z=[Α (.ref a.tb),Α (.ref ra),Α (.ref rr),Α (.ref t),Α (.ref S),Α (.ref b.y),a6,a7,a8,a9,Β])
  ⟨Β,Β,Β,Β,[],Hz.HM (Hz.refl Hy),sy _ _ gLk,sy _ _ gMk,sy _ _ gk,hI.Y,hJ,Ξ _,Κ⟩ (λi Z B _ HD=>by obtain⟨_,_,_,_,_,_,_,_,g,_⟩:=HD;exact HC.of g) ?_ ?_
 ·rintro i v Z B hv ⟨a6,a7,a8,a9,d,k3,RS,Y4,KD,JN,Y5,hd3,rfl⟩
  have RD:i<rg.length:=by grind
  have hmi:(fG a rg rm rg.length)[i]?=Α (rq a rg rm i):=cN _ RD
  obtain⟨m',M8,t9,rfl,ht⟩:=Paired.at pk hv
  rw[hmi]at M8
  cases M8
  have ht3:B t9=Α (.tup (rq a rg rm i)):=k3 _ _ (sy _ _ ht) ϥ
  have X:=hG.ln i RD
  obtain⟨hg,hsg⟩:=hgo i RD
  obtain⟨pr,hpr,Jh,OF⟩:=j8 (j7 Bk.ok) X
  have Mf:xE c TC J B b:=IM.keep W hI.T k3
  refine⟨_,_,Κ,HF.of ht3,Κ,_,_,Κ,_,_,Κ,_,_,Κ,_,_,Κ,Κ,?_⟩
  have Oa:(dL b rg rm i (λ_=>0) d).Hw.length=i:=by show((Υ i).map _).length=i;grind
  have hp:=Nd.pos _ (Nd.ln i RD)
  have gd:=n8 (n:=b.n) (wy:=b.wy) (m:=(dL b rg rm i (λ_=>0) d).Hw.length) (a:=bE a (aD rg i).1) (b:=(aD rg i).2) (l:=(dA rm (aD rg i).1:Int)) (u:=0) (by lia) (by lia) ⟨by lia,by lia⟩ (by decide +kernel) hsg (by rw[e4];exact Ru (hG.go i RD)) (by lia)
  refine⟨_,_,_,Κ,JN.ρ,Κ,_,_,_,_,_,_,_,_,_,_,_,_,_,_,_,_,_,_,_,_,Κ,JN,Mf,.int _,.int _,.int _,.int _,by lia,by show d.length<=_;lia,(λh=>by grind),(λh=>by grind),(λh=>by grind),(λh=>by grind),(λh=>by grind),λ_ A o4 U=>?_⟩
  have PF:∀z∈[b.le,b.dn],∃xs,B z=Α (.π xs):=λz M=>by
   simp only[À,Ñ,or_false]at M
   rcases M with rfl|rfl
   ·exact JN.Kv _ (by simp)
   ·exact JN.Kv _ (by simp)
  have hx:(b.ps.getD (aD rg i).1 (0,0)).1=(bE a (aD rg i).1:Int):=by grind
  have U:Jk K (yx ys []) A b (dB (dL b rg rm i (λ_=>0) d) (bE a (aD rg i).1) ((aD rg i).2:Int) (dA rm (aD rg i).1:Int) 0):=U
  have PH:=Y5.post (x:=bE a (aD rg i).1) (y:=(aD rg i).2) (l:=(dA rm (aD rg i).1:Int)) (u:=0) (by lia) (by lia) ⟨by lia,by lia⟩ (by lia)
  rw[BJ hx]at U PH
  exact⟨_,_,_,_,_,HY.trans k3 (HP.HM PF o4),o4 _ _ (in4 _ WA) RS,o4 _ _ (in4 _ WC) Y4,o4 _ _ (in4 _ nDu) KD,U,PH,by grind,Κ⟩
 rintro Z B ⟨a6,a7,a8,a9,d,k3,RS,Y4,KD,JN,Y5,hd3,rfl⟩
 rw[RN]at JN Y5 hd3
 have Sk:B t=Α (.tup [.ref LL,.ref MM]):=k3 _ _ (sy _ _ gtk) ϥ
 refine⟨t,_,1,_,Κ,Κ,HF.of Sk,al (j:=1) Κ,_,Κ,⟨_,HC.of Y4⟩,?_⟩
 have Pg:Ik.length=(cF rg rm rg.length).length:=by rw[Paired.length pMk,Ρ]
 have hmle:=lK (rg:=rg) (rm:=rm) (m:=rg.length) λk hk=>(hG.pos _ (hG.ln k hk)).2
 refine b8 (K:=K) (a:=MM) (xs:=Ik) (λt' Z A=>∃(Mo:Option V)(d:List (List V)),HY B A/\A LL=Α (.π HQ)/\A MM=Α (.π Ik)/\A S=Α (.π acc)/\Jk K (yx ys []) A b (dL b rg rm rg.length (dk ((cF rg rm rg.length).take t')) d)/\IY b (dL b rg rm rg.length (dk ((cF rg rm rg.length).take t')) d)/\d.length<=40+t'/\Z=[Α (.ref a.tb),Α (.ref ra),Α (.ref rr),Α (.ref t),Α (.ref S),Α (.ref b.y),a6,a7,a8,a9,Mo])
  ⟨Β,d,Hz.HM (Hz.refl B),RS,Y4,KD,JN,Y5,by lia,Κ⟩ (λt' Z A _ HD=>by obtain⟨_,_,_,_,g,_⟩:=HD;exact HC.of g) ?_ ?_
 ·rintro t' v Z A hv ⟨Mo,I,k4,SE,WD,WU,U,PH,hd4,rfl⟩
  have ht:t'< (cF rg rm rg.length).length:=by grind
  obtain⟨k,hk,hmk,hck,hcn⟩:=AY (Λ ht)
  obtain⟨m',M8,tv,rfl,htv⟩:=Paired.at pMk hv
  rw[ώ,Λ ht,hmk]at M8
  cases M8
  have WV:A tv=Α (.tup (dY (.IB k (aD rg k).1))):=k4 _ _ (k3 _ _ (sy _ _ htv) ϥ) ϥ
  have Mg:xE c TC J A b:=IM.keep W hI.T (HY.trans k3 k4)
  have Ot:Nv K c TC J (yx ys []) A b (dL b rg rm rg.length (dk ((cF rg rm rg.length).take t')) I):=⟨U,Mg,hI.O,PH.ok⟩
  have JF:=Cd Nd (f:=dk ((cF rg rm rg.length).take t')) (d:=I) hk hck
  refine⟨_,_,_,Κ,U.ρ,Κ,b,_,Κ,Ot,λDm mvs5 H5 s5 hDm SG hp5=>?_⟩
  refine⟨_,_,_,_,Κ,uc _ (s5 _ _ WV),HC.of SG,jx hp5,(j9 _).le (by decide),λz M=>by obtain⟨m',_,rfl⟩:=Â.mp M;exact(j9 m').le (by decide),_,Κ,?_⟩
  rw[Bd JF]
  refine au ?_
  have PJ:=Ot.same W s5
  refine⟨_,_,_,Κ,PJ.Y.ρ,Κ,b,_,_,.IB k (aD rg k).1,Κ,PJ,s5 _ _ WV,JF,PH.sml (by show I.length<=_;lia),λH6 s' Jh o6 hY6=>?_⟩
  have es:=Cb Nd hk hck Jh
  have hJ6:=(PH.step Jh).done (I++[dY (.IB k (aD rg k).1)])
  rw[es,←hcn]at hY6 hJ6
  exact⟨_,I++[dY (.IB k (aD rg k).1)],HY.trans k4 (HY.trans (Hz.HM s5) (HP.HM (λz M=>PJ.Y.Kv z M) o6)),o6 _ _ WA (s5 _ _ SE),o6 _ _ WC (s5 _ _ WD),o6 _ _ nDu (s5 _ _ WU),hY6,hJ6,by grind,Κ⟩
 rintro Z A ⟨Mo,I,k4,SE,WD,WU,U,PH,hd4,rfl⟩
 rw[Pg,Æ]at U PH
 have hcf:∀k,k<rg.length->dk (cF rg rm rg.length) k=dA rm (aD rg k).1:=λk hk=>by rw[pV,Θ hk]
 have IW:=F0 Nd (d:=I) hcf
 have hopen:=Cc Nd (dk (cF rg rm rg.length)) I Lg
 have k34:=HY.trans k3 k4
 have Ot:Nv K c TC J (yx ys []) A b (dL b rg rm rg.length (dk (cF rg rm rg.length)) I):=⟨U,IM.keep W hI.T k34,hI.O,PH.ok⟩
 have Vk:(dL b rg rm rg.length (dk (cF rg rm rg.length)) I).Hw.length=rg.length:=by show((Υ _).map _).length=_;grind
 have hle2:(dL b rg rm rg.length (dk (cF rg rm rg.length)) I).ε.length=b.n:=by show(Ϗ b.n _).length=_;grind
 have Rj:=Ot.T.Lw
 generalize dL b rg rm rg.length (dk (cF rg rm rg.length)) I=s9 at*
 have ky:=HY.trans (Hz.HM sy) k34
 have pL4:=Paired.mono (λ_ _ z=>IQ.keep ky z) pLk
 have pD4:=Paired.mono (λ_ _ z=>IQ.keep ky z) pk
 have Vb:A t=Α (.tup [.ref LL,.ref MM]):=k4 _ _ Sk ϥ
 refine⟨t,_,0,_,Κ,Κ,HF.of Vb,al (j:=0) Κ,eqS (d:=.list ((Υ rg.length).map (Dx a rg rm))) (.π (HC.of SE) (mz pL4)) (.π (HC.of WU) (mz pD4)) ((yJ _ _ _ _).le (by decide)) ⟨_,Κ,az ?_⟩⟩
 refine⟨b.y,b.dy,_,Κ,Ot.Y.ρ,Κ,b,s9,Κ,Ot,λDm mv7 H7 s7 hDm SG hp7=>⟨ϡ _,λe0 RV=>?_⟩⟩
 have s8:=s7.new (o:=.π []) RV
 have g8:=aX H7 e0 (.π [])
 have gD8:=cf SG RV (.π [])
 have hp8:=Paired.mono (λ_ _ z=>IQ.keep (Hz.HM ((Hz.refl H7).new (o:=.π []) RV)) z) hp7
 generalize ο H7 e0 _=H8 at s8 g8 gD8 hp8⊢
 refine eqN (f:=wZ) (l:=bK b s9) (.π (HC.of gD8) (jx hp8)) (.π (HC.of g8) .nil) (ve _) ⟨_,Κ,?_⟩
 rw[IW]
 have hI8:=Ot.same W s8
 refine az ⟨b.y,b.dy,_,Κ,hI8.Y.ρ,Κ,b.y,b.dy,b.tb,b.ro,b.la,b.le,b.li,b.dn,s9,Κ,hI8.Y,by lia,by lia,λH9 s9'=>⟨_,Κ,?_⟩⟩
 grind
theorem GH(S:List Nat):(iz S).map Ŏ=S:=by
 unfold iz
 rw[Ú]
 conv=>rhs;rw[←List.map_id S]
 refine đ λz _=>?_
 exact Τ z
theorem kK(S:List Nat)(l:Nat):(iz S).getD l 0=((S.getD l 0:Nat):Int):=by
 unfold iz
 rw[Ω,Ω,ώ]
 cases S[l]?<;>rfl
theorem tY(b:nums.length=ps.length)(h:S.length=ps.length)(i:∀z∈S,z<2^n)(j:∀p g:Nat,p<n->g<n->∀z∈wl wy [Α (p:Int),Α (g:Int),Β],eD S z g=Γ)
  (m:∀l g:Nat,l<ps.length->eD S l g=Γ->¬(ps.getD l (0,0)).2=(g:Int)->cu wy ps g l≠[]/\∀z∈cu wy ps g l,eD S z g=Γ/\nums.getD l 0<nums.getD z 0):mq wy ps n nums (iz S)=Β:=by
 have c:jU ps.length n nums (iz S)=Γ:=by
  unfold jU
  rw[Ε b,Ý,Ε (by unfold iz;rw[Ρ];exact h),Ý,ù]
  intro s o
  obtain⟨z,a,rfl⟩:=Â.mp o
  have:=i z a
  refine Ε ⟨by lia,?_⟩
  rw[Τ,one_mul,show (2:Int)^n=((2^n:Nat):Int) by rw[L3];rfl]
  lia
 unfold mq
 rw[c,Θ Κ,GH]
 have q:dF wy n S=Β:=by
  unfold dF
  rw[ò]
  intro z a
  obtain⟨p,g,rfl,r,d⟩:=lP a
  unfold Yj
  rw[ò]
  intro l e
  rw[Θ (by show eD S l ((g:Int)).toNat=Γ;rw[Τ];exact j p g r d l e)]
 have t:eX wy ps nums S ps.length=Β:=by
  unfold eX
  rw[ò]
  intro l e
  unfold vJ
  rw[ò]
  intro g d
  have u:=(Yd.Iz (Yd.Jf _)).mp d
  by_cases f:(g:Int)=(ps.getD l (0,0)).2
  ·rw[Θ f]
  ·rw[Η f]
   obtain⟨v,w⟩:=m l g (Ϩ.mp e) u (λz=>f z.symm)
   unfold n9
   rw[Η v,ò]
   intro z a
   obtain⟨x,y⟩:=w z a
   unfold iR
   rw[x,Θ Κ,Η (by lia)]
 rw[q,t]
 rfl
theorem qS(b:∀k,∀z∈wl wy k,z<ps.length)(h:mH (cu wy ps) (tV (bW wy ps n n)) ps.length N)(d:dH wy ps n=Β):mq wy ps n (iz N) (iz (bW wy ps n n))=Β:=by
 have i:=iN wy ps n n (Ξ _)
 refine tY (by unfold iz;rw[Ρ];exact h.len) (eK _ _ _ _) i (λp g m o z a=>e9 o (b _ z a) (nY b m a)) λl g j c r=>?_
 have f:=ui i c
 have q:=dZ c
 refine⟨λe=>?_,λz a=>⟨e9 f (lG b g l z a) (qo b q a),?_⟩⟩
 ·unfold dH at d
  rw[Ď]at d
  refine d (l,g) (JP.mpr ⟨j,c⟩) ?_
  unfold eM
  grind
 ·have:=h.up l g z j (lG b g l z a) (Jd.mpr c) a
  rw[kK,kK]
  lia
inductive qu(c:Cs)(C:Ο)(J:fg)(vs:List V)(H:Hp)(Q:VK)(E:XK):Prop
 |mk (x lx HJ lt pa na sa:Ο) (n:Nat) (HE:List V) (ps:IPs) (wy:bo->Nat) (N:List Nat) (_:vs=[.ref x,.ref pa]) (_:Ir c C J H x lx HJ lt n HE ps wy) (_:H pa=Α (.tup [.ref na,.ref sa])) (_:H na=Α (.tup (nV N))) (_:H sa=Α (.tup (nV (bW wy ps n n)))) (_:mH (cu wy ps) (tV (bW wy ps n n)) ps.length N) (_:dH wy ps n=Β) (_:∀H',Hz H H'->Q (.bl Γ) H')
abbrev NPa:List Str:=["_law_table_here","_law_paper_here","_law_numbers","_law_sets","_law_lane","_law_end","_law_goal","_law_ways","_law_low"]
noncomputable def ifSt(s:ϩ)(k:Nat):ϩ:=match s with
 |.If _ b _ _=>iL b k
 |s=>s
theorem E9(a:dH wy ps n=Β)(b:l<ps.length)(c:((bW wy ps n n).getD l 0).testBit g=Γ)(d:¬(ps.getD l (0,0)).2=(g:Int)):cu wy ps g l≠[]:=λe=>by
 unfold dH at a
 rw[Ď]at a
 refine a (l,g) (JP.mpr ⟨b,c⟩) ?_
 unfold eM
 grind
theorem LI:aq NPa Ed (ag jd):=bM
theorem bkPa:IP NPa (ag jd) (pX (ifSt (iL (jO (iL (jO (iL (aB jd) 2)) 1)) 0) 1)) ["_law_numbers","_law_lane"] [2,4]:=_L2.Jv
theorem ndPa:(["_law_way","_law_numbers","_law_lane"]:List Str).Nodup:=by decide +kernel
theorem wV(F:HZ K "_law_paper" "_law_paper" jd f fd)(T:dz mg)(L:i3 K c)(W:mX K C J)(B:Y3 P w K mg μ c C J)
  (Gf:Ca P w K mg μ "fault" 7 Ec (uZ K c C J)):
  HB P w K mg μ aK 8 f fd Ed (qu c C J):=by
 refine F.ok LI λ_ _ _ s H _ Q E hr h=>?_
 obtain⟨x,O,R,lt,pa,e,sa,n,HE,a,d,N,rfl,b,gp,S,gs,hN,K0,q⟩:=h
 have hu:=hr.units
 have h40:=b.few
 have Rj:=b.Lw
 have X:=hN.len
 refine⟨_,ac (gN (pv 1) (bO Κ (av (jj (i:=2) LI.nd Κ (ń Κ)) (av (b9 3 LI.nd) bz))))
  (ac (aC (PW.pt (c9 (bJ iu (bF Gf hr (aa (pv 0) (aa (pv 1) ad))) aT)
    (bT (bJ dc (gq T.len (pv 2)) (aH dg Κ T.len PySem.boot_len (aa (aR (aR (pv 0))) ad)))))) (af (ao bY)) ar)
  (ac (eI (aE Κ T.range (aa (gq T.len (pv 2)) ad)) (jj (i:=4) LI.nd Κ (ń Κ))
   (ac (bG 5 LI.nd (cE (aR (pv 0)) L.cl B.Ge hr (aa (pv 4) ad)))
   (af (eI (aE Κ T.range (aa (aR (aR (pv 0))) ad)) (b9 6 LI.nd)
    (af (aC (PW.pt (lA (bJ br (aA tI (aA p5 (be HA (pv 3) (pv 4)) (pv 6)) ah) ah) (jh (bJ dc (pv 6) (pv 5)))))
     (ac (bG 7 LI.nd (cE (pv 0) W.cl B.Gw hr (aa (pv 5) (aa (pv 6) (aa (pv 4) ad)))))
     (ac (bU (i:=8) (own:=["_law_way"]) (capN:=["_law_numbers","_law_lane"]) (cap:=[2,4]) bkPa Κ LI.nd Κ Κ (aL (pv 7))
      (λC s' H' fp=>⟨b9 0 ndPa,c7 (bJ nB (be (show JQ _ (ki K) from HA) (pv 1) (pv 0)) (be (show JQ _ (ki K) from HA) (pv 1) (pv 2))),pv 0⟩))
     (af (aC (PW.pt (c9 (bJ (zB hu) (pv 7) (aJ ad)) (bT (bJ (tG hu) (pv 8) (aJ ad))))) (af (ao bY)) ar)))) ar))))))
  (af (ao bY)))),?_⟩
 obtain⟨dx,fs,Y,hf⟩:=b.i
 obtain⟨KI,RU,IF,Kc⟩:=W.inst _ _ _ _ b.j
 rw[Y]at IF
 injection IF with IF
 injection IF with _ e1 e2
 subst e1 e2
 refine⟨_,_,Κ,HF.of gp,Κ,_,_,Κ,_,_,Κ,Κ,?_⟩
 have Lp:=eK d a n n
 have eS:∀{N:List Nat},nV N=(iz N).map V.int:=λ{N}=>fV N
 refine⟨x,O,R,_,_,e,_,n,_,a,d,_,_,Κ,b,gp,.inr (by rw[←eS];exact HF.of S),.inr (by rw[←eS];exact HF.of gs),by unfold iz;grind,λv H1 Z hv=>?_⟩
 rw[qS b.ok hN K0]at hv
 have hv:=hv
 subst hv
 have Ql:=b.same W Z
 have Kt:=Paired.length b.l.2.2
 refine⟨Κ,_,Κ,au ⟨e,_,Κ,.inr (HF.of (Z _ _ S)),x,C,dx,fs,_,Κ,Z _ _ Y,W.cl,B.nl,hf,O,c.land,R,_,_,Κ,Ql.l.1,L.cl,L.nl,Κ,lt,_,Κ,.inr (HF.of Ql.l.2.1),Κ,_,Κ,?_⟩⟩
 rw[bR,aw,X,Kt,Ε Κ]
 refine au ?_
 refine⟨e,_,Κ,.inr (HF.of (Z _ _ S)),_,Κ,by grind,by rw[aw];lia,?_⟩
 rw[aw,X,Τ]
 refine aS (n:=a.length) (λi m H4=>∃a4 a5 r t u:Option V,Hz H H4/\m=[Α (.ref x),Α (.ref pa),Α (.ref e),Α (.ref sa),a4,a5,r,t,u])
  ⟨Β,Β,Β,Β,Β,Z,Κ⟩ ?_ ?_
 rotate_left
 ·rintro m H4 ⟨a4,a5,r,t,u,y,rfl⟩
  exact q _ y
 rintro l m H4 A ⟨a4,a5,r,t,u,y,rfl⟩
 rw[Õ]
 have Mg:=b.same W y
 have RW:=(SF (b.pk _ (ã A))).2.1
 refine⟨x,C,_,_,_,Κ,y _ _ Y,W.cl,B.nl,hf,O,R,_,Κ,Mg.l.1,Κ,O,R,_,_,_,a,l,_,Κ,Mg.l,Λ A,x,C,_,_,_,Κ,y _ _ Y,W.cl,B.nl,hf,O,_,R,_,_,Κ,Mg.l.1,L.cl,L.np,Κ,_,Κ,by lia,by lia,?_⟩
 rw[Τ]
 refine aS (n:=n) (λi m H5=>∃r t u:Option V,Hz H H5/\m=[Α (.ref x),Α (.ref pa),Α (.ref e),Α (.ref sa),Α (.int (l:Int)),Α (.int (a[l]).2),r,t,u])
  ⟨_,_,_,y,Κ⟩ ?_ ?_
 rotate_left
 ·grind
 rintro g m H5 hg ⟨r,t,u,G,rfl⟩
 rw[Õ]
 have hT5:=b.same W G
 refine⟨_,_,_,_,Κ,Κ,HF.of (G _ _ gs),al (fW (p:=l) (by lia)),_,_,Κ,Κ,(show (0:Int)<=(g:Int) by lia),_,_,Κ,Κ,Κ,_,Κ,?_⟩
 dsimp only
 rw[Vr]
 cases hb:((bW d a n n).getD l 0).testBit g with
 |false=>exact au ⟨_,_,_,G,Κ⟩
 | true =>
  refine az ⟨Κ,_,Κ,?_⟩
  rw[bR]
  by_cases IW:(g:Int)=(a[l]).2
  ·rw[Ε IW]
   exact au ⟨_,_,_,G,Κ⟩
  rw[Ζ IW]
  have Ij:¬(a.getD l (0,0)).2=(g:Int):=by grind
  have KQ:=E9 K0 A hb Ij
  have Y6:∀z∈cu d a g l,z<a.length/\N.getD l 0<N.getD z 0:=λz hz=>⟨lG b.ok g l z hz,hN.up l g z A (lG b.ok g l z hz) (Jd.mpr hb) hz⟩
  unfold cu at KQ Y6
  rw[dv A]at Ij
  rw[dv A,Η Ij]at KQ Y6
  refine az ⟨x,dx,fs,Κ,G _ _ Y,Kc,x,n,d,⟨(a[l]).2,(g:Int),Α l,[]⟩,Κ,hT5.j,RW,(show (0:Int)<=(g:Int)/\(g:Int)<(n:Int) by lia),λH6 U s6 hU=>?_⟩
  rw[show fF (d (aP ⟨(a[l]).2,(g:Int),Α l,[]⟩))=nV (wl d [Α (a[l]).2,Α (g:Int),Α (l:Int)]) from Κ]
  have hlen:(wl d [Α (a[l]).2,Α (g:Int),Α (l:Int)]).length<=40:=b.nr _
  generalize wl d [Α (a[l]).2,Α (g:Int),Α (l:Int)]=I at KQ Y6 hlen⊢
  have s7:=(G.trans s6).new (o:=.π (nV I)) hU
  have gU:=aX H6 U (.π (nV I))
  generalize ο H6 U _=H7 at s7 gU⊢
  refine⟨U,Κ,⟨_,HC.of gU⟩,oh (xs:=I) (λ_=>Δ) (by rw[ϊ];lia) (HC.of gU) (λz acc M hz h=>?_) (λD hD=>?_)⟩
  ·obtain⟨h1,h2⟩:=Y6 z hz
   refine⟨e,_,_,_,Κ,Κ,HF.of (s7 _ _ S),al (fW (p:=z) (by lia)),e,_,_,_,Κ,Κ,HF.of (s7 _ _ S),al (fW (p:=l) (by lia)),_,_,Κ,Κ,_,Κ,?_⟩
   grind
  rw[show I.filter (λ_=>Δ)=[] from ō.mpr λ_ _=>by decide]
  have s8:=s7.new (o:=.π (c8 [])) hD
  have gD:(ο H7 D (.π (c8 []))) D=Α (.π (([]:List Int).map V.int)):=ae
  have gU8:(ο H7 D (.π (c8 []))) U=Α (.π ((iz I).map V.int)):=by rw[aj (ai gU hD),gU,eS]
  generalize ο H7 D _=H8 at s8 gD gU8⊢
  refine⟨ϡ _,λo1 V6=>⟨U,o1,_,[],Κ,Κ,HC.of (cf gU8 V6 _),HC.of ae,_,Κ,?_⟩⟩
  rw[Ζ (λz=>KQ (RT.mp z))]
  have s9:=s8.new (o:=.π []) V6
  have gD9:=cf gD V6 (.π [])
  generalize ο H8 o1 _=H9 at s9 gD9⊢
  refine au ⟨ϡ _,λo2 KJ=>⟨D,o2,[],[],Κ,Κ,HC.of (cf gD9 KJ _),HC.of ae,_,Κ,?_⟩⟩
  rw[Ε Κ]
  exact au ⟨_,_,_,s9.new KJ,Κ⟩
inductive yl(K:ϧ)(c:Cs)(TC:Ο)(J:TJ)(ys:Ys)(vs:List V)(H:Hp)(Q:VK)(E:XK):Prop
 |mk (a:YA) (s:YS) (bg cs:Ο) (Jl:List V) (bs:IPs) (ns:List Int) (_:vs=[.ref a.y,.ref bg,.ref cs]) (_:Jk K ys H a s) (_:xE c TC J H a) (_:IY a s) (_:H bg=Α (.π Jl)) (_:HW H Jl bs) (_:kH a bs) (_:bs.length<=1000) (_:bg∉a.four) (_:H cs=Α (.π (ns.map V.int))) (_:cs∉a.four) (_:ns.length<=10) (_:s.Hw.length+ns.length<=59) (_:s.done.length<=9000) (_:∀(H':Hp)(s':YS),HP [a.le,a.dn] H H'->Jk K ys H' a s'->IY a s'->Of a s s'->(OE a s->OE a s')->s'.Hw.length<=s.Hw.length+ns.length->s'.done.length<=s.done.length+ns.length->Q .HU H')
abbrev NLp:List Str:=["_law_yard","_law_begins_here","_law_cells","_law_cell","_law_start","_law_goal"]
theorem PK:aq NLp Eb (ag oY):=bM
theorem CC{TC f:Ο}(F:HZ K "_law_posts" "_law_posts" oY f fd)(T:dz mg)(Y:mG K ys)(W:Wy K TC J)
  (Gp:Me P w K mg μ ys.HH "post" 4 UY (sL K c TC J ys)):
  HB P w K mg μ aK 5 f fd Eb (yl K c TC J ys):=by
 refine F.ok PK λ_ _ _ s H _ Q E hr h=>?_
 obtain⟨a,st,M,N,r,bs,Z,rfl,hY,hT,hJ,gbg,WW,Y7,Wu,nbg,A,ncs,hnl,Rh,hdl0,q⟩:=h
 have hu:=hr.units
 refine⟨_,af (eI (aL (pv 2)) (b9 3 PK.nd)
  (af (aC (bJ (p6 hu) (pv 1) (aJ ad))
   (ac (gN (be HN (pv 1) (aA bQ (aA fU (pv 3) ah) (gq T.len (pv 1)))) (bO Κ (av (b9 4 PK.nd) (av (b9 5 PK.nd) bz))))
   (af (aF (cE (pv 0) Y.cl Gp hr (aa (pv 4) (aa (pv 5) (aa (aA cQ ah (aA bQ (pv 3) ah)) (aa (aA bQ (aA fU (pv 3) ah) (aA tF ah ah)) ad)))))))) ar))),?_⟩
 refine⟨N,Κ,⟨_,HC.of A⟩,?_⟩
 refine b8 (K:=K) (a:=N) (xs:=Z.map V.int) (λi O j=>∃(a4 a5 a6:Option V)(e:YS),HP [a.le,a.dn] H j/\j N=Α (.π (Z.map V.int))/\j M=Α (.π r)/\Jk K ys j a e/\IY a e/\Of a st e/\(OE a st->OE a e)/\e.Hw.length<=st.Hw.length+i/\e.done.length<=st.done.length+i/\O=[Α (.ref a.y),Α (.ref M),Α (.ref N),a4,a5,a6])
  ⟨Β,Β,Β,st,Hz.Iv (Hz.refl H),A,gbg,hY,hJ,.nil,id,by lia,by lia,Κ⟩ (λi O j _ HD=>by obtain⟨_,_,_,_,_,g,_⟩:=HD;exact HC.of g) ?_ ?_
 rotate_left
 ·rintro O j ⟨a4,a5,a6,e,B,_,_,Lx,R,S,U,h1,h2,rfl⟩
  rw[Ρ]at h1 h2
  exact q j e B Lx R S U h1 h2
 rintro i v O j hv ⟨a4,a5,a6,e,B,g2,C,Lx,R,S,U,h1,h2,rfl⟩
 have hi:i<Z.length:=by have:=(gQ0 hv);rw[Ρ]at this;exact this
 obtain⟨d,rfl⟩:∃d,v=V.int d:=by
  rw[ώ,Λ hi]at hv
  exact⟨_,(ϋ hv).symm⟩
 have PF:∀b∈[a.le,a.dn],∃xs,H b=Α (.π xs):=λb hb=>by
  simp only[À,Ñ,or_false]at hb
  rcases hb with rfl|rfl
  ·exact hY.Kv _ (by simp)
  ·exact hY.Kv _ (by simp)
 have hT2:=IM.keep W hT (HP.HM PF B)
 have D:=(HP.HM PF B).MU WW
 have hbv:=Paired.length WW
 have G:∀z:Ο,z∉a.four->z∉[a.le,a.dn]:=λz hz h=>hz (by simp only[À,Ñ,or_false]at h⊢;rcases h with h|h<;>simp[h])
 refine⟨ϡ _,λo7 Yx=>?_⟩
 have p:=(Hz.refl j).new (o:=.π []) Yx
 have g7:=aX j o7 (.π [])
 generalize ο j o7 _=H4 at p g7⊢
 have LK:=HV.same Lx p
 have o4:=B.trans (Hz.Iv p)
 have WY:=HW.same p D
 refine neN (f:=vw) (l:=bs) (.π (HC.of (p _ _ C)) (mx WY)) (.π (HC.of g7) .nil) (wD _) ⟨_,Κ,?_⟩
 cases hbe:bs.isEmpty with
 |true=>exact au ⟨_,_,_,e,o4,p _ _ g2,p _ _ C,LK,R,S,U,by lia,by lia,Κ⟩
 |false =>
 have Kq:0<r.length:=by
  rw[hbv]
  cases bs with
  |nil=>cases hbe
  |cons _ _=>exact Y9 _
 have np:(0:Int)<((r.length:Nat):Int):=by lia
 have z1:=Į (d / 4) (show((r.length:Nat):Int)≠0 by lia)
 have z2:=Ĕ (d / 4) np
 obtain⟨k,hk,hkm⟩:∃k:Nat,d / 4% ((r.length:Nat):Int)=(k:Int)/\k<r.length:=⟨(d / 4% ((r.length:Nat):Int)).toNat,by lia,by lia⟩
 have t:=Λ hkm
 obtain⟨pr,hpr,pt,hpe,K1⟩:=Paired.at WY t
 rw[hpe]at t
 obtain⟨a',b',rfl,I,Yq,Rq,hw⟩:=Y7 pr (Ψ hpr)
 refine az ⟨_,_,Κ,Κ,⟨by decide,by decide⟩,M,_,Κ,.inl (HC.of (p _ _ C)),_,_,Κ,Κ,np,M,r,(k:Int),.ref pt,Κ,congrArg V.int hk,HC.of (p _ _ C),al t,pt,_,Κ,HF.of K1,Κ,_,_,Κ,_,_,Κ,Κ,?_⟩
 refine⟨_,_,_,Κ,LK.ρ,Κ,_,_,Κ,Κ,(by show (0:Int)<4;decide),_,_,Κ,Κ,_,_,Κ,Κ,⟨by decide,by decide⟩,_,_,Κ,Κ,⟨by decide,by decide,by decide⟩,_,_,Κ,Κ,(by show (0:Int)<10^(60:Int).toNat;decide +kernel),?_⟩
 have w1:=Į (d / 4) (show(10^(60:Int).toNat:Int)≠0 by decide +kernel)
 have w2:=Ĕ (d / 4) (show (0:Int)<10^(60:Int).toNat by decide +kernel)
 have l1:=Į d (show (4:Int)≠0 by decide)
 have l2:=Ĕ d (show (0:Int)<4 by decide)
 dsimp only
 generalize d / 4% 10^(60:Int).toNat=X at w1 w2⊢
 have hwd:Sl (.int X)=Γ:=by
  unfold Sl
  exact Ε (by rw[Η (by lia)];exact w2)
 obtain⟨len,hlen,XN⟩:∃len:Int,1+d% 4=len/\1<=len/\len<=4:=⟨_,Κ,by lia,by lia⟩
 rw[hlen]
 have L:=n8 (n:=a.n) (wy:=a.wy) (m:=e.Hw.length) I Yq ⟨XN.1,by lia⟩ hwd Rq hw (by lia)
 have Mg:=IM.keep W hT2 (Hz.HM p)
 have Lu:e.done.length<=10000:=by lia
 refine⟨_,_,_,_,_,_,_,_,_,_,_,_,_,_,_,e,_,_,_,_,Κ,LK,Mg,.int _,.int _,.int _,.int _,by lia,Lu,(λh=>by rw[L]at h;cases h),(λh=>by rw[L]at h;cases h),(λh=>by rw[L]at h;cases h),(λh=>by rw[L]at h;cases h),(λh=>by rw[L]at h;cases h),λ_ H5 o5 Ss=>?_⟩
 refine⟨_,_,_,dB e a' b' len X,o4.trans o5,o5 _ _ (G _ ncs) (p _ _ g2),o5 _ _ (G _ nbg) (p _ _ C),Ss,R.post I Yq ⟨by lia,by lia⟩ (by lia),.snoc S (x:=a') (y:=b') (l:=len) (u:=X) ⟨by lia,by lia⟩,(λz=>(U z).post hw),?_,?_,Κ⟩
 ·show(e.Hw++[_]).length<=_
  rw[ϛ,Ã];lia
 ·show(e.done++[_]).length<=_
  rw[ϛ,Ã];lia
theorem DG(a:YA):kH a (ul a.wy a.n a.n):=λd b=>by
 obtain⟨p,e,b⟩:=â.mp b
 obtain⟨g,c,b⟩:=â.mp b
 unfold Bb at b
 grind
theorem LM.psd(h:Of a s s')(R:LM nums S s):LM nums S s':=by
 induction h with
 |nil=>exact R
 |snoc _ _ b=>exact b.post
structure Rv(K:ϧ)(c:Cs)(TC:Ο)(J:TJ)(ys:Ys)(H:Hp)(a:YA)(s:YS)(N:Nat->Nat->Nat)(nums:List Int)(S:List Nat)(rs:List Int):Prop where
 I:Nv K c TC J (yx ys []) H a s
 J:IY a s
 C:ML a s N
 R:LM nums S s
 W:OE a s
 ro:s.rooms=rs.map V.int
 l4:∀t∈s.Hw,0<=t.len/\t.len<=4
 P:Ho a.n a.ps a.wy nums S
 rr:∀r∈rs,1<=r/\r<=60
section
variable {K:ϧ}{c:Cs}{TC fw:Ο}{dw:Đ}{J:TJ}{ys:Ys}{H H2:Hp}{a:YA}{s s':YS}{N:Nat->Nat->Nat}{nums:List Int}{S:List Nat}{rs:List Int}{m:Mv}
theorem Rv.same(W:Wy K TC J)(h:Rv K c TC J ys H a s N nums S rs)(e:Hz H H2):Rv K c TC J ys H2 a s N nums S rs:=
 ⟨h.I.same W e,h.J,h.C,h.R,h.W,h.ro,h.l4,h.P,h.rr⟩
theorem Rv.room(h:Rv K c TC J ys H a s N nums S rs){k:Nat}(f:s.γ[k]?=Α ln):1<=ln.r+ln.b+ln.qs.length:=by
 have d:=(h.C.G.room k ln f).1
 rw[h.ro,ώ]at d
 cases e:rs[k]? with
 |none=>rw[e]at d;cases d
 |some r=>rw[e]at d;have d:=ϋ d;injection d with d;rw[←d];exact(h.rr r (Ψ e)).1
theorem Rv.never(h:Rv K c TC J ys H a s N nums S rs)(b:bK a s=[]):rL s=Γ:=
 _K.never h.P h.I.O h.R h.C.G h.J (EY b) (λk e d=>h.room d) h.W h.I.T.ok
theorem Rv.most(h:Rv K c TC J ys H a s N nums S rs):s.done.length<=20000:=by
 have d:=h.C.most h.J
 have e:=(vG h.l4).2
 have f:=h.J.few
 have g:=h.J.Ny
 have b:Ay s<=240:=by unfold Ay;lia
 have i:Ay s* (2* a.ps.length+1:Nat)<=240* 81:=Int.mul_le_mul b (by lia) (by lia) (by decide)
 lia
theorem Rv.move(W:Wy K TC J)(h:Rv K c TC J ys H a s N nums S rs)(b:Kd a s m s')(o:HP a.four H H2)(i:Jk K (yx ys []) H2 a {s' with done:=s.done++[dY m]}):∃f,Rv K c TC J ys H2 a {s' with done:=s.done++[dY m]} f nums S rs:=by
 obtain⟨f,g⟩:=h.C.step h.J b
 have d:IY a {s' with done:=s.done++[dY m]}:=(h.J.step b).done _
 refine⟨f,⟨i,IM.keep W h.I.T (HP.HM (λz j=>h.I.Y.Kv z j) o),h.I.O,d.ok⟩,d,g,(h.R.step h.P h.I.O h.J b).dn _,λp l=>h.W p (b.sgs▸l),b.rooms.trans h.ro,λt r=>?_,h.P,h.rr⟩
 have:t.len∈s.Hw.map (·.len):=by rw[←b.lens];grind
 obtain⟨n,q,e⟩:=Â.mp this
 have:=h.l4 n q
 grind
end
theorem Di(s:Hz H H')(v:V)(m:List V)(h:IQ H v m):IQ H' v m:=h.keep (Hz.HM s)
theorem pick(p:Paired (IQ H) Ik ((bK a s).map dY))(h:0<Ik.length)(d:Int):∃(k:Nat)(m:Mv)(b:Ο),d% (Ik.length:Int)=(k:Int)/\Ik[k]?=Α (.ref b)/\H b=Α (.tup (dY m))/\m∈bK a s:=by
 have f:Ik.length=(bK a s).length:=by rw[Paired.length p,Ρ]
 have i:=Į d (show((Ik.length:Nat):Int)≠0 by lia)
 have j:=Ĕ d (show (0:Int)<(Ik.length:Int) by lia)
 have c:(d% (Ik.length:Int)).toNat<(bK a s).length:=by lia
 obtain⟨v,e,b,rfl,g⟩:=Paired.at2 p (show((bK a s).map dY)[(d% (Ik.length:Int)).toNat]?=Α (dY (bK a s)[(d% (Ik.length:Int)).toNat]) by rw[ώ,Λ c];rfl)
 exact⟨_,_,b,by lia,e,g,ã c⟩
inductive uV(K:ϧ)(c:Cs)(TC:Ο)(J:TJ)(vs:List V)(H:Hp)(Q:VK)(E:XK):Prop
 |mk (a:YA) (sc:Ο) (ns nums:List Int) (S:List Nat) (_:vs=[.ref a.tb,.ref sc]) (_:K3 c TC J H a) (_:Ho a.n a.ps a.wy nums S) (_:HC K H sc (ns.map V.int)) (_:∀H',Q (.bl Γ) H')
abbrev NRn:List Str:=["_law_table_here","_law_script","_law_yard","_law_cell","_law_draws","_law_moves","_law_done","_law_draw"]
structure RnF(P:Program)(w:Å)(K:ϧ)(mg:Str->Option Φ)(μ:Ó)(c:Cs)(TC:Ο)(J:TJ)(ys:Ys)(fy:Ο)(dy:Đ):Prop where
 Gm:Me P w K mg μ ys.HH "moves" 7 gj (oO K c TC J (yx ys []))
 Gd:Me P w K mg μ ys.HH "do" 8 kr (EZ K c TC J (yx ys []))
 Ge:Me P w K mg μ ys.HH "ended" 1 gj (kB K (yx ys []))
 Gp:Ca P w K mg μ "_law_posts" 5 Eb (yl K c TC J (yx ys []))
 Gb:Ca P w K mg μ "_law_begins" 4 Ea (vd c TC J)
 Go:Ca P w K mg μ "_law_rooms" 2 uz (lj c TC J)
 my:mg "Yard"=Α (.ref ys.HH)
 My:Mk K ys.HH fy
 P9:Binds K dy kq []
 Gy:HB P w K mg μ aK 4 fy dy kq (lg K c TC J (yx ys []))
 Gc:Ca P w K mg μ "_law_cell_at" 1 uy (oQ K)
 Gx:Ca P w K mg μ "_law_mixed" 1 ux qt
inductive RL(K:ϧ)(c:Cs)(TC:Ο)(J:TJ)(ys:Ys)(nums:List Int)(S:List Nat)(rs:List Int)(tb sc:Ο)(H0:Hp)(a:YA)(a3 a4:Option V)(k:Nat)(σ:St)(H:Hp):Prop
 |mk (s:YS) (N:Nat->Nat->Nat) (D:Ο) (Ik:List V) (d:Nat) (a7:Option V) (_:k=20000 - s.done.length) (_:Rv K c TC J ys H a s N nums S rs) (_:Hz H0 H) (_:H D=Α (.π Ik)) (_:Paired (IQ H) Ik ((bK a s).map dY)) (_:d<=s.done.length) (_:σ=[Α (.ref tb),Α (.ref sc),Α (.ref a.y),a3,a4,Α (.ref D),Α (.int d),a7])
theorem Ls:aq NRn DZ (ag lr):=bM
theorem bkRn:IP NRn (ag lr) (pX (iL (aB lr) 2)) ["_law_cell"] [3]:=_L2.Jv
theorem ndRn:(["_law_k","_law_cell"]:List Str).Nodup:=by decide +kernel
theorem zN{TC f fy:Ο}(F:HZ K "_law_runs" "_law_runs" lr f fd)(T:dz mg)(Y:mG K (yx ys []))(W:Wy K TC J)(D:RnF P w K mg μ c TC J ys fy dy):
  HB P w K mg μ aK 9 f fd DZ (uV K c TC J):=by
 refine F.ok Ls λcdv A outer s0 H vs Q E b h=>?_
 obtain⟨t,R,U,g,S,rfl,X,hP,hS,q⟩:=h
 have hu:=b.units
 have Ws:Il 5 _:=b.mono (by decide)
 refine⟨_,ac (bG 2 Ls.nd (dr D.My D.Gy Ws Κ D.my D.P9 .nil cU (aa (pv 0) (aa (bF D.Go b (aa (pv 0) (aa (bF D.Gc b (aa (pv 1) (aa ah ad))) ad))) ad))))
  (ac (fR (i:=3) Ls.nd Κ (ń Κ) (bF D.Gc b (aa (pv 1) (aa ah ad))))
  (ac (bU (i:=4) (own:=["_law_k"]) (capN:=["_law_cell"]) (cap:=[3]) bkRn Κ Ls.nd Κ Κ (aE Κ T.range (aa (aA cQ ah (aA bQ (pv 3) ah)) ad)) (λC s' j fp=>⟨b9 0 ndRn,bu,bF D.Gx b (aa (pv 1) (aa (pv 0) ad))⟩))
  (ac (aF (bF D.Gp b (aa (pv 2) (aa (bF D.Gb b (aa (pv 0) ad)) (aa (pv 4) ad)))))
  (ac (bG 5 Ls.nd (ji (pv 2) Y.cl D.Gm b))
  (ac (bG 6 Ls.nd ah)
  (ac (dS ñ (bJ (p6 hu) (pv 5) (aJ ad))
   (ac (bG 7 Ls.nd (bF D.Gx b (aa (bF D.Gc b (aa (pv 1) (aa (aA bQ (pv 6) (aH (x9 Κ) Κ T.max PyProof.Rows.boot_max (aa ah (aa (gq T.len (pv 1)) ad)))) ad))) (aa (pv 6) ad))))
   (ac (aF (cE (pv 2) Y.cl D.Gd b (aa (be HN (pv 5) (aA bQ (pv 7) (gq T.len (pv 5)))) ad)))
   (ac (bG 6 Ls.nd (aA cQ (pv 6) ah))
   (af (bG 5 Ls.nd (ji (pv 2) Y.cl D.Gm b)))))))
  (af (ao (ji (pv 2) Y.cl D.Ge b))))))))),?_⟩
 refine⟨R,U,3,Κ,hS,λd3=>⟨t,d3,Κ,X.T,λRo rv H1 s1 nRo gRo Lh OA=>?_⟩⟩
 have B1:=X.same W s1
 refine λy dy ny RA RB=>oB (oC (P:=P) (w:=w) (ys:=ys) (ex:=[]) W B1.T X.O.few X.ok (HC.of gRo) Lh OA X.T.few (λz x=>by cases x) y dy ny RA RB) λv H2 h=>⟨h.1,?_⟩
 obtain⟨_,a,ea,e1,e2,e3,e4,s2,fr,hI,hJ⟩:=h
 injection ea with ea
 subst ea
 have OG:=s1.trans s2
 have hPa:Ho a.n a.ps a.wy g S:=by grind
 have B2:=X.same W OG
 have fr0:=λz x=>s1.free (fr z x)
 clear B1
 refine⟨R,U,4,Κ,OG.seq hS,λd4=>?_⟩
 refine⟨_,_,Κ,Κ,(by grind),_,_,Κ,Κ,?_⟩
 obtain⟨am,ham,ham5⟩:∃am:Nat,(1:Int)+d4% 4=(am:Int)/\am<=4:=⟨(1+d4% 4).toNat,by lia,by lia⟩
 dsimp only
 rw[ham]
 refine⟨_,Κ,by lia,by lia,?_⟩
 rw[Τ]
 refine aW am (by rw[ϊ];lia) (λi acc j=>j=H2/\∃ks:List Int,acc=ks.map V.int/\ks.length=i) ⟨Κ,[],Κ,Κ⟩ (λi acc j h=>by grind) (λi acc j hi h=>?_) (λacc j h=>?_)
 ·obtain⟨rfl,ks,rfl,e⟩:=h
  refine⟨hi,λv H2 y=>?_⟩
  obtain⟨rfl,rfl⟩:=y
  rw[Õ]
  exact⟨_,i,Κ,by lia,λd hd=>⟨Κ,ks++[d],by grind,by grind⟩⟩
 obtain⟨rfl,ks,rfl,IX⟩:=h
 refine⟨Ξ _,λB hCe=>?_⟩
 have u:=(Hz.refl j).new (o:=.π (ks.map V.int)) hCe
 have G:=aX j B (.π (ks.map V.int))
 have nCe:=qW hI.Y hCe
 generalize ο j B _=H4 at u G⊢
 have Ot:=hI.same W u
 have Wq:=OG.trans u
 have Y7:kH a (ul t.wy t.n t.n):=by
  have:=DG t
  unfold kH at this⊢
  grind
 refine⟨t,Κ,(B2.same W u).T,λBg Jl H5 s5 hBg gBg WW Wu=>?_⟩
 have PJ:=Ot.same W s5
 refine⟨a,_,_,B,_,_,_,Κ,PJ.Y,PJ.T,hJ,gBg,WW,Y7,Wu,qW Ot.Y hBg,s5 _ _ G,nCe,by lia,by show 0+_<=59;lia,ϡ _,λH7 s7 o7 hY7 M WZ hW7 hl7 hd7=>?_⟩
 have two:∀z:Ο,z∈[a.le,a.dn]->z∈a.four:=λz x=>by grind
 have hE7:=qz (Wq.trans s5) o7 (λz x=>fr0 z (two z x))
 obtain⟨N,hC⟩:=(cst0 (a:=a) (n:=t.n) OA).psd WZ
 have r:Rv K c TC J ys H7 a s7 N g S rv:=⟨⟨hY7,IM.keep W PJ.T (HP.HM (λz x=>PJ.Y.Kv z (two z x)) o7),hI.O,M.ok⟩,M,hC,LM.psd WZ (λm t h=>by cases h),hW7 (λp hp=>by cases hp),WZ.rooms,WZ.few (λt ht=>by cases ht),hPa,OA⟩
 refine⟨_,_,_,Κ,r.I.Y.ρ,Κ,a,_,Κ,r.I,λD0 mv0 H8 s8 nD0 gD0 pD0=>?_⟩
 refine⟨RL K c TC J ys g S rv t.tb R H a (Α (.int d4)) (Α (.ref B)),⟨_,s7,N,D0,mv0,0,Β,Κ,r.same W s8,hE7.trans s8,gD0,pD0,ϡ _,Κ⟩,?_⟩
 clear r hC N D0 mv0 H8 s8 nD0 gD0 pD0 hE7 hW7 WZ M hY7 o7 hl7 hd7 s7 PJ Ot WW Wu gBg hBg s5 H7 H5 Y7 nCe G hI hJ u Wq
 rintro k σ H1 ⟨s,N,Dm,Ik,d,a7,rfl,r,hE1,SG,pDm,hd,rfl⟩
 refine⟨ϡ _,λo ho=>?_⟩
 have Z:=(Hz.refl H1).new (o:=.π []) ho
 have YB:=Paired.mono (Di Z) pDm
 refine neN (f:=wZ) (l:=bK a s) (.π (HC.of (Z _ _ SG)) (jx YB)) (.π (HC.of ae) .nil) (ve _) ⟨_,Κ,?_⟩
 generalize ο H1 o _=H2 at Z YB⊢
 have SH:=r.same W Z
 have P7:=Z _ _ SG
 have hE2:=hE1.trans Z
 have hS2:=hE2.seq hS
 have hmost:=r.most
 cases hms:bK a s with
 | cons m0 ms =>
  have Kq:0<Ik.length:=by rw[Paired.length YB,hms];grind
  have np:(0:Int)<((Ik.length:Nat):Int):=by lia
  obtain⟨L,hL,O3⟩:∃L:Nat,(if ((U.length:Nat):Int) > 1 then ((U.length:Nat):Int) else 1)=(L:Int)/\0<L:=by
   by_cases h:((U.length:Nat):Int) > 1
   ·grind
   ·exact⟨1,Η h,by lia⟩
  refine az ⟨λσ' j=>∃k',k'< 20000 - s.done.length/\RL K c TC J ys g S rv t.tb R H a (Α (.int d4)) (Α (.ref B)) k' σ' j,λ_ _ h=>h,?_⟩
  refine⟨R,_,Κ,.inl hS2,_,_,Κ,?_⟩
  rw[Ρ,hL]
  refine⟨_,_,Κ,Κ,by grind,R,U,d% L,?_,hS2,λd5=>?_⟩
  ·grind
  refine⟨_,d,Κ,by lia,λdd hdd=>?_⟩
  obtain⟨k,m,tm,hk,hv,gtm,hm⟩:=pick YB Kq dd
  refine⟨_,_,_,Κ,SH.I.Y.ρ,Κ,_,_,Κ,.inl (HC.of P7),_,_,Κ,Κ,np,_,_,_,_,Κ,Κ,HC.of P7,by rw[hk];exact al hv,a,s,_,m,Κ,SH.I,gtm,hm,SH.J.sml (by lia),λH3 s' st o3 JN=>?_⟩
  obtain⟨N',YC⟩:=SH.move W st o3 JN
  refine⟨_,_,Κ,Κ,_,_,_,Κ,YC.I.Y.ρ,Κ,a,_,Κ,YC.I,λD4 mv4 H4 u nD4 WU pD4=>⟨_,?_,_,N',D4,mv4,d+1,_,Κ,YC.same W u,(qz hE2 o3 fr0).trans u,WU,pD4,?_,Κ⟩⟩
  ·have h1:=YC.most
   grind
  grind
 | nil =>
  have h60:=r.J.few
  refine au ⟨a.y,a.dy,_,Κ,SH.I.Y.ρ,Κ,a.y,a.dy,a.tb,a.ro,a.la,a.le,a.li,a.dn,s,Κ,SH.I.Y,by lia,by rw[r.J.ε];have:=r.I.T.Lw;lia,λH4 u=>?_⟩
  rw[r.never hms]
  exact q H4
inductive Ei(wy:bo->Nat)(ps:IPs)(n:Nat):EI->Prop
 |Ky {l g:Nat} (h:dH wy ps n=Α (l,g)):Ei wy ps n (.Ky (l,g))
 |ring {r:List (Nat×Nat)} (h:dH wy ps n=Β) (hr:pY wy ps n r):Ei wy ps n (.ring r)
 |Js {N:List Nat} (h:dH wy ps n=Β) (hN:mH (cu wy ps) (tV (bW wy ps n n)) ps.length N):Ei wy ps n (.Js N)
theorem Ds(b:bo->Nat)(a:IPs)(n:Nat):Ei b a n (rl b a n):=by
 unfold rl
 cases c:dH b a n with
 |some q=>exact .Ky c
 | none =>
  dsimp only
  by_cases h:(i6 (qe b a n)).length<a.length
  ·rw[Θ h]
   exact .ring c (BZ h)
  ·rw[Η h]
   refine .Js c ?_
   have d:Im (cu b a) (tV (bW b a n n)) a.length (qe b a n):=jq
   obtain⟨m,e,_⟩:=p9 (qe b a n)
   have f:=e.len
   have g:=d.len
   exact Dh (show(i6 (qe b a n)).length=a.length by lia)
noncomputable def EB(S:List Nat):EI->û
 |.Ky q =>.tuple [.str "lost",.tuple [.int (q.1:Int),.int (q.2:Int)]]
 |.ring r =>.tuple [.str "ring",.tuple ((r.map pI).map vw)]
 |.Js N =>.tuple [.str "paper",.tuple [.tuple ((iz N).map ŕ),.tuple ((iz S).map ŕ)]]
theorem AU(h:H t=Α (.tup (nV N))):kx K H (.ref t) (.tuple ((iz N).map ŕ)):=by
 refine .tup (xs:=(iz N).map V.int) (HF.of ?_) (iw _)
 rw[h];exact congrArg (λz=>Α (HO.tup z)) (fV _)
theorem JW.den(h:JW H v S r):kx K H v (EB S r):=by
 cases r with
 | Ky q =>
  obtain⟨t,p,rfl,c,d⟩:=h
  exact .tup (HF.of c) (.cons (.str _) (.cons (.tup (HF.of d) (.cons (.int _) (.cons (.int _) .nil))) .nil))
 | ring r =>
  obtain⟨t,p,us,rfl,c,d,e⟩:=h
  exact .tup (HF.of c) (.cons (.str _) (.cons (.tup (HF.of d) (mx e)) .nil))
 | Js N =>
  obtain⟨t,p,a,b,rfl,c,d,f,g⟩:=h
  exact .tup (HF.of c) (.cons (.str _) (.cons (.tup (HF.of d) (.cons (AU f) (.cons (AU g) .nil))) .nil))
theorem JW.same(h:JW H v S r)(s:Hz H H'):JW H' v S r:=by
 cases r with
 | Ky q =>
  obtain⟨t,p,e,c,d⟩:=h
  exact⟨t,p,e,s _ _ c,s _ _ d⟩
 | ring r =>
  obtain⟨t,p,us,e,c,d,f⟩:=h
  exact⟨t,p,_,e,s _ _ c,s _ _ d,HW.same s f⟩
 | Js N =>
  obtain⟨t,p,a,b,e,c,d,g,i⟩:=h
  exact⟨t,p,a,b,e,s _ _ c,s _ _ d,s _ _ g,s _ _ i⟩
theorem JW.tup(h:JW H v S r):∃t a b,v=.ref t/\H t=Α (.tup [a,b]):=by
 cases r with
 |Ky q=>obtain⟨t,p,e,c,_⟩:=h;exact⟨t,_,_,e,c⟩
 |ring r=>obtain⟨t,p,us,e,c,_⟩:=h;exact⟨t,_,_,e,c⟩
 |Js N=>obtain⟨t,p,a,b,e,c,_⟩:=h;exact⟨t,_,_,e,c⟩
theorem fo(c:JE a m)(d:JE b m):JE (.tuple [a,b]) (m+1):=cT λz e=>by
 grind
theorem qw(a:List Int):JE (.tuple (a.map ŕ)) 1:=cT (m:=0) λz b=>by obtain⟨i,_,rfl⟩:=Â.mp b;exact cj _
theorem yI(S:List Nat)(r:EI):JE (EB S r) 64:=by
 cases r with
 |Ky q=>exact(fo (m:=1) ((fQ (by decide +kernel)).le (by decide)) (fo (m:=0) (cj _) (cj _))).le (by decide)
 | ring r =>
  refine(fo (m:=2) ((fQ (by decide +kernel)).le (by decide)) ?_).le (by decide)
  refine cT (m:=1) λz a=>?_
  obtain⟨p,_,rfl⟩:=Â.mp a
  exact fo (m:=0) (cj _) (cj _)
 |Js N=>exact(fo (m:=2) ((fQ (by decide +kernel)).le (by decide)) (fo (m:=1) (qw _) (qw _))).le (by decide)
theorem both{P:Bool->Prop}(h:P Γ)(k:P Δ):∀b,P b:=λb=>by cases b<;>assumption
theorem Xa{TC:Ο}(i:K3 c TC J H a)(m:pY (uD a) a.ps a.n r):
  2<=r.length/\WR a r/\∀k,k<r.length->(aD r k).1<a.ps.length/\(aD r k).2<a.n:=by
 have o:=Ē.mpr m.ne
 have j:∀k,k<r.length->(aD r k).1<a.ps.length/\(aD r k).2<a.n/\(aD r ((k+1)% r.length)).1∈ff a (aD r k).1 (aD r k).2:=λk d=>by
  have s:(k+1)% r.length<r.length:=Nat.mod_lt _ o
  have t:(if (k+1)% r.length=0 then r.length - 1 else (k+1)% r.length - 1)=k:=by
   rcases ă (k+1) r.length with h|h
   ·rw[Nat.mod_eq_of_lt h,Η (by lia)];lia
   ·have e:k+1=r.length:=by lia
    rw[e,YD,Θ Κ];lia
  obtain⟨f,l,_,g⟩:=m.st ((k+1)% r.length) (aD r k) (aD r ((k+1)% r.length)) (by rw[t];exact c6 d) (c6 s)
  rw[i.on f l]at g
  exact⟨f,l,g⟩
 refine⟨?_,⟨m.nd,λk d=>(j k d).2.2⟩,λk d=>⟨(j k d).1,(j k d).2.1⟩⟩
 refine Þ λw=>?_
 have u:r.length=1:=by lia
 obtain⟨f,l,b⟩:=j 0 o
 rw[u,YD]at b
 obtain⟨e,p,v⟩:=i.end f
 unfold ff at b
 rw[p]at b
 by_cases q:(e:Int)=((aD r 0).2:Int)
 ·rw[Θ q]at b;cases b
 ·rw[Η q,Τ]at b
  have g:=(i.lt v l b).2
  rw[←p,dv f]at g
  exact(SF (i.ok _ (ã f))).2.2 g
theorem F8{TC:Ο}(i:K3 c TC J H a)(s:dH (uD a) a.ps a.n=Β)(m:mH (cu (uD a) a.ps) (tV (bW (uD a) a.ps a.n a.n)) a.ps.length N):Ho a.n a.ps a.wy (iz N) (bW (uD a) a.ps a.n a.n):=by
 have h:=i.wb
 refine⟨by unfold iz;rw[Ρ,m.len],eK ..,λz b=>iN _ _ _ _ (Ξ _) z b,λp g o f l d=>?_,λl g e d f j q w=>?_⟩
 ·have b:l∈wl (uD a) [Α (p:Int),Α (g:Int),Β]:=by rw[←qg (k:=Β) i.tw o f]at d;exact d
  exact e9 f (h _ l b) (nY h o b)
 ·have t:=dZ j
  have u:=E9 s d j (by rw[q];lia)
  have v:cu (uD a) a.ps g l=a.wy e g (Α l):=by
   rw[i.on d f]
   unfold ff
   rw[q,Η (by lia),Τ]
  rw[←v]
  refine⟨u,λz b=>?_⟩
  have r:=lG h g l z b
  refine⟨e9 f r (qo h t b),?_⟩
  rw[kK,kK]
  have:=m.up l g z d r (Jd.mpr j) b
  lia
inductive uS(K:ϧ)(vs:List V)(H:Hp)(Q:VK)(E:XK):Prop
 |mk (a:Ο) (ns:List Int) (_:vs=[.ref a]) (_:HC K H a (ns.map V.int)) (_:ns.length<=63) (_:∀H',Q (.bl Γ) H')
abbrev NLw:List Str:=["_law_script","_law_table_here","_law_found","_law_rooms_here"]
structure Fns(P:Program)(w:Å)(K:ϧ)(mg:Str->Option Φ)(μ:Ó)(c:Cs)(ts:Ts)(tn:wu):Prop where
 Gc:Ca P w K mg μ "_law_cell_at" 1 uy (oQ K)
 Gt:Ca P w K mg μ "_law_table" 7 sw (y9 P w K c ts tn)
 Gk:Ca P w K mg μ "look" 8 si (λvs H Q E=>∃b,y4 c (TC ts tn b) (JX (TC ts tn b) (JJ P w ts tn b)) vs H Q E)
 Go:Ca P w K mg μ "_law_rooms" 2 uz (λvs H Q E=>∃b,lj c (TC ts tn b) (JJ P w ts tn b) vs H Q E)
 G1:Ca P w K mg μ "_law_lost" 8 DW (λvs H Q E=>∃b,uX c (TC ts tn b) (JX (TC ts tn b) (JJ P w ts tn b)) vs H Q E)
 G2:Ca P w K mg μ "_law_ring" 8 su (λvs H Q E=>∃b,uW c (TC ts tn b) (JX (TC ts tn b) (JJ P w ts tn b)) vs H Q E)
 Gs:Ca P w K mg μ "_law_stands" 9 PSt (λvs H Q E=>∃b,nq c (TC ts tn b) (JJ P w ts tn b) vs H Q E)
 G3:Ca P w K mg μ "_law_paper" 8 Ed (λvs H Q E=>∃b,qu c (TC ts tn b) (JX (TC ts tn b) (JJ P w ts tn b)) vs H Q E)
 Gr:Ca P w K mg μ "_law_runs" 9 DZ (λvs H Q E=>∃b,uV K c (TC ts tn b) (JJ P w ts tn b) vs H Q E)
 W:∀b,Wy K (TC ts tn b) (JJ P w ts tn b)
theorem PL:aq NLw sw (ag oX):=bM
theorem Gj(F:HZ K "law" "law" oX f df)(T:dz mg)(D:Fns P w K mg μ c ts tn):
  HB P w K mg μ aK 10 f df sw (uS K):=by
 refine F.ok PL λ_ _ _ s H _ Q E e h=>?_
 obtain⟨I,J,rfl,hS,hlen,q⟩:=h
 have hu:=e.units
 refine⟨_,ac (bG 1 PL.nd (bF D.Gt e (aa (pv 0) ad)))
  (ac (bG 2 PL.nd (bF D.Gk e (aa (pv 1) ad)))
  (ac (aC (PW.pt (c9 (ba (aQ (aH fK Κ T.O4 ϯ (aa (pv 2) (aa (du (v:=.ty "tuple") Κ T.tuple PySem.Pv.boot_tuple Κ) ad)))))
    (c9 (bJ dc (gq T.len (pv 2)) ah)
    (bT (bJ (p6 hu) (bF D.Gk e (aa (pv 1) ad)) (pv 2)))))) (af (ao bY)) ar)
  (ac (aC (bJ br (be HA (pv 2) ah) bA) (af (ao (bF D.G1 e (aa (pv 1) (aa (be HA (pv 2) ah) ad))))) ar)
  (ac (aC (bJ br (be HA (pv 2) ah) bA)
   (ac (bG 3 PL.nd (bF D.Go e (aa (pv 1) (aa (bF D.Gc e (aa (pv 0) (aa ah ad))) ad))))
   (af (ao (cv (bF D.G2 e (aa (pv 1) (aa (be HA (pv 2) ah) ad))) (cP (bF D.Gs e (aa (pv 1) (aa (be HA (pv 2) ah) (aa (pv 3) ad))))))))) ar)
  (ac (aC (PW.pt (c9 (bJ dc (be HA (pv 2) ah) bA) (bT (ba (aQ (bF D.G3 e (aa (pv 1) (aa (be HA (pv 2) ah) ad)))))))) (af (ao bY)) ar)
  (af (ao (bF D.Gr e (aa (pv 1) (aa (pv 0) ad)))))))))),?_⟩
 refine⟨I,J,Κ,hS,λb x Z HJ lt n HE ps wy H1 s1 nx hT Jj hot hp8 Nk V5=>?_⟩
 obtain⟨HK,htw⟩:=hot
 have W:=D.W b
 have L:K3 c (TC ts tn b) (JJ P w ts tn b) H1 ⟨x,x,x,x,x,x,x,x,Z,HJ,lt,n,HE,ps,wy⟩:=⟨hT,⟨λl pr h=>by
  have:=(SF (HK pr (Ψ h))).2.1
  exact⟨pr.2.toNat,by lia,by grind⟩,Jj⟩,HK,htw⟩
 have K8:x=(⟨x,x,x,x,x,x,x,x,Z,HJ,lt,n,HE,ps,wy⟩:YA).tb:=rfl
 generalize (⟨x,x,x,x,x,x,x,x,Z,HJ,lt,n,HE,ps,wy⟩:YA)=a at L K8
 subst K8
 have u:=Ds (uD a) a.ps a.n
 refine⟨b,_,_,_,_,_,_,_,_,Κ,L.tab,λv H3 s3 M=>?_⟩
 have QA:=L.same W s3
 generalize NJ:bW (uD a) a.ps a.n a.n=S at M
 generalize hR:rl (uD a) a.ps a.n=R at M u
 obtain⟨t,va,vb,rfl,gt⟩:=M.tup
 refine(.inr (.inr (.inr ⟨t,_,Κ,HF.of gt,_,Κ,au ?_⟩)))
 refine⟨t,_,Κ,.inr (HF.of gt),Κ,_,Κ,?_⟩
 rw[bR,Ε (show(([va,vb].length:Nat):Int)=2 from Κ)]
 refine au ⟨b,a.tb,_,_,_,_,_,_,_,Κ,QA.tab,λv2 H4 O y=>?_⟩
 rw[NJ,hR]at y
 have U:=M.same O
 have g:=QA.same W O
 have A:=(s1.trans (s3.trans O)).seq hS
 refine(neS y.den U.den (yI S R) ⟨_,Κ,au ?_⟩)
 have Vb:=O _ _ gt
 cases u with
 | @Ky l0 g0 m =>
  obtain⟨t',p,B,d,o⟩:=U
  cases B
  refine⟨t,_,0,_,Κ,Κ,HF.of d,al (j:=0) Κ,Κ,_,Κ,?_⟩
  rw[Ε Κ]
  exact az ⟨t,_,1,_,Κ,Κ,HF.of d,al (j:=1) Κ,b,a.tb,_,_,_,p,_,_,_,_,l0,g0,Κ,g.tab,o,g.st,Dr m,q⟩
 | @ring r m X =>
  obtain⟨t',p,us,B,d,o,hU⟩:=U
  cases B
  refine⟨t,_,0,_,Κ,Κ,HF.of d,al (j:=0) Κ,Κ,_,Κ,?_⟩
  rw[Ζ (λz=>by injection z with z;exact Ι z (by decide +kernel))]
  refine au ⟨t,_,0,_,Κ,Κ,HF.of d,al (j:=0) Κ,Κ,_,Κ,?_⟩
  rw[Ε Κ]
  obtain⟨h2,hL,O6⟩:=Xa g X
  refine az ⟨I,J,3,Κ,A,λd3=>⟨b,a,d3,Κ,g.T,λRo C H5 i nRo gRo Lh OA=>?_⟩⟩
  have G:=g.same W i
  refine⟨t,_,1,_,Κ,Κ,HF.of (i _ _ d),al (j:=1) Κ,b,_,_,_,_,p,_,_,_,_,_,r,Κ,G.tab,i _ _ o,HW.same i hU,G.st,X,h2,λH6 s6=>⟨_,Κ,az ?_⟩⟩
  have Y:=i.trans s6
  have em:wG (C.map Ŏ)=C.map V.int:=by
   unfold wG
   rw[Ú]
   refine đ λr X=>?_
   grind
  have hM:SD a (C.map Ŏ):=⟨by grind,λl m=>by
   unfold dA
   have JZ:l<C.length:=by grind
   rw[Ω,ώ,Λ JZ]
   have:=OA _ (ã JZ)
   grind⟩
  exact⟨t,_,1,_,Κ,Κ,HF.of (Y _ _ d),al (j:=1) Κ,b,a,p,_,_,r,_,Κ,g.same W Y,⟨Y _ _ o,HW.same Y hU,Í X.few L.T.few,O6⟩,hL,h2,by rw[em];exact s6 _ _ gRo,hM,q⟩
 | @Js N m hN =>
  obtain⟨t',p,na,sa,B,d,o,g3,g4⟩:=U
  cases B
  refine⟨t,_,0,_,Κ,Κ,HF.of d,al (j:=0) Κ,Κ,_,Κ,?_⟩
  rw[Ζ (λz=>by injection z with z;exact Ι z (by decide +kernel))]
  refine au ⟨t,_,0,_,Κ,Κ,HF.of d,al (j:=0) Κ,Κ,_,Κ,?_⟩
  rw[Ζ (λz=>by injection z with z;exact Ι z (by decide +kernel))]
  refine au ⟨t,_,0,_,Κ,Κ,HF.of d,al (j:=0) Κ,Κ,_,Κ,?_⟩
  rw[Ε Κ]
  refine au ⟨t,_,1,_,Κ,Κ,HF.of d,al (j:=1) Κ,b,a.tb,_,_,_,p,na,sa,_,_,_,_,N,Κ,g.tab,o,g3,by grind,hN,m,λH5 i=>⟨_,Κ,au ?_⟩⟩
  exact⟨b,a,I,J,_,_,Κ,g.same W i,F8 g m hN,i.seq A,q⟩
theorem len_of1{b:Type}{P:List b->Prop}(h:∀a,P [a]):∀us:List b,us.length=1->P us
 |[a],_=>h a
theorem len_of2{c:Type}{P:List c->Prop}(h:∀a b,P [a,b]):∀us:List c,us.length=2->P us
 |[a,b],_=>h a b
theorem len_of3{d:Type}{P:List d->Prop}(h:∀a b c,P [a,b,c]):∀us:List d,us.length=3->P us
 |[a,b,c],_=>h a b c
theorem len_of4{e:Type}{P:List e->Prop}(h:∀a b c d,P [a,b,c,d]):∀us:List e,us.length=4->P us
 |[a,b,c,d],_=>h a b c d
theorem len_of5{f:Type}{P:List f->Prop}(h:∀a b c d e,P [a,b,c,d,e]):∀us:List f,us.length=5->P us
 |[a,b,c,d,e],_=>h a b c d e
structure FT(K:ϧ)(mg:Str->Option Φ)(n:Str)(st:ϩ)(ps:List Str)(f:Ο)(fd:Đ):Prop where
 F:HZ K n n st f fd
 m:mg n=Α (.ref f)
 k:Ę K (.ref f)=Γ
 b:Binds K fd ps []
theorem FT.ca{k:Nat}(h:FT K mg n st ps f fd)(G:HB P w K mg μ aK k f fd ps sp):Ca P w K mg μ n k ps sp:=
 ⟨_,_,h.m,h.k,h.b,G⟩
structure FM(K:ϧ)(C:Ο)(n q:Str)(st:ϩ)(ps:List Str)(f:Ο)(fd:Đ):Prop where
 F:HZ K n q st f fd
 m:By K C n f
 b:Binds K fd ps []
theorem FM.ca(h:FM K C n q st ps f fd)(G:HB P w K mg μ aK k f fd ps sp):Me P w K mg μ C n k ps sp:=
 ⟨_,_,h.m,h.b,G⟩
section
variable {K:ϧ}{mg:Str->Option Φ}{C f:Ο}{n q:Str}{st:ϩ}{ps:List Str}{h:Ó}{oc:Φ}{od an:Option Ο}{M4:Array (Option Φ)}{kV doc pm cdv ct:Φ}
theorem mkT(X:K.In h)(G:h.Ns Ϡ mg)(b:∀(kV doc pm:Φ) (an:Option Ο) (cdv ct:Φ) (us:List Φ),us.length=ps.length->VD (oo n n (bX st) (aB st) (ag st) .none kV doc pm an cdv ct) ⟨us,[]⟩=pure (ps.zip us))
  (a:Ň K Ϡ n=Α (Α (.ref f))) (l:K.lookup f=Α ⟨oc,od,.func (oo n n (bX st) (aB st) (ag st) .none kV doc pm an cdv ct),M4⟩) (c:ot K cdv n=Γ) (k:Ę K (.ref f)=Γ):∃d,FT K mg n st ps f d:=
 ⟨_,mj l c k,Ś X G a,k,(mj l c k).binds b⟩
theorem mkM(b:∀(kV doc pm:Φ) (an:Option Ο) (cdv ct:Φ) (us:List Φ),us.length=ps.length->VD (oo n q (bX st) (aB st) (ag st) .none kV doc pm an cdv ct) ⟨us,[]⟩=pure (ps.zip us))
  (a:Ð K (.ref C) n=Α (Α (.ref f))) (l:K.lookup f=Α ⟨oc,od,.func (oo n q (bX st) (aB st) (ag st) .none kV doc pm an cdv ct),M4⟩) (c:ot K cdv q=Γ) (k:Ę K (.ref f)=Γ) (i:isFn K (.ref f)=Γ):∃d,FM K C n q st ps f d:=
 ⟨_,mj l c k,⟨a,i,k⟩,(mj l c k).binds b⟩
end
section
variable {l:PySem.W.OpenLaw}{w:Å}{K:ϧ}{h:Ó}{mg:Str->Option Φ}{fa cL cB cD cO cA cH cJ f1 f2 f3 f4 f5 f6 f7 f8 f9 f10 ZC f12 f13 f14 f15 f16 f17 f18 f19 f20 f21 f22 f23 f24 f25 f26 f27 f28 f29 f30 f31 f32 f33 f34 f35 f36 f37 f38 f39 f40 f41 f42 f43 f44 f45 f46 f47 f48 f49 f50 f51 f52 f53 f54 f55 f56 Xb f58 f59 f60 f61 f62 f63 f64 f65 f66 f67 f68 f69 f70 SI Xc f73 f74 f75 f76 f77 f78 f79 f80 f81 f82 f83 f84 f85 f86:Ο}{t1 t2 t3 t4 t5:Tok}
theorem all_mk(X:K.In h)(G:h.Ns Ϡ mg)(Ke:mg "law"=Α (.ref fa))
  
   
  (gcL:Ň K Ϡ "Land"=Α (Α (.ref cL)))
  (gcB:Ň K Ϡ "Table"=Α (Α (.ref cB)))
  (gcD:Ň K Ϡ "Told"=Α (Α (.ref cD)))
  (gcO:Ň K Ϡ "Nearer"=Α (Α (.ref cO)))
  (gcA:Ň K Ϡ "Lane"=Α (Α (.ref cA)))
  (gcH:Ň K Ϡ "Letter"=Α (Α (.ref cH)))
  (gcJ:Ň K Ϡ "Yard"=Α (Α (.ref cJ)))
  (h1:∃d,FT K mg "has" BX uu f1 d)
  (h2:∃d,FT K mg "members" yZ ["some"] f2 d)
  (h3:∃d,FT K mg "set_of" Fn qa f3 d)
  (h4:∃d,FT K mg "is_whole" gF uq f4 d)
  (h5:∃d,FT K mg "is_within" kC ko f5 d)
  (h6:∃d,FT K mg "is_one_of" BW uv f6 d)
  (h7:∃d,FT K mg "are_two_places" Fj Bu f7 d)
  (h8:∃d,FT K mg "row_fits" qK ["land","row"] f8 d)
  (h9:∃d,FT K mg "onward" XG pZ f9 d)
  (h10:∃d,FT K mg "rooms_of" iG ur f10 d)
  (h11:∃d,FT K mg "is_word" yN ["word"] ZC d)
  (h12:∃d,FT K mg "is_move" qH ["move"] f12 d)
  (h13:∃d,FT K mg "starts" oU si f13 d)
  (h14:∃d,FT K mg "first_lanes" sY qb f14 d)
  (h15:∃d,FT K mg "lanes_ahead" t7 qb f15 d)
  (h16:∃d,FT K mg "met" yY si f16 d)
  (h17:∃d,FT K mg "is_lost" oZ pZ f17 d)
  (h18:∃d,FT K mg "lost" za si f18 d)
  (h19:∃d,FT K mg "way_to" sN pZ f19 d)
  (h20:∃d,FT K mg "leads_of" lq sr f20 d)
  (h21:∃d,FT K mg "lanes_next" qC xL f21 d)
  (h22:∃d,FT K mg "number_lanes" yW ["leads"] f22 d)
  (h23:∃d,FT K mg "walk_back" lw xL f23 d)
  (h24:∃d,FT K mg "find_ring" qB xL f24 d)
  (h25:∃d,FT K mg "look" qG si f25 d)
  (h26:∃d,FT K mg "has_size" qA DU f26 d)
  (h27:∃d,FT K mg "start_fault" Fm sr f27 d)
  (h28:∃d,FT K mg "way_fault" yP Bv f28 d)
  (h29:∃d,FT K mg "pair_fault" sR DT f29 d)
  (h30:∃d,FT K mg "lane_fault" sV DS f30 d)
  (h31:∃d,FT K mg "fault" sZ Ec f31 d)
  (h32:∃d,FT K mg "can_stand" zh DV f32 d)
  (h33:∃d,FT K mg "stand_of" q5 Ee f33 d)
  (h34:∃d,FT K mg "how_far" Fw ["land","goal"] f34 d)
  (h35:∃d,FT K mg "nearer_lanes" Up uw f35 d)
  (h36:∃d,FT K mg "_law_cell_at" zg uy f36 d)
  (h37:∃d,FT K mg "_law_mixed" Fq ux f37 d)
  (h38:∃d,FT K mg "_law_lanes" sU DY f38 d)
  (h39:∃d,FT K mg "_law_rows" lp DX f39 d)
  (h40:∃d,FT K mg "_law_table" ze sw f40 d)
  (h41:∃d,FT K mg "_law_begins" tu Ea f41 d)
  (h42:∃d,FT K mg "_law_rooms" jc uz f42 d)
  (h43:∃d,FT K mg "_law_posts" oY Eb f43 d)
  (h44:∃d,FT K mg "_law_comes" tj DR f44 d)
  (h45:∃d,FT K mg "_law_lost" sW DW f45 d)
  (h46:∃d,FT K mg "_law_ring" lu su f46 d)
  (h47:∃d,FT K mg "_law_plain" sQ su f47 d)
  (h48:∃d,FT K mg "_law_stands" gG Pn51 f48 d)
  (h49:∃d,FT K mg "_law_paper" jd Ed f49 d)
  (h50:∃d,FT K mg "_law_runs" lr DZ f50 d)
  (a51:Ň K Ϡ "law"=Α (Α (.ref f51)))
  (l51:K.lookup f51=Α ⟨oc51,od51,.func (oo "law" "law" (bX oX) (aB oX) (ag oX) .none Xg Xh Xi Xd RX Xj),sl51⟩)
  (c51:ot K RX "law"=Γ)
  (k51:Ę K (.ref f51)=Γ)
  (h52:∃d,FM K cL "__init__" "Land.__init__" qJ Bx f52 d)
  (h53:∃d,FM K cL "start_of" "Land.start_of" sP eC f53 d)
  (h54:∃d,FM K cL "end_of" "Land.end_of" Fx eC f54 d)
  (h55:∃d,FM K cL "out_of" "Land.out_of" yU ww f55 d)
  (h56:∃d,FM K cL "into" "Land.into" qI ww f56 d)
  (h57:∃d,FM K cB "__init__" "Table.__init__" Fk xG Xb d)
  (h58:∃d,FM K cD "__init__" "Told.__init__" yQ Bw f58 d)
  (h59:∃d,FM K cD "ways" "Told.ways" sO kn f59 d)
  (h60:∃d,FM K cO "__init__" "Nearer.__init__" yX xG f60 d)
  (h61:∃d,FM K cO "ways" "Nearer.ways" yO kn f61 d)
  (h62:∃d,FM K cA "__init__" "Lane.__init__" Fu so f62 d)
  (h63:∃d,FM K cA "open_to" "Lane.open_to" yV ut f63 d)
  (h64:∃d,FM K cA "put" "Lane.put" Fp Bt f64 d)
  (h65:∃d,FM K cA "front" "Lane.front" sX gj f65 d)
  (h66:∃d,FM K cA "pull" "Lane.pull" yR gj f66 d)
  (h67:∃d,FM K cA "bring" "Lane.bring" tq gj f67 d)
  (h68:∃d,FM K cA "twin" "Lane.twin" Ft gj f68 d)
  (h69:∃d,FM K cH "__init__" "Letter.__init__" zd sm f69 d)
  (h70:∃d,FM K cH "twin" "Letter.twin" zc gj f70 d)
  (a71:Ð K (.ref cJ) "__init__"=Α (Α (.ref SI)))
  (l71:K.lookup SI=Α ⟨oc71,od71,.func (oo "__init__" "Yard.__init__" (bX jA) (aB jA) (ag jA) (.ref Xs) Xk Xl Xm Xe RY Xn),sl71⟩)
  (d71:K.lookup Xs=Α ⟨tO71,tD71,.seq #[ý] tN71,tS71⟩)
  (c71:ot K RY "Yard.__init__"=Γ)
  (k71:Ę K (.ref SI)=Γ)
  (i71:isFn K (.ref SI)=Γ)
  (a72:Ð K (.ref cJ) "post"=Α (Α (.ref Xc)))
  (l72:K.lookup Xc=Α ⟨oc72,od72,.func (oo "post" "Yard.post" (bX jb) (aB jb) (ag jb) (.ref Xt) Xo Xp Xq Xf RZ Xr),sl72⟩)
  (d72:K.lookup Xt=Α ⟨tO72,tD72,.seq #[Ű 0 tk72] tN72,tS72⟩)
  (c72:ot K RZ "Yard.post"=Γ)
  (k72:Ę K (.ref Xc)=Γ)
  (i72:isFn K (.ref Xc)=Γ)
  (h73:∃d,FM K cJ "moves" "Yard.moves" sT gj f73 d)
  (h74:∃d,FM K cJ "moves_in" "Yard.moves_in" qF qc f74 d)
  (h75:∃d,FM K cJ "moves_on" "Yard.moves_on" qD eC f75 d)
  (h76:∃d,FM K cJ "moves_lie" "Yard.moves_lie" sS eC f76 d)
  (h77:∃d,FM K cJ "moves_back" "Yard.moves_back" oW eC f77 d)
  (h78:∃d,FM K cJ "wanted" "Yard.wanted" ja eC f78 d)
  (h79:∃d,FM K cJ "moves_like" "Yard.moves_like" zb kr f79 d)
  (h80:∃d,FM K cJ "do" "Yard.do" sDo kr f80 d)
  (h81:∃d,FM K cJ "go_in" "Yard.go_in" zf DQ f81 d)
  (h82:∃d,FM K cJ "enter" "Yard.enter" tf Br f82 d)
  (h83:∃d,FM K cJ "lay" "Yard.lay" Fv Bs f83 d)
  (h84:∃d,FM K cJ "own_lane" "Yard.own_lane" yT eC f84 d)
  (h85:∃d,FM K cJ "own_letter" "Yard.own_letter" yS qc f85 d)
  (h86:∃d,FM K cJ "ended" "Yard.ended" iH gj f86 d)
  (mp:Ň K Ϡ "MOST_PLACES"=Α (Α (.int 12 t1)))
  (ml:Ň K Ϡ "MOST_LANES"=Α (Α (.int 40 t2)))
  (mr:Ň K Ϡ "MOST_ROOM"=Α (Α (.int 60 t3)))
  (mh:Ň K Ϡ "MOST_LENGTH"=Α (Α (.int 60 t4)))
  (mk:Ň K Ϡ "MOST_LETTERS"=Α (Α (.int 60 t5)))
  (p1cL:ŋ K cL Ş=Γ)
  (p2cL:Ń K cL=Γ)
  (p3cL:ő K cL=Γ)
  (p4cL:Ð K (.ref cL) "__setattr__"=Α (Α (.builtin "object.__setattr__")))
  (p5cL:b4 K cL=Γ)
  (p6cL:Ę K (.ref cL)=Γ)
  (u:Ð K (.ref cL) "places"=Α Β)
  (E:Ð K (.ref cL) "lanes"=Α Β)
  (p1cB:ŋ K cB Ş=Γ)
  (p2cB:Ń K cB=Γ)
  (p3cB:ő K cB=Γ)
  (p4cB:Ð K (.ref cB) "__setattr__"=Α (Α (.builtin "object.__setattr__")))
  (p5cB:b4 K cB=Γ)
  (p6cB:Ę K (.ref cB)=Γ)
  (Q:Ð K (.ref cB) "land"=Α Β)
  (p1cD:ŋ K cD Ş=Γ)
  (p2cD:Ń K cD=Γ)
  (p3cD:ő K cD=Γ)
  (p4cD:Ð K (.ref cD) "__setattr__"=Α (Α (.builtin "object.__setattr__")))
  (p5cD:b4 K cD=Γ)
  (p6cD:Ę K (.ref cD)=Γ)
  (o:Ð K (.ref cD) "land"=Α Β)
  (p:Ð K (.ref cD) "entries"=Α Β)
  (p1cO:ŋ K cO Ş=Γ)
  (p2cO:Ń K cO=Γ)
  (p3cO:ő K cO=Γ)
  (p4cO:Ð K (.ref cO) "__setattr__"=Α (Α (.builtin "object.__setattr__")))
  (p5cO:b4 K cO=Γ)
  (p6cO:Ę K (.ref cO)=Γ)
  (q:Ð K (.ref cO) "land"=Α Β)
  (r:Ð K (.ref cO) "entries"=Α Β)
  (p1cA:ŋ K cA Ş=Γ)
  (p2cA:Ń K cA=Γ)
  (p3cA:ő K cA=Γ)
  (p4cA:Ð K (.ref cA) "__setattr__"=Α (Α (.builtin "object.__setattr__")))
  (p5cA:b4 K cA=Γ)
  (p6cA:Ę K (.ref cA)=Γ)
  (y:Ð K (.ref cA) "rights"=Α Β)
  (i:Ð K (.ref cA) "returning"=Α Β)
  (z:Ð K (.ref cA) "holder"=Α Β)
  (A:Ð K (.ref cA) "pieces"=Α Β)
  (p1cH:ŋ K cH Ş=Γ)
  (p2cH:Ń K cH=Γ)
  (p3cH:ő K cH=Γ)
  (p4cH:Ð K (.ref cH) "__setattr__"=Α (Α (.builtin "object.__setattr__")))
  (p5cH:b4 K cH=Γ)
  (p6cH:Ę K (.ref cH)=Γ)
  (I:Ð K (.ref cH) "start"=Α Β)
  (R:Ð K (.ref cH) "goal"=Α Β)
  (C:Ð K (.ref cH) "length"=Α Β)
  (S:Ð K (.ref cH) "word"=Α Β)
  (U:Ð K (.ref cH) "gone"=Α Β)
  (ncHway:Ð K (.ref cH) "way"=Α Β)
  (p1cJ:ŋ K cJ Ş=Γ)
  (p2cJ:Ń K cJ=Γ)
  (p3cJ:ő K cJ=Γ)
  (p4cJ:Ð K (.ref cJ) "__setattr__"=Α (Α (.builtin "object.__setattr__")))
  (p5cJ:b4 K cJ=Γ)
  (p6cJ:Ę K (.ref cJ)=Γ)
  (J:Ð K (.ref cJ) "table"=Α Β)
  (M:Ð K (.ref cJ) "rooms"=Α Β)
  (N:Ð K (.ref cJ) "lanes"=Α Β)
  (t:Ð K (.ref cJ) "letters"=Α Β)
  (ncJlies:Ð K (.ref cJ) "lies"=Α Β)
  (ncJdone:Ð K (.ref cJ) "done"=Α Β)
  (w1cB:PySem.W.readsIn K cB (.type "type")=Γ)
  (w2cB:PySem.W.findCls K (.ref cB) (.type "type") "__init__"=Α (.val (.ref Xb)))
  (w3cB:PySem.W.specialIn K (.ref cB) "__getattribute__"=Α (Α (.builtin "type.__getattribute__")))
  (kk1:Ķ K (.type "int") (.type "int")=Α Γ)
  (kk2:Ķ K (.type "int") (.type "bool")=Α Δ)
  (kk3:Ķ K (.type "bool") (.type "int")=Α Γ)
  (kk4:Ķ K (.type "bool") (.type "bool")=Α Γ)
  (kk5:Ķ K (.type "NoneType") (.type "int")=Α Δ)
  (kk6:Ķ K (.type "str") (.type "str")=Α Γ)
  (kk7:Ķ K (.type "int") (.type "str")=Α Δ)
  (kk8:Ķ K (.type "tuple") (.type "tuple")=Α Γ)
  (z0:Ň K Ϡ "isinstance"=Α Β)
  (z1:Ň K Ϡ "int"=Α Β)
  (z2:Ň K Ϡ "bool"=Α Β)
  (z3:Ň K Ϡ "len"=Α Β)
  (z4:Ň K Ϡ "enumerate"=Α Β)
  (z5:Ň K Ϡ "tuple"=Α Β)
  (z6:Ň K Ϡ "range"=Α Β)
  (z7:Ň K Ϡ "list"=Α Β)
  (z8:Ň K Ϡ "all"=Α Β)
  (z9:Ň K Ϡ "sum"=Α Β)
  (z10:Ň K Ϡ "abs"=Α Β)
  (z11:Ň K Ϡ "str"=Α Β)
  (z12:Ň K Ϡ "min"=Α Β)
  (z13:Ň K Ϡ "max"=Α Β)
  (z14:Ň K Ϡ "reversed"=Α Β)
  (z15:Ň K Ϡ "reversed"=Α Β)
  (z16:Ň K Ϡ "zip"=Α Β)
  (z17:Ň K Ϡ "set"=Α Β)
  :∃fd:Đ,(∀(s:ύ)(v:Φ),N2 s fd ⟨[v],[]⟩ [("_law_script",v)])/\∀μ:Ó,K.In μ->μ.Ns Ϡ mg->HB l.prog w K mg μ aK 10 fa fd sw (uS K):=by
 have e:=Ke.symm.trans (Ś X G a51)
 cases e
 have T:dz mg:=⟨Ö X G z0,Ö X G z1,Ö X G z2,Ö X G z3,Ö X G z4,Ö X G z5,Ö X G z6,Ö X G z7,Ö X G z8,Ö X G z9,Ö X G z10,Ö X G z11,Ö X G z12,Ö X G z13,Ö X G z14,Ö X G z15,Ö X G z16,Ö X G z17⟩
 obtain⟨d1,H1⟩:=h1
 obtain⟨d2,H2⟩:=h2
 obtain⟨d3,H3⟩:=h3
 obtain⟨d4,D⟩:=h4
 obtain⟨d5,H5⟩:=h5
 obtain⟨d6,H6⟩:=h6
 obtain⟨d7,H7⟩:=h7
 obtain⟨d8,H8⟩:=h8
 obtain⟨d9,H9⟩:=h9
 obtain⟨d10,Nl⟩:=h10
 obtain⟨d11,H11⟩:=h11
 obtain⟨d12,H12⟩:=h12
 obtain⟨d13,H13⟩:=h13
 obtain⟨d14,H14⟩:=h14
 obtain⟨d15,H15⟩:=h15
 obtain⟨d16,H16⟩:=h16
 obtain⟨d17,H17⟩:=h17
 obtain⟨d18,H18⟩:=h18
 obtain⟨d19,H19⟩:=h19
 obtain⟨d20,H20⟩:=h20
 obtain⟨d21,H21⟩:=h21
 obtain⟨d22,H22⟩:=h22
 obtain⟨d23,H23⟩:=h23
 obtain⟨d24,H24⟩:=h24
 obtain⟨d25,H25⟩:=h25
 obtain⟨d26,H26⟩:=h26
 obtain⟨d27,H27⟩:=h27
 obtain⟨d28,H28⟩:=h28
 obtain⟨d29,H29⟩:=h29
 obtain⟨d30,H30⟩:=h30
 obtain⟨d31,H31⟩:=h31
 obtain⟨d32,H32⟩:=h32
 obtain⟨d33,H33⟩:=h33
 obtain⟨d34,H34⟩:=h34
 obtain⟨d35,H35⟩:=h35
 obtain⟨d36,YE⟩:=h36
 obtain⟨d37,Xu⟩:=h37
 obtain⟨d38,H38⟩:=h38
 obtain⟨d39,H39⟩:=h39
 obtain⟨d40,H40⟩:=h40
 obtain⟨d41,H41⟩:=h41
 obtain⟨d42,H42⟩:=h42
 obtain⟨d43,H43⟩:=h43
 obtain⟨d44,H44⟩:=h44
 obtain⟨d45,H45⟩:=h45
 obtain⟨d46,H46⟩:=h46
 obtain⟨d47,H47⟩:=h47
 obtain⟨d48,H48⟩:=h48
 obtain⟨d49,H49⟩:=h49
 obtain⟨d50,H50⟩:=h50
 obtain⟨d52,YF⟩:=h52
 obtain⟨d53,QB⟩:=h53
 obtain⟨d54,Ov⟩:=h54
 obtain⟨d55,YG⟩:=h55
 obtain⟨d56,H56⟩:=h56
 obtain⟨d57,Xv⟩:=h57
 obtain⟨d58,YH⟩:=h58
 obtain⟨d59,H59⟩:=h59
 obtain⟨d60,YI⟩:=h60
 obtain⟨d61,H61⟩:=h61
 obtain⟨d62,Xw⟩:=h62
 obtain⟨d63,YJ⟩:=h63
 obtain⟨d64,H64⟩:=h64
 obtain⟨d65,YK⟩:=h65
 obtain⟨d66,H66⟩:=h66
 obtain⟨d67,H67⟩:=h67
 obtain⟨d68,H68⟩:=h68
 obtain⟨d69,Xx⟩:=h69
 obtain⟨d70,H70⟩:=h70
 obtain⟨d73,H73⟩:=h73
 obtain⟨d74,H74⟩:=h74
 obtain⟨d75,H75⟩:=h75
 obtain⟨d76,H76⟩:=h76
 obtain⟨d77,H77⟩:=h77
 obtain⟨d78,H78⟩:=h78
 obtain⟨d79,H79⟩:=h79
 obtain⟨d80,H80⟩:=h80
 obtain⟨d81,H81⟩:=h81
 obtain⟨d82,H82⟩:=h82
 obtain⟨d83,H83⟩:=h83
 obtain⟨d84,H84⟩:=h84
 obtain⟨d85,H85⟩:=h85
 obtain⟨d86,H86⟩:=h86
 have F51:=mj (st:=oX) l51 c51 k51
 have F71:MS K "__init__" "Yard.__init__" jA SI _:=⟨⟨_,_,_,_,_,_,_,_,_,_,Κ,l71,c71⟩,k71⟩
 have F72:MS K "post" "Yard.post" jb Xc _:=⟨⟨_,_,_,_,_,_,_,_,_,_,Κ,l72,c72⟩,k72⟩
 have L:i3 K ⟨cL⟩:=⟨⟨p1cL,p2cL,p3cL,p4cL⟩,u,E⟩
 have Z:B0 K:=⟨kk1,kk2,kk3,kk4,kk5⟩
 have ZS:Vl K:=⟨kk6,kk7,kk8⟩
 have B:Tbl K mg ⟨cB,cD⟩ Xb _:=⟨⟨p1cB,p2cB,p3cB,p4cB⟩,Q,⟨p1cD,p2cD,p3cD,p4cD⟩,o,p,(Ś X G gcB),⟨w1cB,w2cB,w3cB,Xv.m.kp⟩,Xv.b⟩
 have BN:TbN K mg ⟨cB,cO⟩ Xb _:=⟨⟨p1cO,p2cO,p3cO,p4cO⟩,q,r,(Ś X G gcB),⟨w1cB,w2cB,w3cB,Xv.m.kp⟩,Xv.b⟩
 have Y:∀ex:List Ο,mG K ⟨cJ,cA,cH,ex⟩:=λ_=>⟨⟨p1cJ,p2cJ,p3cJ,p4cJ⟩,J,M,N,t,ncJlies,ncJdone,⟨p1cH,p2cH,p3cH,p4cH⟩,I,R,C,S,U,ncHway,⟨⟨p1cA,p2cA,p3cA,p4cA⟩,y,i,z,A⟩⟩
 have P9:=uk (kV:=Xk) (doc:=Xl) (pm:=Xm) (cdv:=RY) (ct:=Xn) (an:=Xe) d71 Κ
 have bp0:=rY (kV:=Xo) (doc:=Xp) (pm:=Xq) (cdv:=RZ) (ct:=Xr) (an:=Xf) d72 Κ
 have Mi:Mk K cL f52:=⟨p5cL,YF.m.at_,YF.m.fn,p6cL⟩
 have Mt:Mk K cD f58:=⟨p5cD,YH.m.at_,YH.m.fn,p6cD⟩
 have Mn:Mk K cO f60:=⟨p5cO,YI.m.at_,YI.m.fn,p6cO⟩
 have My:Mk K cJ SI:=⟨p5cJ,a71,i71,p6cJ⟩
 have Ma:Mk K cA f62:=⟨p5cA,Xw.m.at_,Xw.m.fn,p6cA⟩
 have Mh:Mk K cH f69:=⟨p5cH,Xx.m.at_,Xx.m.fn,p6cH⟩
 refine⟨oo "law" "law" (bX oX) (aB oX) (ag oX) .none Xg Xh Xi Xd RX Xj,λs v =>.of_eq Κ,λμ _ _=>?_⟩
 have Gm:HB l.prog w K mg μ aK 2 f2 _ _ _:=FS H2.F T H1.m H1.F H1.b
 have WG:=both (P:=λb=>Wy K (TC ⟨cB,cD⟩ ⟨cB,cO⟩ b) (JJ l.prog w ⟨cB,cD⟩ ⟨cB,cO⟩ b)/\Me l.prog w K mg μ (TC ⟨cB,cD⟩ ⟨cB,cO⟩ b) "ways" 3 kn (dq (JJ l.prog w ⟨cB,cD⟩ ⟨cB,cO⟩ b)))
  ⟨⟨⟨p1cO,p2cO,p3cO,p4cO⟩,q,λH H' x n wy h k=>S2.keep (n:=n) (wy:=wy) h k⟩,H61.ca (zE H61.F BN (H2.ca Gm))⟩ ⟨⟨⟨p1cD,p2cD,p3cD,p4cD⟩,o,λH H' x n wy h k=>KP.keep (n:=n) (wy:=wy) h k⟩,H59.ca (sH (zG H59.F B (H2.ca Gm)))⟩
 have g:=λb=>(WG b).1
 have Gb:=λb=>(WG b).2
 have Gw:HB l.prog w K mg μ aK 2 f5 _ _ _:=wQ H5.F T D.m D.F D.b
 have GwV:HB l.prog w K mg μ aK 2 f5 _ _ _:=tJ H5.F T Z D.m D.F D.b
 have GW:HB l.prog w K mg μ aK 1 f4 _ _ _:=nE D.F T Z
 have G2:=FI H7.F (H5.ca Gw)
 have Gi:=CW YF.F T L (H5.ca Gw) (H7.ca G2) (Ś X G mp) (Ś X G ml)
 have Go:HB l.prog w K mg μ aK 2 f6 _ _ _:=FO H6.F T D.m D.F D.b
 have Gin:HB l.prog w K mg μ aK 1 f56 _ _ _:=CV H56.F T L
 have Gf:=CZ H8.F T L (H7.ca G2) (H6.ca Go) (YG.ca (zK YG.F T L)) (H56.ca Gin)
 have G1:HB l.prog w K mg μ aK 1 Xb _ _ _:=FJ Xv.F
 have Gse:HB l.prog w K mg μ aK 1 f3 _ _ _:=FL H3.F
 have Gt:=C6 YH.F T B G1 (H8.ca Gf) (H3.ca Gse)
 have Ge:HB l.prog w K mg μ aK 1 f54 _ _ _:=Gu Ov.F L
 have Gh:=Gq H34.F T L (QB.ca (qU QB.F L)) (H56.ca Gin)
 have Gnl:=Vx H35.F T L (Ov.ca Ge) (YG.ca (zK YG.F T L))
 have Gn:=CL YI.F T L BN G1 (H34.ca Gh) (H35.ca Gnl) (H3.ca Gse)
 have Gro:=zH Nl.F T L (H5.ca GwV) (Ś X G mr)
 have Gwo:=C4 H11.F T (D.ca GW)
 have Gla:HB l.prog w K mg μ aK 1 f62 _ _ _:=FY Xw.F (Y []).L
 have Gop:HB l.prog w K mg μ aK 1 f63 _ _ _:=CH YJ.F (Y []).L
 have Gfr:HB l.prog w K mg μ aK 1 f65 _ _ _:=zU YK.F (Y []).L
 have Gpu:=FN H64.F (Y []).L (YJ.ca Gop)
 have Gpl:HB l.prog w K mg μ aK 1 f66 _ _ _:=CB H66.F (Y []).L
 have Gbr:HB l.prog w K mg μ aK 1 f67 _ _ _:=zZ H67.F (Y []).L
 have Gtw:=FX H68.F T (Y []).L (Ś X G gcA) Ma Xw.b Gla
 have Gle:HB l.prog w K mg μ aK 1 f69 _ _ _:=FW Xx.F (Y [])
 have Gtx:=FU H70.F T (Y []) (Ś X G gcH) Mh Xx.b Gle
 have Gy:=λ(b:Bool)(ex:List Ο)=>FH F71 T L (Y ex) (g b) (Nl.ca Gro) (Ś X G gcA) Ma Xw.b Gla
 have Gp:=λ(b:Bool)(ex:List Ο)=>CD F72 T L (Y ex) (g b) (Gb b) (H5.ca GwV) (H11.ca Gwo) (Ś X G gcH) Mh Xx.b Gle (Ś X G mh) (Ś X G mk)
 have Gol:=λex:List Ο=>CG H84.F (Y ex) (H68.ca Gtw)
 have Got:=λex:List Ο=>CF H85.F (Y ex) (H70.ca Gtx)
 have O:∀ex:List Ο,Own l.prog w K mg μ ⟨cJ,cA,cH,ex⟩:=λex=>⟨H84.ca (Gol ex),H85.ca (Got ex),H64.ca Gpu⟩
 have Gly:∀ex:List Ο,HB l.prog w K mg μ aK 1 f83 _ _ _:=λex=>FZ H83.F (Y ex)
 have Gen:=λex:List Ο=>zX H82.F (Y ex) (O ex)
 have Ggi:=λex:List Ο=>CY H81.F (Y ex) (O ex) (H82.ca (Gen ex))
 have Gon:=λb:Bool=>FP H9.F L (g b) (Gb b) (Ov.ca Ge)
 have Gmi:=λ(b:Bool)(ex:List Ο)=>CO (c:=⟨cL⟩) H74.F (Y ex) (g b) (Gb b) (YJ.ca Gop)
 have Gwa:=λ(b:Bool)(ex:List Ο)=>wR (c:=⟨cL⟩) H78.F (Y ex) (g b) (YK.ca Gfr) (H9.ca (Gon b))
 have Gmo:=λ(b:Bool)(ex:List Ο)=>CN (c:=⟨cL⟩) H75.F (Y ex) (g b) (YK.ca Gfr) (H78.ca (Gwa b ex)) (YJ.ca Gop)
 have Gml:=λ(b:Bool)(ex:List Ο)=>zL H76.F (Y ex) L (g b) (YK.ca Gfr) (Ov.ca Ge)
 have Gmb:∀(b:Bool)(ex:List Ο),HB l.prog w K mg μ aK 1 f77 _ _ (lh K ⟨cL⟩ (TC ⟨cB,cD⟩ ⟨cB,cO⟩ b) (JJ l.prog w ⟨cB,cD⟩ ⟨cB,cO⟩ b) ⟨cJ,cA,cH,ex⟩):=λb ex=>wT H77.F (Y ex)
 have MM:∀(b:Bool)(ex:List Ο),MvM l.prog w K mg μ ⟨cL⟩ (TC ⟨cB,cD⟩ ⟨cB,cO⟩ b) (JJ l.prog w ⟨cB,cD⟩ ⟨cB,cO⟩ b) ⟨cJ,cA,cH,ex⟩:=λb ex=>⟨H74.ca (Gmi b ex),H75.ca (Gmo b ex),H76.ca (Gml b ex),H77.ca (Gmb b ex)⟩
 have Gms:=λ(b:Bool)(ex:List Ο)=>zM H73.F T (Y ex) (g b) (MM b ex)
 have Gim:=CU H12.F T ZS (D.ca GW)
 have Glk:=λ(b:Bool)(ex:List Ο)=>CT H79.F T (Y ex) (g b) (MM b ex) (H12.ca Gim) (H5.ca GwV)
 have DM:∀(b:Bool)(ex:List Ο),DoM l.prog w K mg μ ⟨cL⟩ (TC ⟨cB,cD⟩ ⟨cB,cO⟩ b) (JJ l.prog w ⟨cB,cD⟩ ⟨cB,cO⟩ b) ⟨cJ,cA,cH,ex⟩:=λb ex=>⟨H79.ca (Glk b ex),H81.ca (Ggi ex),H82.ca (Gen ex),H66.ca Gpl,H67.ca Gbr,H83.ca (Gly ex)⟩
 have Gdo:=λ(b:Bool)(ex:List Ο)=>Vm H80.F (Y ex) L (g b) (O ex) (DM b ex) (Ov.ca Ge)
 have Ged:∀ex:List Ο,HB l.prog w K mg μ aK 1 f86 _ _ (kB K ⟨cJ,cA,cH,ex⟩):=λex=>zY H86.F T (Y ex)
 have j:∀b:Bool,mX K (TC ⟨cB,cD⟩ ⟨cB,cO⟩ b) (JX (TC ⟨cB,cD⟩ ⟨cB,cO⟩ b) (JJ l.prog w ⟨cB,cD⟩ ⟨cB,cO⟩ b)):=λb=>WO (g b)
 have Gz:=λb:Bool=>EL (Gb b)
 have Gh0:HB l.prog w K mg μ aK 1 f1 _ _ _:=zT H1.F
 have XH:Ht l.prog w K mg μ:=⟨H1.ca Gh0⟩
 have Xy:HB l.prog w K mg μ aK 1 f53 _ _ _:=qU QB.F L
 have God:HB l.prog w K mg μ aK 2 f6 _ _ _:=CI H6.F T D.m D.F D.b
 have Gnx:HB l.prog w K mg μ aK 1 f21 _ _ _:=CK H21.F T
 have Gnb:=CJ H22.F (H21.ca Gnx)
 have Gbk:HB l.prog w K mg μ aK 1 f23 _ _ _:=Dc H23.F T
 have Grg:=CA H24.F T (H23.ca Gbk)
 have Ghs:=C8 H26.F T L (H5.ca Gw)
 have Gwf:=C5 H28.F XH
 have YL:=λb:Bool=>VH H9.F L (j b) (g b).nl (Gz b) (Ov.ca Ge)
 have Jw:=λb:Bool=>wS H13.F T L (j b) (g b).nl (Gz b)
 have Gfi:=λb:Bool=>zV H14.F T L (j b) (g b).nl (Gz b)
 have Gah:=λb:Bool=>Ab (c:=⟨cL⟩) H15.F T (j b) (H14.ca (Gfi b)) (H9.ca (YL b))
 have Gme:=λb:Bool=>FR H16.F T L (j b) (g b).nl (H15.ca (Gah b))
 have Gis:=λb:Bool=>wW H17.F L (j b) (g b).nl (Ov.ca Ge) (H9.ca (YL b))
 have Glo:=λb:Bool=>CQ (c:=⟨cL⟩) H18.F T (j b) (H16.ca (Gme b)) (H2.ca Gm) (H17.ca (Gis b))
 have Gld:=λb:Bool=>zQ (c:=⟨cL⟩) H20.F T (j b) (H2.ca Gm) (H9.ca (YL b))
 have Xz:=λb:Bool=>CS (c:=⟨cL⟩) H25.F T (j b) (H18.ca (Glo b)) (H16.ca (Gme b)) (H20.ca (Gld b)) (H22.ca Gnb) (H24.ca Grg)
 have Gsf:=λb:Bool=>FK (c:=⟨cL⟩) H27.F (j b) (Gz b) XH (H13.ca (Jw b))
 have Gpf:=λb:Bool=>zJ (c:=⟨cL⟩) H29.F (j b) (H9.ca (YL b)) (H28.ca Gwf)
 have Glf:=λb:Bool=>zS H30.F L (j b) (g b).nl (Ov.ca Ge) (H2.ca Gm) (H29.ca (Gpf b))
 have Gfa:=λb:Bool=>zW (c:=⟨cL⟩) H31.F T (j b) (g b).nl (H26.ca Ghs) (H27.ca (Gsf b)) (H30.ca (Glf b))
 have Gwt:=λb:Bool=>zF H19.F T L (j b) (g b).nl (H5.ca Gw) (H6.ca God) (H15.ca (Gah b))
 have Gco:=λb:Bool=>Da H44.F T L (j b) (g b).nl (Gz b) (Ov.ca Ge) (QB.ca Xy) (H19.ca (Gwt b))
 have CM:∀b:Bool,Y3 l.prog w K mg μ ⟨cL⟩ (TC ⟨cB,cD⟩ ⟨cB,cO⟩ b) (JX (TC ⟨cB,cD⟩ ⟨cB,cO⟩ b) (JJ l.prog w ⟨cB,cD⟩ ⟨cB,cO⟩ b)):=λb=>⟨(g b).nl,Gz b,(Ov.ca Ge),H44.ca (Gco b)⟩
 have G1l:=λb:Bool=>zP H45.F L (j b) (CM b)
 have G2l:=λb:Bool=>zO H46.F T L (j b) (CM b)
 have G3l:=λb:Bool=>wV H49.F T L (j b) (CM b) (H31.ca (Gfa b))
 have Gcs:=λb:Bool=>Gv H32.F T L (g b) (Gb b) (QB.ca Xy) (H9.ca (Gon b))
 have Gso:=λb:Bool=>C7 (ys:=⟨cJ,cA,cH,[]⟩) H33.F T L (Y []) (g b) (H32.ca (Gcs b)) (QB.ca Xy) (Ś X G gcJ) My P9 (Gy b [])
 have Gpp:=λb:Bool=>zI H47.F T L (g b) ⟨Gb b,(Ov.ca Ge),(QB.ca Xy)⟩
 have Gss:=λb:Bool=>tK (ys:=⟨cJ,cA,cH,[]⟩) H48.F T L (Y []) (g b) ⟨H33.ca (Gso b),H47.ca (Gpp b),(QB.ca Xy),(Ś X G gcJ),My,P9,Gy b [],⟨_,_,⟨a72,i72,k72⟩,bp0,Gp b []⟩,H73.ca (Gms b []),H80.ca (Gdo b []),H86.ca (Ged [])⟩
 have Gc:HB l.prog w K mg μ aK 1 f36 _ _ _:=Db YE.F T
 have Gx:HB l.prog w K mg μ aK 1 f37 _ _ _:=FQ Xu.F
 have Gl:=zR H38.F T (Xu.ca Gx)
 have Grs:=C9 H39.F T (Xu.ca Gx)
 have TM:TbM l.prog w K mg μ ⟨cL⟩ ⟨cB,cD⟩ ⟨cB,cO⟩ f52 f60 f58 _ _ _:=⟨YE.ca Gc,H38.ca Gl,(Ś X G gcL),Mi,YF.b,Gi,(Ś X G gcO),Mn,YI.b,Gn,(Ś X G gcD),Mt,YH.b,Gt,H39.ca Grs⟩
 have Glt2:=CP (c:=⟨cL⟩) H40.F TM
 have Gbg:=λb:Bool=>Aa H41.F T L (g b) (Gb b)
 have Glr:=λb:Bool=>wU H42.F T L (g b) (Xu.ca Gx)
 have Gps:=λ(b:Bool)(ex:List Ο)=>CC (c:=⟨cL⟩) H43.F T (Y ex) (g b) ⟨_,_,⟨a72,i72,k72⟩,bp0,Gp b ex⟩
 have Grr:=λb:Bool=>zN (c:=⟨cL⟩) (ys:=⟨cJ,cA,cH,[]⟩) H50.F T (Y []) (g b) ⟨H73.ca (Gms b []),H80.ca (Gdo b []),H86.ca (Ged []),H43.ca (Gps b []),H41.ca (Gbg b),H42.ca (Glr b),(Ś X G gcJ),My,P9,Gy b [],YE.ca Gc,Xu.ca Gx⟩
 exact Gj (c:=⟨cL⟩) (ts:=⟨cB,cD⟩) (tn:=⟨cB,cO⟩) F51 T ⟨YE.ca Gc,H40.ca Glt2,H25.ca (.ex Xz),H42.ca (.ex Glr),H45.ca (.ex G1l),H46.ca (.ex G2l),H48.ca (.ex Gss),H49.ca (.ex G3l),H50.ca (.ex Grr),g⟩
end
theorem walk{l:PySem.W.OpenLaw}{K:Params->ϧ}(g:l.most=Α 63)(i:d.params.defaults=[])
  (j:∀(w:Å)(h:Ó),YP w h->(K w.params).In h)
  (F:∀(w:Å)(b:Str->Option Φ)(c:Ο)(h:Ó),(K w.params).In h->h.Ns Ϡ b->b d.name=Α (.ref c)->
   ∃e:Đ,(∀(s:ύ)(u:Φ),N2 s e ⟨[u],[]⟩ [("_law_script",u)])/\∀μ:Ó,(K w.params).In μ->μ.Ns Ϡ b->HB l.prog w (K w.params) b μ aK 10 c e sw (uS (K w.params))):
  PySem.W.WalkO q loose XP YP l.row.toRowW d [] (λf m=>PySem.call f m):=
 _L2.Ki (n:=63) (k:=10) (x:="_law_script") (CX:=λ_=>aK) (sp:=λw=>uS (K w.params)) g (by decide) i ⟨Κ,by decide,by decide⟩ j F (λ_ _ a o p _ r=>⟨a,o,Κ,r,p,λ_=>rfl⟩) λ_ _ _ _ _ z=>z
end _K
structure PySem.W.Fast:Prop where
 (tw7342350146390904084 tw9741292556591703100 tw5758175596980795981 tw5750504159485709730 tw8537398989443698456 tw16831430271343291737 tw9628949978439975372 tw11201991566616097108 tw11608006656886940223 tw18163630916816077772 tw5080362801681168317 tw8238060901216876298 tw9625472566410179041 tw11386198211479609190 tw14141313077841712318 tw12240762720915677867 tw13724350474094287207 tw15112488825724011081 tw12972520015654443627 tw13490174853769810147 tw13367492946626138468 tw10413350737665126299 tw18312205779300217778 tw2234342959909137714 tw17694634769994678084 tw2144909980852610442 tw17335453511691371202 tw4529672378919444602 tw14116530572858438900 tw13624799443266395786 tw2922099349878470704 tw3942450519042342903 tw10935460363198697841 tw14797338804416711334 tw1765601383155439063 tw10293138855525589794 tw16249863905335438465 tw17036150222565631517 tw1970239513055194408 tw6782865464723783491 tw4203676805084781128 tw3388012733709642950 tw6258637031559358426 tw16114132659091440003 tw4547516392213428319 tw12013194644600268724 tw17987546817959325242 tw15819894352156139304 tw12095795016170013366 tw6064641318899043182 tw2272958413705874805 tw6286769217383403724 tw5080690526273986401 tw8120145636971434460 tw4781068142715786883 tw5610960074259038652 tw3375733070599898023 tw8820711503853998954 tw444439072970341962 tw6193317202657455506 tw9501309538838702043 tw6078393238095851723 tw16758127796466783587 tw10271840609816667405 tw16039613586515055854 tw14051192976121998111 tw11115211013067018937 tw13434449248471568643 tw4134163456132383877 tw688824201784860077 tw8756171121508874439 tw15446405000392556890 tw5123918473452434335 tw9367139368280731800 tw7678653628658083878 tw3499260804159328034 tw17312207155180599713 tw14306450700292252248 tw17476617583275232105 tw16170969095958949829 tw5069038634582212920 tw6920805989766857398 tw15810723057007768986 tw3069019704724638395 tw15325257353146307902 tw12435948252101027714 tw5921709918474456239 tw14194158020223674482 tw15736486803171089501 tw13737386827453706217 tw363050224555394175 tw3249011182725469282 tw1024809379443906907 tw1802856318984100886 tw14133848032465884357 tw4265725839249414628 tw8897416642996105741 tw5406294081533788212 tw1879393185961556796 tw16097611946638520631 tw10044008471175265522 tw11476202189169929118 tw10045429376859910583 tw9038187723419405464 tw10540035924744342231 tw13617372870477983798 tw16119151793379119291 tw747353387028566665 tw9816846529048278402 tw4114689946027722596 tw1816151281354435330 tw10310090925111539621 tw8243100526635468399 tw15654552923283309728 tw8841720718058286367 tw11298623392336862975 tw3705645981394576673 tw4993763286611484058 tw17298059506365892513 tw8664218823324066014 tw17283931907968661505 tw8580097049860392629 tw419899735905522346 tw15005791653422890794 tw818053327465694484 tw6386313184425498054 tw7247154263305813068 tw6353889006508193901 tw6753791798289108718 tw7302301361475711490 tw10086172120991368505 tw17388436149158827203 tw4174166091848619960 tw17377815584624270249 tw10885220751273182773 tw15385800995575589803 tw5584230906752471689 tw3828343826273328343 tw4391108947167869081 tw3530366596228811456 tw15863597427269673132 tw9911750921698105317 tw541056465261402616 tw11421950063408013349 tw18350915971253296089 tw15087222233667789202 tw1858817158229323848 tw13474572025346795074 tw9223102761464056032 tw5998399715307134777 tw9509440038903644204 tw7096387402888449955 tw15310130451847896460 tw7574143774367728998 tw6148863508242336168 tw16950156788866148008 tw641357979713944133 tw10847302511639293095 tw2716442797394585514 tw10344742559396803716 tw275790028650460774 tw6194487852171283043 tw1555479621542536732 tw14650363865372827781 tw10996551537762733123 tw8742092717357018019 tw6360444401645124302 tw10916887568621617499 tw15602938708923411590 tw10813618570445296574 tw9871581098331389476 tw4331568662582633610 tw18007030385426054108 tw7827493810239813027 tw3039734297401810816 tw5054476219761718970 tw12948563127570509114 tw13938261022853593194 tw8223895594975024196 tw12440266585890272137 tw13266205276488161160 tw17342319883600910540 tw12388376768637372166 tw9731945040448913627 tw16751563858057432041 tw14607596056494627261 tw3827531805908641114 tw4506910712782072571 tw13051231745158382236 tw579734134541940008 tw402585495491424908 tw12969799022698551693 tw17273044191579703617 tw7697329541404134972 tw11014953466041845483 tw7099396868095449588 tw8082160570653554134 tw5182502570983233589 tw9067028001624284842 tw2110072697983706429 tw13426517626743701031 tw2374914478450299530 tw18395084255330465926 tw3219950284581472103 tw14225865943820520041 tw6886627134162603693 tw13070817035349135153 tw12074876306248512957 tw7035824480636517842 tw17028059186467031540 tw18040983303924501859 tw15101100329892769728 tw10446783331632149815 tw11948134285473639399 tw8637142780831553758 tw5905106789906945701 tw5360734346465049533 tw263287628269410570 tw17504537497167126082 tw5991800202255860634 tw18162613987257319611 tw10833773332607395031 tw810603295220663514 tw17233401672900637111 tw5744526793386871200 tw1334699294460478754 tw11207433809175885992 tw7298454381671403791 tw8394973916304193850 tw18004613217670269400 tw16650685328954836351 tw17393184383194399372 tw463090938885610867 tw2156757413559399870 tw5063353212839274153 tw3737431516860832445 tw6289990969462467674 tw6075561585693225133 tw13370026145612218777 tw11230788143839899388 tw14474528584873204594 tw1068958384649713919 tw8992706071319597133 tw9378201003043786760 tw12797821492563970795 tw6501201076828252606 tw5194417983591656430 tw16901289700967100798 tw11765726897355462027 tw10957144877880380103 tw15749062254858822350 tw2391770605702210753 tw6951809090121395933 tw509181630963302298 tw4069774100859412960 tw18113471746844985406 tw14946615103338201195 tw6693247226833702709 tw9784638684394249656 tw6281088918162610989 tw3322325444313153713 tw1807654206119725741 tw11664098759285581046 tw9859026845272483164 tw3584010994028064103 tw9202335040145825048 tw17390378385387922349 tw13913630679189568771 tw1868968661624592463 tw267444326053529463 tw5059850125583522900 tw5124540633011638427 tw6087065575955731323 tw12784815476279906024 tw11622360794576982522 tw3786989597421533577 tw996189418402566105 tw16876748222003612393 tw10944769194401864120 tw8741331470070644447 tw12832829247748270273 tw14371764859270247506 tw9315482978044859047 tw13747197608728801293 tw13971012670617090393 tw15435788267280561692 tw16461298522928017332 tw8317828049235391962 tw270150388249196185 tw10900514610720556863 tw16060507139288663636 tw11861011923076529352 tw5696375807905605590 tw8477681166632450547 tw11948438863912568283 tw14967107749519315235 tw3631903862843904597 tw13097634227395291547 tw7273776063235875602 tw10236995022165274534 tw8255105320340173745 tw763453319595669202 tw8259413821001302043 tw2357878008677279085 tw1531747270416257388 tw11507118530077287474 tw10759775786490861515 tw16517074963482822875 tw15449053426419409326 tw11267407631830190531 tw8682492185375633333 tw6350251494921787094 tw5716768180990932136 tw17366045358441112049 tw1658986178845846166 tw16892322185434554006 tw17996746132992644828 tw14352904584119321186 tw8523164184682121548 tw14030944464472622941 tw8623400124868849892 tw10993045865369306145 tw14134112622238054009 tw10000176870731187111 tw5782792469479043923 tw15091568331944846715 tw13962287298550436173 tw3370302138470341196 tw12498131439730729389 tw10416733703396198458 tw16008135255197308487 tw1664293767907405949 tw8384468821882079095 tw3254664345711936548 tw15512248743088590899 tw14749568946260010781 tw7457699072545010759 tw3754091802664043424 tw2005262506179786634 tw18433258692325765769 tw15271049307867167534 tw13964101883293818015 tw12672203013538519373 tw12482058271035739771 tw2625780241410653117 tw16266456805489995128 tw11663537728174810522 tw14205959901714049878 tw2932249535324760996 tw1105089630581464095 tw17664311824553339988 tw11128689198782488838 tw7503739103643766025 tw5759285630558715791 tw1603355901188403813 tw14341089074213867446 tw12227969202014422453 tw1148816733094448519 tw6550116829404667955 tw9445451984702677265 tw4214676961970596271 tw11419950067978485335 tw14389743635023052332 tw11247794595107435472 tw5369861235526620717 tw7226430233829341027 tw5863127773347940676 tw18179369229840152557 tw123341490613471785 tw12792934812613188531 tw15530511069932902442 tw11682032071388180725 tw1449809082616550307 tw6167948163669226869 tw17411800131728651934 tw8018927880922033388 tw12548062517463816712 tw16474398163423438442 tw15233711592195574595 tw8087450654241743124 tw15865298527629448154 tw3302671922421464823 tw7509857841049473136 tw7008373168496431051 tw14812799418389163302 tw16117786729480817866 tw4609859092044236740 tw6554591184920665080 tw4355881487028780769 tw7555887148689228144 tw13752123103538346777 tw15877250055551487876 tw5119242381429822395 tw16366057688089262844 tw15284118048836265771 tw11373445093627128838 tw9006374743598427854 tw5335991389482550443 tw4339379425938454630 tw18070134309869052384 tw6367122290824161240 tw15262797340403065431 tw11270325606565040603 tw2976370150161060168 tw14094324157892308968 tw13695833787276941167 tw10364445506251858232 tw6430776729742189885 tw8617332887157650000 tw10714194558897396136 tw9374916852404309623 tw6435783105912112847 tw6285676083108211864 tw18101592723653395541 tw8332316621821158689 tw8081460106646305074 tw13771955937399010189 tw7608266027841700421 tw16959058557014005813 tw6418721886950352091 tw6199929713085807066 tw17010592500712795565 tw16720624687631823711 tw11495408534693344107 tw3064947680555771984 tw16153984217693743608 tw16325083473598351793 tw7952338166042471137 tw7763611794695725613 tw14890284153846953732 tw12043196099931072364 tw17639266707943919388 tw16877673260764586890 tw3358678844589350480 tw9107660906775014008 tw7937613548098499779 tw443337198010006486 tw16361617130622165459 tw13320739634119019706 tw12592057979440205393 tw6290125194622396173 tw521174902955033173 tw2984477143893698100 tw773719219168693080 tw6273219243773532531 tw3583107988523222744 tw14712824332252347319 tw6590559349436920088 tw6975464926239944179 tw6529662043518065846 tw8291905744094451803 tw18051377387663141336 tw13899941824899015745 tw6290496440247575631 tw2021900390495674880 tw16421420336412494595 tw18077559285543186561 tw6085464999327269730 tw13986059997867358007 tw3609151744208473099 tw6336230007373823690 tw7253279512332602063 tw5436653626105427486 tw8902947254068391707 tw9776170159823038879 tw3689996862627178832 tw2956685161303281530 tw16747110213736236717 tw3224045743114959531 tw3384462558555398126 tw9865542882935182219 tw4612980844048153672 tw3231141011310470892 tw2807750402808081698 tw8421430465987650206 tw10632032224846681142 tw18443239512055808933 tw9264803642234517793 tw3440440870592822832 tw1217497406326344639 tw140108526713179717 tw17087924566144074118 tw16619206024185744659 tw13580152505265588083 tw11991993604822769513 tw13151769031824985352 tw3403667837078986784 tw3730006054194462676 tw1256817684739497500 tw11660997177125578094 tw18329956260597148727 tw11602477539401140613 tw11151181770606486258 tw8651817898367429042 tw2333694226026144101 tw16007817998313262988 tw9432620171472025214 tw8166240670270487610 tw777004574955776191 tw14467054528543130902 tw9469770527935416909 tw11858377307466577138 tw12194921101919954571 tw4343530226941182732 tw11782978094533258431 tw16776018162726296454 tw5885744467447197470 tw3800396755291854920 tw3159948566555931372 tw1600707737167602479 tw7870955091106123423 tw3105121771913610098 tw3818763749596877645 tw1544657631970111433 tw8254194065294241625 tw207108564942138268 tw15380900409274430328 tw1193360336166926487 tw16038010891839460909 tw3751984990060074337 tw14041951032352237608 tw13469015076834960236 tw3151049817204584216 tw17696771329019675322 tw13413781448089850419 tw11823313484416338954 tw11456759276314369235 tw6305600105315205926 tw14958674547179482369 tw10519762813511561256 tw5799947381312896923 tw7886880179978899689 tw967615170539637237 tw9328281417985515565 tw8358779061924757293 tw8041097549087361691 tw3342251726217104968 tw16667354755611068880 tw14550255459909470348 tw4991678128774063012 tw913699656186340794 tw15993374652669820121 tw12512735211012148779 tw6276098638256911055 tw13758666560385152176 tw2975656742849780907 tw14693845653234572177 tw15910405094255512911 tw12184085150304599136 tw13983270708429241005 tw7500504611486607237 tw4385214536860086618 tw1571862406807184468 tw7192220646726157792 tw16163878100273748420 tw15224570884120901860 tw4787571493047363071 tw18324079847101931307 tw1636724983225378438 tw16203152581358255463 tw14533703876006499357 tw11213774706160018541 tw16826277832585546615 tw6974359937470308780 tw3585643231548483086 tw17685767764051030324 tw8775800267582010747 tw4823656384068581066 tw3172639947175144781 tw2217789108587133184 tw13229915338600363189 tw987529055845279602 tw9375560168425058642 tw3263078567080300329 tw1647056457089535125 tw13930918948519402516 tw11352460006236503478 tw10605280331212995676 tw9586378907311316746 tw5445406721606399345 tw12344720938764581271 tw9525965745282902238 tw16572179861475685526 tw2158890481607492203 tw9270742964021507432 tw8609213208283196007 tw8171510610611232013 tw3008350135014950780 tw2013376029690167973 tw17433343453647536746 tw14130405738578110754 tw12754518155237543949 tw11803529326342632013 tw10028775221184456362 tw8949999848100867618 tw5460276990660281766 tw18283052433823884469 tw17214404698769217328 tw5622704951669924806 tw2960222977162741350 tw10354718394055414030 tw4396357664031429043 tw6245584954061345314 tw4629513847725709200 tw12688543704589428545 tw965850777888726524 tw15814337724003814522 tw12529740289348123859 tw6720986504148726588 tw4372372253351508128 tw4164585710016779574 tw15329763749889207173 tw1480608020289478028 tw12961395003028908791 tw9344722651168652420 tw345356738846440035 tw16777095816012963548 tw15080357132167661626 tw13874324826496469131 tw11436362219017758780 tw10809770408080626203 tw10666231059646369535 tw6515949615619185944 tw11178436139422107234 tw2646791985839257009 tw13617267553761376369 tw18141656585107041042 tw16169052843035587090 tw9352738435497402377 tw717625955173413837 tw2629945126612627950 tw17328622157747168213 tw13890177812128000285 tw13720883263662279295 tw12660531518899780019 tw11816255555755205799 tw117889720793465793 tw10832673544891469217 tw14450043709323816829 tw5755372449904655852 tw1676237598854342734 tw9897623316121835727 tw9269523533037745718 tw909453923168489269 tw798389440138409979 tw701799101767492894 tw6269002164894153982 tw4547609867641846405 tw3106395229506026159 tw2707165775960242599 tw1996223126566210591 tw18227167978042235671 tw18194856064391477701 tw17765899246419380689 tw17589192380026112055 tw16669632437758390495 tw14842030282453201879 tw12346353709124954761 tw12135584171148312577 tw11957605507329891992 tw11933370028422939778 tw1123209314168915019 tw9798367376531898068 tw9665474273660943284 tw8896256787601068519 tw7768918211916912554 tw7393903026755856987 tw6981409017940442075 tw6219182340507759786 tw5266181258265768475 tw4430475291324384874 tw3356219671757168808 tw3233256811772462467 tw2238853301048785023 tw18343031746997533889 tw16614257981758239537 tw1616485754738481524 tw14511302875085472801 tw1342288455202998474 tw1283518952396644687 tw10334630052752440083 tw10143981078012313151 tw2647144981450076518 tw6247114735590950358 tw5454193223210749898 tw8547885857836166880 tw7998269601400472973 tw7856563045467496722 tw6984528577591269485 tw6847824122397370159 tw6829479642335403691 tw5824735579155835404 tw4833911251712519148 tw464016282168387143 tw2306748007251917198 tw15736429389738068472 tw12840911201762396427 tw12289232630074115277 tw1221955122339981359 tw9463982815437926132 tw9335661319763329017 tw8963642807902417922 tw8792481365580601360 tw773242234704705352 tw6664845609118232652 tw6122159030333861333 tw550895187066200598 tw4954999705130150603 tw3489460128728688128 tw2402249421503593983 tw2220031673903583583 tw17618315812139336723 tw16365672369996637747 tw16034954193144858241 tw1570778645782457567 tw15233253859565977856 tw13388094904458258696 tw103019178580217069 tw10220930380357111342 tw12384588750309988815 tw10581093570360067745 tw9939681615288312794 tw9925413679004685208 tw986900889188196340 tw9847568800563612579 tw9678096338268598918 tw9614663872789063660 tw954799081716081621 tw9545919906557950559 tw9342272360531988267 tw919987714081294757 tw91439358433845177 tw8960265271420091835 tw8826763067166565681 tw8794622511727908319 tw8784273645619053648 tw8774487996351042743 tw8756225132367099614 tw8612552164698910776 tw8561603656785823292 tw852769294323143518 tw8451446559138035905 tw8397558444744995274 tw8382905653758132792 tw8289792967989945492 tw8262289373026244386 tw8193235670195461385 tw8126102636499331652 tw8120226223067142758 tw7986649737658328784 tw7895779541039670734 tw7675241856250202040 tw7459909685475623254 tw736338383387973993 tw7323019346953549500 tw7175968067473909569 tw7166755716048901965 tw7162315002212154634 tw6986862515434921626 tw6936295327335494308 tw6926555293623833906 tw6884847567312398295 tw6850475625527860478 tw6716238210494242166 tw6676445253646165918 tw6620646992461144964 tw6494861550467448994 tw6394680585752242640 tw6297001200630414102 tw6177920754369050669 tw6168219948857292055 tw6167343010876051320 tw6134767674440383275 tw6118307779287782303 tw5814665313716442661 tw5697926465704690104 tw5689399852656452478 tw5655550186614494557 tw5549288106163956614 tw551615497668433866 tw544518401823728161 tw5391778820941624930 tw5378882692353665848 tw5304771684323784260 tw5156507996566027919 tw5088380274053985640 tw5039407408889670506 tw5015027437737721227 tw4850729023325881118 tw467889632715932670 tw4529311595561027939 tw4514438042090553706 tw4491060458024324843 tw4402204301706049286 tw4386941924044756680 tw4349216603757822539 tw4317962185568532966 tw4308480287618558680 tw4295065817337956050 tw4277197088477040439 tw4223923040736924821 tw4142940863156359218 tw4116351381933307292 tw3998812822790867540 tw3932449531435738501 tw3847232858752542057 tw376513991244981716 tw3732001546036195499 tw3729385007498576594 tw359927474895126834 tw3589651631641262787 tw3505835963884226431 tw3500625741919835124 tw349705635783222805 tw3494586087716048570 tw3492962582650646267 tw3485133312199250725 tw3481990191691440120 tw3462424756871680377 tw3399304765845316909 tw3397465435328411768 tw3305003544889165304 tw329521951925520577 tw3111291959900270318 tw2980343505165201515 tw2947197701052150852 tw2913823350079693039 tw2874999889074311927 tw284768626173095269 tw2783356877375831543 tw2744106924628636535 tw2672913209037644889 tw2668890552466195648 tw2668490368742418591 tw2606853082543953180 tw2379487138505124606 tw2330082105052620925 tw2225732767504060700 tw2225399203728567805 tw217608226239278739 tw20962401529864001 tw2048674102267882987 tw194488607550244739 tw1927287429272353373 tw18323409405882730458 tw1830154196458910419 tw18179749791381676150 tw18136388766309710130 tw18126815101286302346 tw17958727919142512734 tw17940478671554887051 tw17931457370852579838 tw17908186043524644011 tw17670988749942785774 tw1758878610987405529 tw17502239373362875251 tw17279294366818028218 tw17165474885447351930 tw17129834931903958685 tw17087851211609493484 tw17057157359051545919 tw16954721130997105566 tw16857709781288527127 tw16816326710661085253 tw16811769707794170507 tw16777241698647476467 tw16719000181789097355 tw16676681531132573380 tw16404883470873242586 tw16344018785110283052 tw16302394166802549061 tw16215620919338431257 tw16206786711321032751 tw16183703995242796326 tw16128443868497075867 tw16037091534833232857 tw15985243180423250564 tw15968478464226447346 tw15788499351681018096 tw15642245071725087934 tw15634886283884871214 tw15537785322094080245 tw15513707261576645278 tw15351857093198271483 tw15309364432642234470 tw15187100423849347017 tw15183587069871650480 tw15146647056080394296 tw15123535788345874653 tw15099878853110860204 tw15026065143876216736 tw15023628146863978396 tw14913640791499988202 tw1482747985558160552 tw14799211342403918552 tw14646505078189791818 tw14646007204327106246 tw14489372378539180699 tw14391227870196154897 tw14388195118303287291:True)
open PySem PySem.W PyProof.Rows
set_option maxRecDepth 100000 in
set_option maxHeartbeats 0 in
theorem PySem.Challenge.cw_wormyard_k91_whole_look_and_run_holds : PySem.Challenge.rw_wormyard_k91_whole_look_and_run.Holds := by
 w_on;o_law;k_head;(case hw=>w_witness2)
 k_fill
 refine _K.walk (l:=PySem.Challenge.rw_wormyard_k91_whole_look_and_run) rfl rfl (λw h Y=>PySem.W.kIn_of Y) ?F
 case F =>
  intro w mg fa h KX G hmg
  refine' _K.all_mk KX G hmg ?Aa ?Ab ?Ac ?Ad ?Ae ?Af ?Ag ?Ah ?Ai ?Aj ?Ak ?Al ?Am ?An ?Ao ?Ap ?Aq ?Ar ?As ?At ?Au ?Av ?Aw ?Ax ?Ay ?Az ?Ba ?Bb ?Bc ?Bd ?Be ?Bf ?Bg ?Bh ?Bi ?Bj ?Bk ?Bl ?Bm ?Bn ?Bo ?Bp ?Bq ?Br ?Bs ?Bt ?Bu ?Bv ?Bw ?Bx ?By ?Bz ?Ca ?Cb ?Cc ?Cd ?Ce ?Cf ?Cg ?Ch ?Ci ?Cj ?Ck ?Cl ?Cm ?Cn ?Co ?Cp ?Cq ?Cr ?Cs ?Ct ?Cu ?Cv ?Cw ?Cx ?Cy ?Cz ?Da ?Db ?Dc ?Dd ?De ?Df ?Dg ?Dh ?Di ?Dj ?Dk ?Dl ?Dm ?Dn ?Do ?Dp ?Dq ?Dr ?Ds ?Dt ?Du ?Dv ?Dw ?Dx ?Dy ?Dz ?Ea ?Eb ?Ec ?Ed ?Ee ?Ef ?Eg ?Eh ?Ei ?Ej ?Ek ?El ?Em ?En ?Eo ?Ep ?Eq ?Er ?Es ?Et ?Eu ?Ev ?Ew ?Ex ?Ey ?Ez ?Fa ?Fb ?Fc ?Fd ?Fe ?Ff ?Fg ?Fh ?Fi ?Fj ?Fk ?Fl ?Fm ?Fn ?Fo ?Fp ?Fq ?Fr ?Fs ?Ft ?Fu ?Fv ?Fw ?Fx ?Fy ?Fz ?Ga ?Gb ?Gc ?Gd ?Ge ?Gf ?Gg ?Gh ?Gi ?Gj ?Gk ?Gl ?Gm ?Gn ?Go ?Gp ?Gq ?Gr ?Gs ?Gt ?Gu ?Gv ?Gw ?Gx ?Gy ?Gz ?Ha ?Hb ?Hc ?Hd ?He ?Hf ?Hg ?Hh ?Hi ?Hj ?Hk ?Hl ?Hm ?Hn ?Ho ?Hp ?Hq ?Hr ?Hs ?Ht ?Hu ?Hv ?Hw
  case Aa|Ab|Ac|Ad|Ae|Af|Ag=>k_is
  case Ah|Ai|Aj|Ak|Al|Am|An|Ao|Ap|Aq|Ar|As|At|Au|Av|Aw|Ax|Ay|Az|Ba|Bb|Bc|Bd|Be|Bf|Bg|Bh|Bi|Bj|Bk|Bl|Bm|Bn|Bo|Bp|Bq|Br|Bs|Bt|Bu|Bv|Bw|Bx|By|Bz|Ca|Cb|Cc|Cd|Ce|Cf|Cg|Ch|Ci|Cj|Ck|Cl|Cm|Cn|Co|Cp|Cq|Cr|Cs|Ct|Cu|Cv|Cw|Cx|Cy|Cz|Da|Db|Dc|Dd|De|Df|Dg|Dh|Di|Dj|Dk|Dl|Dm|Dn|Do|Dp|Dq|Dr|Ds|Dt|Du|Dv|Dw|Dx|Dy|Dz|Ea|Eb=>first|(refine' _K.mkT (by assumption) (by assumption) ?b ?a ?l ?c ?k;(case b=>first|exact λ_ _ _ _ _ _=>_K.len_of1 (λ_=>rfl)|exact λ_ _ _ _ _ _=>_K.len_of2 (λ_ _=>rfl)|exact λ_ _ _ _ _ _=>_K.len_of3 (λ_ _ _=>rfl)|exact λ_ _ _ _ _ _=>_K.len_of4 (λ_ _ _ _=>rfl)|exact λ_ _ _ _ _ _=>_K.len_of5 (λ_ _ _ _ _=>rfl));(case a=>k_is);(case l=>k_is);(case c=>k_is);(case k=>k_is))|(refine' _K.mkM ?b ?a ?l ?c ?k ?i;(case b=>first|exact λ_ _ _ _ _ _=>_K.len_of1 (λ_=>rfl)|exact λ_ _ _ _ _ _=>_K.len_of2 (λ_ _=>rfl)|exact λ_ _ _ _ _ _=>_K.len_of3 (λ_ _ _=>rfl)|exact λ_ _ _ _ _ _=>_K.len_of4 (λ_ _ _ _=>rfl)|exact λ_ _ _ _ _ _=>_K.len_of5 (λ_ _ _ _ _=>rfl));(case a=>k_is);(case l=>k_is);(case c=>k_is);(case k=>k_is);(case i=>k_is))|k_is
  case Ec|Ed|Ee|Ef|Eg|Eh|Ei|Ej|Ek|El|Em|En|Eo|Ep|Eq|Er|Es|Et|Eu|Ev|Ew|Ex|Ey|Ez|Fa|Fb|Fc|Fd|Fe|Ff|Fg|Fh|Fi|Fj|Fk|Fl|Fm|Fn|Fo|Fp|Fq|Fr|Fs|Ft|Fu|Fv|Fw|Fx|Fy|Fz|Ga|Gb|Gc|Gd|Ge|Gf|Gg|Gh|Gi|Gj|Gk|Gl|Gm|Gn|Go|Gp|Gq|Gr|Gs|Gt=>k_is
  case Gu|Gv|Gw=>first|k_is|kernel_rfl
  case Gx|Gy|Gz|Ha|Hb|Hc|Hd|He=>kit_is
  case Hf|Hg|Hh|Hi|Hj|Hk|Hl|Hm|Hn|Ho|Hp|Hq|Hr|Hs|Ht|Hu|Hv|Hw=>k_is
