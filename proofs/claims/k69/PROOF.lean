import PyProof.Rows.All
import Wide.All
import OpenK.AllK
import Wide.FinOn
import Lean
import PyProof.EqAt
import PyProof.EqKinds
import PyProof.TupleCall
import PyProof.ExcBaseAll.ValueError
import PyProof.EnumMake
import PyProof.Rows.EnumRows
import PyProof.TupleIter
import PyProof.DictValues
import PyProof.CollectStr
import PySem.Builtin.Int.W1All
import PyProof.DictRoadsH
import PyProof.DictKinds
import PyProof.FactsAll.NoneType
import KE.KRevIter
import PyProof.FactsAll.list_3
import KE.KDictList
import PyProof.DictIter
import PyProof.DictWalks
import PyProof.ListRange
import PyProof.Rows.SumAny
import PyProof.Rows.SeqCalls
import PyProof.P3In
import PyProof.DictItems
import KE.KPairComp
import PyProof.FactsAll.dict_3
import PyProof.CollectIter
import PyProof.TupleOfGen
import PyProof.TupleOfSeq
import PyProof.FactsAll.subtypes_4
import PyProof.ZipIter
import KE.KDictLaws
import PyProof.DictRoadsH
import PyProof.Rows.TupDisplay
import PySem.Challenge.RW_wormyard_k69_whole_searches
set_option compiler.extract_closed false
set_option Elab.async false
set_option linter.all false
set_option maxRecDepth 100000
set_option maxHeartbeats 4000000
theorem η0(h:1=1:=by rfl):1=1:=h
def η:=η0._auto_1
theorem θ0(h:1=1:=by decide):1=1:=h
def θ:=θ0._auto_1
theorem ζ0(h:1=1:=by first|exact .inl rfl|exact .inr rfl|assumption):1=1:=h
def ζ:=ζ0._auto_1
theorem ξ0(h:1=1:=by decide +kernel):1=1:=h
def ξ:=ξ0._auto_1
theorem ψ0(h:1=1:=by intro _;rfl):1=1:=h
def ψ:=ψ0._auto_1
open Array renaming length_toList→ŭ,forIn_toList→L3
open Bool renaming false_ne_true→Ϝ,and_eq_true→Ö,false_eq_true→à,true_and→Ě,not_eq_true'→Ĩ,not_true→ĵ,eq_iff_iff→ĸ,not_false→Ũ,false_or→Hm
open Classical renaming byContradiction→č
open False renaming elim→î
open ForInStep renaming yield→œ
open Int renaming toNat_natCast→ϋ,emod_lt_of_pos→á,emod_nonneg→æ,zero_add→ĥ,le_refl→Œ,fdiv_eq_ediv_of_nonneg→A2,natAbs_natCast→Pq,emod_eq_of_lt→PV,natCast_pow→Ry
open Int.ofNat renaming inj→ly
open List renaming getElem?_eq_getElem→Μ,length_map→Ο,length_append→Υ,mem_singleton→Φ,getD_eq_getElem?_getD→Ω,range→ό,mem_of_getElem?→Ϗ,getElem?_append_left→Ϙ,length_singleton→ϙ,getElem?_map→ϝ,mem_cons_self→ϟ,mem_append→Ϣ,getElem?_eq_some_iff→ϥ,mem_cons_of_mem→ϧ,mem_append_right→Ϩ,replicate→Ϫ,size_toArray→ϭ,mem_cons→Ϯ,map_append→ϯ,mem_append_left→Ä,mem_filter→Å,map_cons→Ç,getElem?_concat_length→È,not_mem_nil→É,mem_range→Ë,getElem?_eq_none→Í,length_filter_le→Ò,mem_map→Õ,getElem?_set_ne→Ú,take_length→Þ,take_succ→ß,nodup_nil→ä,length_range→å,length_replicate→é,map_map→ê,nodup_cons→ë,mem_of_mem_take→ì,lookup_cons→ð,getLast?_eq_getElem?→ñ,getElem_of_mem→ô,find?_cons→õ,getElem?_of_mem→ö,getElem?_append_right→ø,mem_of_head?→û,getElem?_replicate→ü,filter_append→ÿ,find?_eq_none→Ă,length_take_le→Ą,length_reverse→ą,mem_flatMap→Ć,length_take→ć,length_drop→Ĉ,getElem?_reverse→ĉ,length_set→Ċ,filter_cons_of_neg→ċ,append_assoc→Č,sum_cons→đ,length_pos_iff→ĕ,length_cons→Ė,getElem_mem→ė,append_nil→Ę,eq_of_mem_replicate→Ġ,getElem?_set→ħ,range_succ→ĩ,all_eq_true→ĭ,take_of_length_le→İ,nodup_append→ı,idxOf_lt_length_of_mem→Ĵ,lookup→Ķ,getElem?_drop→ņ,getLast?_eq_some_iff→ŋ,getElem?_eq_none_iff→Ō,foldl_append→Ŏ,map_congr_left→ŗ,getElem?_set_self→ş,mem_of_mem_head?→ŧ,pairwise_append→Ű,mem_of_mem_drop→ű,getElem?_range→Ų,pairwise_iff_getElem→ż,mem_take_iff_getElem→Ž,map_eq_nil_iff→ž,getElem_map→b6,getElem_inj→cb,filter_eq_self→cc,any_cons→cy,zip_cons_cons→gf,nil_append→ic,eq_nil_of_length_eq_zero→iy,filter_eq_nil_iff→pS,ext_getElem?→qp,append_eq_nil_iff→q7,mem_of_find?_eq_some→vr,getLast?_eq_none_iff→wh,getElem?_zip_eq_some→zz,mem_reverse→GZ,length_erase_of_mem→Hg,replicate_succ'→HK,mem_of_getLast?→Ia,filter_cons_of_pos→Ii,pairwise_lt_range→Jq,map_nil→Js,head?_eq_getElem?→Jx,idxOf_cons→JV,foldl_cons→JX,flatMap_append→Kd,filterMap_cons→Ke,length→K8,reverse_append→Lj,mem_map_of_mem→Lx,getElem_idxOf→Ly,set_cons_zero→MH,set_cons_succ→MY,mem_filterMap→Na,getElem?_take→Ni,reverse_cons→O9,find?_append→OO,filter_congr→OV,any_eq_false→Ph,nodup_range→QN,all_cons→Rx,of_mem_zip→S6,forIn_cons→S7,filter_map→S8,map_take→UA,map_drop→UD
open List.Pairwise renaming nil→š,filter→ll
open List.cons renaming injEq→ő,inj→Ť
open Nat renaming le_refl→Ξ,lt_of_lt_of_le→Ϥ,zero_le→Ϧ,ne_of_lt→Ê,le_trans→Î,lt_of_le_of_lt→ă,add_le_add_left→Đ,zero_lt_one→Ĕ,lt_succ_self→ĝ,lt_or_ge→Ĥ,not_lt_zero→ī,lt_irrefl→Ĭ,pow_le_pow_right→Ľ,zero_testBit→Ŭ,ne_of_gt→Ż,add_assoc→e6,lt_succ_of_lt→eH,testBit_lt_two_pow→hW,min_eq_left→GK,testBit_two_pow→HI,testBit_or→JJ,le_of_lt→JQ,lt_trichotomy→Lh,succ_le_succ→NO,min_eq_right→NX,le_succ→O0,two_pow_pos→Q1,lt_trans→U5,le_of_eq→U6,add_zero→U9
open Ne renaming symm→ϛ
open Option renaming isSome_map→è,getD_none→Ő,getD_some→ew,isSome_iff_exists→ri,toList_some→K2
open Option.some renaming inj→Ψ
open Or renaming inl→ύ,inr→ġ
open Prod renaming fst→Â,snd→ç
open Prod.mk renaming injEq→Ŋ
open PyProof.Rows renaming boot_isinstance→Ì,callWith_type1→Ô,boot_all→Ĝ,AllBare→ū,envOfC→ź,boot_range→e7,boot_sum→hH,IntsAre→pD,subscriptTail_builtinR→NN,Subscript_→S1,Call_→TR
open PySem renaming Addr→Ν,Value→Ρ,wpAny_bind→Τ,sizeLine→Χ,Shared→ϊ,sizeLine_eq→ϗ,wpAny_pure→Ϛ,mainGlobals→ϡ,model→ϩ,wpAny→ϫ,World→Ϭ,starEach→Á,Stmt→Ã,Around→Ð,FuncData→Ñ,Heap→Ù,sysModules→Û,wpAny_truthy_bool→Ý,cLine→í,wpAny_mono→ò,tupleKind_room_in1→ó,wpAny_specialOf→ú,PyData→ý,wpAny_passesOwn→Ď,HeapKind→ď,backTo→ē,bootBuiltins→ě,NameKind→Ģ,tupleKind→Ī,wpAny_call_entry→Ĺ,wpAny_holding→ľ,behindInMarks→Ł,attributeBase→ł,sliceBounds→Ń,letOwnedTupleGo→Ň,codeAny→ō,wpAny_pyIter_tuple→Ŕ,wpAny_Call_Name_kw→ŕ,wpAny_pyIter_enum→ś,keywordEach→Ŝ,swapsWith→ť,wpAny_Assign_Subscript→ũ,assignEach→Ū,wpAny_loadPart'→Ů,wpAny_execs_nil→ů,wpAny_callSpecialIfBoundUnlessNone?_slot→ų,wpAny_seqItems→ŷ,atKey→Ÿ,holding→c0,wpAny_tupleItemsOf→gg,wpAny_setItem_heap→gi,wpAny_newObj_type→m1,valueAt→n7,foldedSetIterable→nD,codeAny_mono→nF,callerA→nI,backToKw→oa,Keyword→ot,wpAny_isInstance→rl,wpAny_forIn_list→rx,wpAny_eqBool_int→rz,seqIndex?→r4,noFill_tuple_add→tf,wpAny_field→A4,subscripted→A6,storedH→Ik,standAt→Il,BindsTo→Jo,wpAny_rule→JD,typeLookup→JE,call_meets→JG,GenState→JH,wpAny_standAt→KC,wpAny_comprehension_free→KD,seq_tuple_add→KH,wpAny_callSpecial?_slot→LS,wpAny_pyNext_enum_endD→N3,wpAny_Call_method_late→N4,concat_meets→N5,IsEnum→N7,wpAny_isTrue_Compare1→Pt,isSubtype_tuple_tuple→PM,builtinLookup_eq_fast→PU,wpAny_loadName_local→PX,seqIndex_of→Qf,bindL→Qu,bindC→Qx,bindArgs→Qy,wpAny_loadName_cell→Rz,wpAny_Name→R1,revObj→RI,rawInt→Se,entryOfKey→Sl,builtinsNs→So,wpAny_pyIter_list→SV,wpAny_assign_Name→Ta,slot_list_getitem→Tn,putAt→Tp,ItemsOf→TB,Code→Ux
open PySem.Around renaming under→E3
open PySem.BindsTo renaming of_defaults→IZ
open PySem.Builtin renaming bitAnd→ù,bitNot→ğ,bitOr→ň
open PySem.Builtin.Int renaming intBits→Ó
open PySem.Builtin.List renaming listTooLong→ķ,listExtendWith→Ŵ,listSameRef→et
open PySem.Builtin.SmallTypes renaming nextOf→þ
open PySem.Builtin.Tuple renaming tupleHashOf→â
open PySem.Calls renaming callWith_builtin→ģ,spliced_cons→Ņ,evalArgs_plain→Ŧ,spliced_nil→Ź,Name_function_global→pk
open PySem.Code renaming isFrame→Iz
open PySem.F renaming slot_tuple_iterator_next→Ē,slot_NoneType_hash→ļ,slot_tuple_hash→Ř,slot_tuple_eq→ua,args_tuple_iterator_next_1→ub,entry_tuple_iterator_next→E1
open PySem.Heap renaming get?_push_of_some→ώ,get?_push_size→Ϡ,SameBut→Ħ,get?_update_other→Ş,get?_update_self→ţ
open PySem.Heap.SameBut renaming update→oD
open PySem.NameKind renaming free→ā,cell→mu
open PySem.Obj renaming mapSeq→Š,data_mapFields→N6
open PySem.PassesOwn renaming never→Ϟ
open PySem.PyData renaming eqv→ę,depthAll→Ś,canLay0→Ţ,depth→ŵ,canLayAll0→Ŷ
open PySem.SeqAt renaming EqAt→ã,shaped→Ļ,eqv_refl→oo
open PySem.SeqAt.EqAt renaming str_int→D0,int_str→D3
open PySem.Str renaming empty→ř
open PySem.Value renaming ref→Æ,isInt→Ā,none→Į,int→Ŗ,bool→Lf,isInt_shape→MG
open PySem.W renaming Frag→ϣ,keepIn→ϳ,findIn→Ø,mg_none_of→Ü,kitOne→Ğ,nsIn→į,hasDictIn→ĺ,plainGet→ń,plainOver→ŏ,mg_of→ŝ,makesIn→ec,fnOf→gy,codeIn→hF,OpenLaw→Tu
open Sum renaming inl→Ï,inr→ï
open Sum.inl renaming inj→HD
open True renaming intro→À
open Option renaming some→Β,none→Γ
open Bool renaming true→Δ,false→Ε
theorem Ζ{p:Prop}[Decidable p](h:p):decide p=true:=decide_eq_true h
theorem Η{p:Prop}[Decidable p](h:¬p):decide p=false:=decide_eq_false h
theorem Θ{c:Prop}{_:Decidable c}(h:¬c){α:Sort u}{t e:α}:ite c t e=e:=if_neg h
theorem Ι{c:Prop}{_:Decidable c}(h:c){α:Sort u}{t e:α}:ite c t e=t:=if_pos h
theorem Κ{a b:Prop}(h:a)(k:¬a):b:=absurd h k
theorem Λ{α:Sort u}{a:α}:a=a:=rfl
open PySem.W (isFn)
open List (all_map)
open PySem.F (args_tuple_add_2 entry_tuple_add plainAttrs_list slot_list_extend slot_list_index slot_tuple_add type_list_extend)
open PySem.Heap (lt_size size_push)
noncomputable section
abbrev L2.zQ0:PySem.Scope:={kind:=.function,names:=[],isGenerator:=Ε,isCoroutine:=Ε}
theorem L2.gQ0{b:Type}{l:List b}{a:b}(h:l[i]?=Β a):i<l.length:=(ϥ.mp h).1
namespace L2
theorem LW{b:Type}{l:List b}(h:l.length=n+1):∃a t,l=a:: t/\t.length=n:=by
 cases l with
 |nil=>cases h
 |cons a t=>exact⟨a,t,Λ,Nat.succ.inj h⟩
open PySem PySem.Spec PyProof.Rows
abbrev Key:=Sum Int Str
noncomputable def lJ:Key->Ρ->Bool
 |.inl k,v=>Ā k v
 |.inr x,v=>Ρ.isStrOf x v
noncomputable def VL(w:Ϭ):Key->Int
 |.inl k=>hashInt k
 |.inr x=>hashStr w x
theorem bS:∀{k:Key}{v:Ρ},lJ k v=Δ->(∃i t,k=Ï i/\v=Ŗ i t)∨(∃x t,k=ï x/\v=Ρ.str x t)
 | .inl i,v,h=>by
  obtain⟨t,e⟩:=MG (k:=i) (v:=v) h
  exact .inl ⟨i,t,Λ,e⟩
 | .inr x,v,h=>by
  obtain⟨t,e⟩:=Ρ.isStrOf_shape (x:=x) (v:=v) h
  exact .inr ⟨x,t,Λ,e⟩
theorem vm(i:Int)(t:Tok):lJ (.inl i) (.int i t)=Δ:=by simp[lJ,Ā]
theorem vk(x:Str)(t:Tok):lJ (.inr x) (.str x t)=Δ:=by simp[lJ,Ρ.isStrOf]
theorem Dj(a b:Int):decide ((Ï a:Key)=Ï b)=(a == b):=by
 by_cases e:a=b
 ·subst e;simp
 ·have h:¬(Ï a:Key)=Ï b:=λq=>e (HD q)
  rw[Η h]
  exact(beq_eq_false_iff_ne.mpr e).symm
theorem Df(a b:Str):decide ((ï a:Key)=ï b)=decide (a=b):=by
 by_cases e:a=b
 ·subst e;simp
 ·have h:¬(ï a:Key)=ï b:=λq=>e (ï.inj q)
  rw[Η h,Η e]
theorem Di(a:Int)(b:Str):decide ((Ï a:Key)=ï b)=Ε:=Η (λq=>nomatch q)
theorem Dg(a:Str)(b:Int):decide ((ï a:Key)=Ï b)=Ε:=Η (λq=>nomatch q)
noncomputable def bA(prog:Program)(w:Ϭ):PySem.KeyKind prog w Key where
 is:=lJ
 hash:=VL w
 inj:=λv a b ha hb=>by
  rcases bS ha with ⟨i,t,rfl,rfl⟩|⟨x,t,rfl,rfl⟩
  ·rcases bS hb with ⟨j,u,rfl,e⟩|⟨y,u,rfl,e⟩
   ·injection e with e1 _;rw[e1]
   ·exact nomatch e
  ·rcases bS hb with ⟨j,u,rfl,e⟩|⟨y,u,rfl,e⟩
   ·exact nomatch e
   ·injection e with e1 _;rw[e1]
 byValue:=λk v h=>by
  rcases bS h with ⟨i,t,rfl,rfl⟩|⟨x,t,rfl,rfl⟩<;>rfl
 pyHash:=λhv h=>by
  rcases bS hv with ⟨i,t,rfl,rfl⟩|⟨x,t,rfl,rfl⟩
  ·exact wpAny_pyHash_int h
  ·exact wpAny_pyHash_str h
 eqBool:=λhu hv h=>by
  rcases bS hu with ⟨i,t,rfl,rfl⟩|⟨x,t,rfl,rfl⟩
  ·rcases bS hv with ⟨j,u,rfl,rfl⟩|⟨y,u,rfl,rfl⟩
   ·rw[Dj]at h;exact rz h
   ·rw[Di]at h;exact D3 i t y u _ _ _ _ h
  ·rcases bS hv with ⟨j,u,rfl,rfl⟩|⟨y,u,rfl,rfl⟩
   ·rw[Dg]at h;exact D0 x t j u _ _ _ _ h
   ·rw[Df]at h;exact wpAny_eqBool_str h
 «strs»:=λk x t v h=>by
  rcases bS h with ⟨i,u,rfl,e⟩|⟨y,u,rfl,e⟩
  ·exact nomatch e
  ·injection e with e1 _
   subst e1
   cases v<;>rfl
theorem qz(a:Program)(w:Ϭ)(i:Int)(t:Tok):(bA a w).is (.inl i) (.int i t)=Δ:=vm i t
theorem qy(a:Program)(w:Ϭ)(x:Str)(t:Tok):(bA a w).is (.inr x) (.str x t)=Δ:=vk x t
open PySem.Spec PyProof.Rows
inductive V where
 |Eg|bl (b:Bool)|int (i:Int)|str (x:Str)|IQ (b:Array UInt8)|MR (b:UInt64)|ref (a:Ν)|ty (n:String)
 deriving DecidableEq
def RelV:V->Ρ->Prop
 |.Eg,u=>u=Į
 |.bl b,u=>u=Lf b
 |.int i,u=>∃t,u=Ŗ i t
 |.str x,u=>∃t,u=Ρ.str x t
 |.IQ b,u=>∃t,u=Ρ.bytes b t
 |.MR b,u=>∃t,u=Ρ.float b t
 |.ref a,u=>u=Æ a
 |.ty n,u=>u=Ρ.type n
abbrev υ:List V->List Ρ->Prop:=Paired RelV
theorem υ.length(r:υ xs us):xs.length=us.length:=Paired.length r
theorem υ.get:∀{xs:List V}{us:List Ρ}{i:Nat}{x:V},υ xs us->xs[i]?=Β x->∃u,us[i]?=Β u/\RelV x u
 |_,_,_,_,.nil,e=>by simp at e
 |_,_,0,_,.cons r _,e=>by simp at e;subst e;exact⟨_,Λ,r⟩
 | _,_,i+1,x,.cons _ t,e=>by
  obtain⟨u,a,b⟩:=υ.get (i:=i) (x:=x) t (by simpa using e)
  exact⟨u,by simpa using a,b⟩
theorem υ.set(r:RelV x u):∀{xs:List V}{us:List Ρ}(i:Nat),υ xs us->υ (xs.set i x) (us.set i u)
 |_,_,_,.nil =>.nil
 |_,_,0,.cons _ t =>.cons r t
 |_,_,i+1,.cons q t =>.cons q (υ.set r i t)
theorem υ.append:∀{xs a:List V}{us b:List Ρ},υ xs us->υ a b->υ (xs++a) (us++b)
 |_,_,_,_,.nil,s=>s
 |_,_,_,_,.cons r t,s =>.cons r (υ.append t s)
theorem υ.take:∀{xs:List V}{us:List Ρ}(n:Nat),υ xs us->υ (xs.take n) (us.take n)
 |_,_,0,_ =>.nil
 |_,_,_+1,.nil =>.nil
 |_,_,n+1,.cons r t =>.cons r (υ.take n t)
theorem υ.drop:∀{xs:List V}{us:List Ρ}(n:Nat),υ xs us->υ (xs.drop n) (us.drop n)
 |_,_,0,r=>r
 |_,_,_+1,.nil =>.nil
 |_,_,n+1,.cons _ t=>υ.drop n t
theorem υ.none_of:∀{xs:List V}{us:List Ρ}{i:Nat},υ xs us->xs[i]?=Γ->us[i]?=Γ:=λ{xs us i} r e=>by
 have a:=r.length
 have b:=Ō.mp e
 exact Ō.mpr (by omega)
def ET:Option V->Option Ρ->Prop
 |some v,Β u=>RelV v u
 |none,Γ=>True
 |_,_=>False
def KV{κ:Type}:List (κ×V)->List (κ×Ρ)->Prop:=Paired λ(p:κ×V)(q:κ×Ρ)=>p.1=q.1/\RelV p.2 q.2
noncomputable def kV:Key->V
 |.inl i =>.int i
 |.inr x =>.str x
inductive HO where
  |ρ (xs:List V)
  |tup (xs:List V)
  |dK (kvs:List (Key×V))|dT (kvs:List (List Key×V))
  |set (S:Int->Bool) (n:Nat)
  |ς (C dx:Ν) (fs:List (Str×V))
  |own (x:Ν)
  |xd (fs:List (Str×V))
  |met (f x:Ν)
  |VM (lo hi:Int)
  |Fq (o:Obj) (u:HO)
  |LX (ps:Array Ρ)
  |ext (φ:Ù->Prop)
abbrev Hp:=Ν->Option HO
noncomputable def π(H:Hp)(a:Ν)(o:HO):Hp:=λb=>if b=a then Β o else H b
theorem ac:π H a o a=Β o:=by unfold π;rw[Ι Λ]
theorem af(h:b≠a):π H a o b=H b:=by unfold π;rw[Θ h]
theorem ze:π (π H a o) a u=π H a u:=by
 funext b;unfold π;split<;>rfl
theorem aT{H:Hp}(h:H a=Β o)(c:H b=Β u)(d:o≠u):a≠b:=by
 intro e;subst e;rw[h]at c;exact d (Ψ c)
theorem ag{H:Hp}(h:H a=Β o)(c:H b=Γ):a≠b:=by
 intro e;subst e;rw[h]at c;cases c
def EZ(h:Ù)(a:Ν)(items:Array Ρ):Prop:=∃o,h.get? a=Β o/\(o.cls=.type "tuple"/\∃n,o.data=.seq items n)/\o.dict=Γ
theorem EZ.isTup:EZ h a items->IsTup h a items:=λb=>by obtain⟨o,e,c,_⟩:=b;exact⟨o,e,c⟩
theorem EZ.new(h:Ù)(a:Array Ρ):EZ (h.push {cls:=.type "tuple",data:=.seq a}) h.objs.size a:=⟨_,Ϡ _ Λ,⟨Λ,_,Λ⟩,Λ⟩
section
variable (P:Program)(w:Ϭ)
def Er(H:Hp)(h:Ù)(a:Ν):HO->Prop
 |.ρ xs=>xs.length<=Χ/\∃(DV:List Ρ)(n:Nat),υ xs DV/\h.get? a=Β {cls:=.type "list",data:=.seq DV.toArray n}
 |.tup xs=>xs.length<=Χ/\∃DV:List Ρ,υ xs DV/\EZ h a DV.toArray
 |.dK kvs=>kvs.length<=Χ/\(a == Û)=Ε/\∃vs,KV kvs vs/\h.DictOf (bA P w) a vs
 | .dT kvs=>kvs.length<=Χ/\(a == Û)=Ε/\∃xs:List (List Key×Ν×Ρ),
   Paired (λ(p:List Key×V)(q:List Key×Ν×Ρ)=>p.1=q.1/\H q.2.1=Β (.tup (p.1.map kV))/\RelV p.2 q.2.2) kvs xs/\
   ∃o es ep,h.get? a=Β o/\o.ExactDict/\o.data=.dict es ep/\es.toList=xs.map (Sl (Ī (bA P w)))/\(xs.map (·.1)).Nodup
 |.set S n=>h.SetOf (intKind P w) a S n
 | .ς C dx fs=>H dx=Β (.own a)/\fs.length<=1000/\dx≠a/\h.get? a=Β (PySem.W.instObj C dx)/\
   ∃mA,h.Ns1 dx mA/\(∀f,ET (fs.lookup f) (mA f))/\PySem.Within mA (fs.map (·.1))
 |.own _=>∃o,h.get? a=Β o
 |.xd fs=>∃mA,h.Ns1 a mA/\∀f,ET (fs.lookup f) (mA f)
 |.VM lo hi=>∃t u v,h.get? a=Β {cls:=.type "range",data:=.fields #[.int lo t,.int hi u,.int 1 v]}
 |.Fq o u=>h.get? a=Β o/\Er H h a u
 |.LX ps=>h.get? a=Β {cls:=.none,data:=.fields ps}
 |.met f x=>h.get? a=Β (PySem.W.methodObj (.ref f) (.ref x))
 |.ext φ=>φ h/\(∃o,h.get? a=Β o)/\∀h1 h2:Ù,φ h1->(∀o,h1.get? a=Β o->h2.get? a=Β o)->φ h2
def Ft(H:Hp)(h:Ù):Prop:=∀a o,H a=Β o->Er P w H h a o
end
section
variable {P:Program}{w:Ϭ}{H H':Hp}{h h':Ù}{a:Ν}{o:HO}
theorem Er.lt(x:Er P w H h a o):a<h.objs.size:=by
 cases o with
 |ρ xs=>obtain⟨_,_,_,_,e⟩:=x;exact lt_size e
 |tup xs=>obtain⟨_,_,_,p⟩:=x;exact p.isTup.lt
 |dK b=>obtain⟨_,_,_,_,o,_,_,e,_⟩:=x;exact lt_size e
 |dT b=>obtain⟨_,_,_,_,o,_,_,e,_⟩:=x;exact lt_size e
 |set S n=>obtain⟨o,_,_,_,e,_⟩:=x;exact lt_size e
 |ς C c fs=>obtain⟨_,_,_,e,_⟩:=x;exact lt_size e
 |own y=>obtain⟨_,e⟩:=x;exact lt_size e
 |xd fs=>obtain⟨_,⟨_,_,_,e,_⟩,_⟩:=x;exact lt_size e
 |VM d g=>obtain⟨_,_,_,e⟩:=x;exact lt_size e
 |Fq i u=>obtain⟨e,_⟩:=x;exact lt_size e
 |LX ps=>exact lt_size (x)
 |met f y=>exact lt_size (x)
 |ext j=>obtain⟨_,⟨_,e⟩,_⟩:=x;exact lt_size e
theorem Paired.MS:∀{c:List α}{d:List β},Paired F c d->(∀a b,F a b->G a b)->Paired G c d
 |_,_,.nil,_ =>.nil
 |_,_,.cons r t,f =>.cons (f _ _ r) (Paired.MS t f)
theorem Er.EU(x:Er P w H h a o)(k:∀b u,(b=a∨H b=Β (.own a))->h.get? b=Β u->h'.get? b=Β u)
  (D:∀b,H b=Β (.own a)->H' b=Β (.own a)) (E:∀b xs,H b=Β (.tup xs)->H' b=Β (.tup xs)):Er P w H' h' a o:=by
 induction o with
 |ρ xs=>obtain⟨z,l,n,r,e⟩:=x;exact⟨z,l,n,r,k _ _ (.inl Λ) e⟩
 |tup xs=>obtain⟨z,l,r,g,e,c⟩:=x;exact⟨z,l,r,g,k _ _ (.inl Λ) e,c⟩
 |dK m=>obtain⟨z,y,F,r,g,i,j,e,c⟩:=x;exact⟨z,y,F,r,g,i,j,k _ _ (.inl Λ) e,c⟩
 | dT m =>
  obtain⟨z,y,xs,r,g,i,j,e,c⟩:=x
  exact⟨z,y,xs,Paired.MS r λp q z=>⟨z.1,E _ _ z.2.1,z.2.2⟩,g,i,j,k _ _ (.inl Λ) e,c⟩
 |set S n=>obtain⟨g,i,j,t,e,c⟩:=x;exact⟨g,i,j,t,k _ _ (.inl Λ) e,c⟩
 | ς C J fs =>
  obtain⟨d,z,ne,e,s,⟨A,i,j,G,c⟩,r⟩:=x
  exact⟨D _ d,z,ne,k _ _ (.inl Λ) e,s,⟨A,i,j,k _ _ (.inr d) G,c⟩,r⟩
 |own y=>obtain⟨g,e⟩:=x;exact⟨g,k _ _ (.inl Λ) e⟩
 |xd fs=>obtain⟨s,⟨A,i,j,e,c⟩,r⟩:=x;exact⟨s,⟨A,i,j,k _ _ (.inl Λ) e,c⟩,r⟩
 |VM K L=>obtain⟨t,u,v,e⟩:=x;exact⟨t,u,v,k _ _ (.inl Λ) e⟩
 |Fq g u I=>obtain⟨e,q⟩:=x;exact⟨k _ _ (.inl Λ) e,I q⟩
 | LX ps =>
  have e:=x
  exact k a _ (.inl Λ) e
 | met f y =>
  have e:=x
  exact k a _ (.inl Λ) e
 |ext M=>obtain⟨p,⟨o,e⟩,B⟩:=x;exact⟨B _ _ p λo q=>k _ _ (.inl Λ) q,⟨o,k _ _ (.inl Λ) e⟩,B⟩
theorem Ft.lt(x:Ft P w H h)(e:H a=Β o):a<h.objs.size:=(x a o e).lt
theorem Ft.fresh(x:Ft P w H h)(e:h.objs.size<=a):H a=Γ:=by
 cases q:H a with
 |none=>rfl
 |some u=>exact Κ (Ϥ (x.lt q) e) (Ĭ _)
theorem Ft.kept(x:Ft P w H h)(k:∀b u,h.get? b=Β u->h'.get? b=Β u):Ft P w H h':=λa o e =>
 (x a o e).EU (λb u _ q=>k b u q) (λ_ q=>q) λ_ _ q=>q
theorem Ft.laid(x:Ft P w H h)(k:∀b u,h.get? b=Β u->h'.get? b=Β u)(g:h.objs.size<=a)(new:Er P w (π H a o) h' a o):Ft P w (π H a o) h':=λb u e=>by
 have d:=x.fresh g
 by_cases f:b=a
 ·subst f;rw[ac]at e;cases e;exact new
 ·rw[af f]at e
  exact(x b u e).EU (λc v _ q=>k c v q) (λc q=>by rw[af (ag q d)];exact q) λc xs q=>by rw[af (ag q d)];exact q
end
def Rd(H:Hp)(a:Ν)(u:HO):Prop:=H a=Β u∨∃o,H a=Β (.Fq o u)
theorem Rd.ok(r:Rd H a u)(x:Ft P w H h):Er P w H h a u:=by
 rcases r with r|⟨o,r⟩
 ·exact x a u r
 ·obtain⟨_,q⟩:=x a _ r
  exact q
def Pp:Option HO->Prop
 |some (.ρ _)=>True
 |some (.dK _)=>True
 |some (.dT _)=>True
 |some (.set _ _)=>True
 |some (.ς _ _ _)=>True
 |some (.ext _)=>True
 |_=>False
section
variable {P:Program}{w:Ϭ}{H:Hp}{h h':Ù}{x e:Ν}{o':HO}
theorem Ft.write(ok:Ft P w H h)(a:Pp (H x))(i:e=x∨H e=Β (.own x))(k:∀b u,b≠e->h.get? b=Β u->h'.get? b=Β u)(m:∃u,h'.get? e=Β u)
  (new:Er P w (π H x o') h' x o'):Ft P w (π H x o') h':=λb u q=>by
 have j:∀c y,H c=Β (.own y)->c≠x:=λc y r z=>by subst z;rw[r]at a;exact a
 have o:∀c xs,H c=Β (.tup xs)->c≠x:=λc xs r z=>by subst z;rw[r]at a;exact a
 by_cases d:b=x
 ·subst d;rw[ac]at q;cases q;exact new
 ·rw[af d]at q
  by_cases f:b=e
  ·have l:H b=Β (.own x):=by
    rcases i with z|z
    ·exact Κ (f.trans z) d
    ·rw[f];exact z
   rw[q]at l;cases l
   obtain⟨v,p⟩:=m
   exact⟨v,by rw[f];exact p⟩
  ·refine(ok b u q).EU (λc v g r=>k c v ?_ r) (λc r=>by rw[af (j c b r)];exact r) λc xs r=>by rw[af (o c xs r)];exact r
   rcases g with rfl|g
   ·exact f
   ·rintro rfl
    rcases i with z|z
    ·exact j c b g z
    ·rw[g]at z;cases z;exact d Λ
end
structure Un(fs ex:List Ν)(H H':Hp)(h h':Ù):Prop where
 keep:∀b o,h.get? b=Β o->H b=Γ->b∉fs->b∉ex->h'.get? b=Β o
 slot:∀b o,h.get? b=Β o->H b=Γ->b∈fs->b∉ex->∃sl,h'.get? b=Β {o with slots:=sl}
 free:∀b o,h.get? b=Β o->H b=Γ->b∉ex->H' b=Γ
 there:∀b o,h.get? b=Β o->b∉ex->∃o',h'.get? b=Β o'
 GH:∀b xs,H b=Β (.tup xs)->H' b=Β (.tup xs)
 G5:∀b o u,H b=Β (.Fq o u)->H' b=Β (.Fq o u)
 GI:∀b ps,H b=Β (.LX ps)->∃more,H' b=Β (.LX (ps++more))
section
variable {fs LY ex O1:List Ν}{H H1 H2:Hp}{h h1 h2 h':Ù}{a x e:Ν}{o:HO}
theorem Un.any(u:Un fs ex H H1 h h1)(q:h.get? b=Β ob)(n:H b=Γ)(d:b∉ex):∃g,h1.get? b=Β {ob with slots:=g}:=by
 by_cases f:b∈fs
 ·exact u.slot b ob q n f d
 ·exact⟨ob.slots,u.keep b ob q n f d⟩
theorem Un.kept(k:∀b u,h.get? b=Β u->h'.get? b=Β u):Un fs ex H H h h':=
 ⟨λb c q _ _ _=>k b c q,λb c q _ _ _=>⟨c.slots,k b c q⟩,λ_ _ _ n _=>n,λb c q _=>⟨c,k b c q⟩,λ_ _ q=>q,λ_ _ _ q=>q,λ_ ps q=>⟨#[],by rw[q];simp⟩⟩
theorem Un.refl:Un fs ex H H h h:=Un.kept λ_ _ q=>q
theorem Un.laid(k:∀b u,h.get? b=Β u->h'.get? b=Β u)(d:h.objs.size<=a)(c:H a=Γ):Un fs ex H (π H a o) h h' where
 keep:=λb u q _ _ _=>k b u q
 slot:=λb u q _ _ _=>⟨u.slots,k b u q⟩
 free:=λb u q n _=>by rw[af (Ê (Ϥ (lt_size q) d))];exact n
 there:=λb u q _=>⟨u,k b u q⟩
 GH:=λb xs q=>by rw[af (ag q c)];exact q
 G5:=λb u xs q=>by rw[af (ag q c)];exact q
 GI:=λb ps q=>⟨#[],by rw[af (ag q c),q];simp⟩
theorem Un.write(c:Pp (H x))(j:e=x∨H e=Β (.own x))(k:∀b u,b≠e->h.get? b=Β u->h'.get? b=Β u)(l:∃u,h'.get? e=Β u):Un fs ex H (π H x o) h h':=by
 have f:∀b,H b=Γ->b≠x:=λb n z=>by subst z;rw[n]at c;exact c
 have g:∀b,H b=Γ->b≠e:=λb n z=>by
  subst z
  rcases j with r|r
  ·exact f b n r
  ·rw[n]at r;cases r
 have d:∀b u,H b=Β u->¬Pp (Β u)->b≠x:=λb u q m z=>by subst z;rw[q]at c;exact m c
 refine⟨λb u q n _ _=>k b u (g b n) q,λb u q n _ _=>⟨u.slots,k b u (g b n) q⟩,λb u q n _=>by rw[af (f b n)];exact n,λb u q _=>?_,
  λb xs q=>by rw[af (d b _ q λz=>z)];exact q,λb u xs q=>by rw[af (d b _ q λz=>z)];exact q,λb ps q=>⟨#[],by rw[af (d b _ q λz=>z),q];simp⟩⟩
 by_cases i:b=e
 ·subst i;exact l
 ·exact⟨u,k b u i q⟩
end
noncomputable def Uu(h:Ù)(H:Hp):List Ν:=(ό h.objs.size).filter λa=>(H a).isSome
noncomputable def pw(h:Ù)(H:Hp):Ù:=PySem.W.hideAll h (Uu h H)
theorem vp(h:Ù)(H:Hp):(pw h H).objs.size=h.objs.size:=PySem.W.hideAll_size _ _
theorem yy(e:h.get? b=Β o)(n:H b=Γ):(pw h H).get? b=Β o:=
 PySem.W.hideAll_get _ e λa=>by
  have q:=(Å.mp a).2
  rw[n]at q;simp at q
theorem Aq(e:(pw h H).get? b=Β o):h.get? b=Β o/\H b=Γ:=by
 have a:=PySem.W.of_hideAll (Uu h H) e
 refine⟨a,?_⟩
 cases q:H b with
 |none=>rfl
 | some x =>
  have c:b∈Uu h H:=Å.mpr ⟨Ë.mpr (lt_size a),by simp[q]⟩
  have z:(pw h H).get? b=Γ:=PySem.W.hideAll_none (Uu h H) c
  rw[z]at e;cases e
structure Mod(K:ϣ)(mg:Str->Option Ρ)(ν:Ù):Prop where
 KA:K.In ν
 glob:ν.Ns ϡ mg
 blt:∃mb,ν.Ns So mb/\∀x:Str,x≠ "__name__"->mb x=ě x
 nolimit:ν.NoLimit
structure Cx where
 prog:Program
 w:Ϭ
 K:ϣ
 mg:Str->Option Ρ
 ν:Ù
 A:Ð
 N:List Str
 s₀:ϊ
 H₀:Hp
 env:Env
 outer:List Env
 stack:List Env
 ex:List Ν
 fn:Str->Bool
 calm:Bool
 pn:List (Ν×Obj)
 xe:Ρ->ϊ->Prop
noncomputable def ur(l:List Env):List Ν:=l.filterMap (·.frame)
abbrev Cx.fs(X:Cx):List Ν:=ur X.outer
def Uv(sc:Scope)(x:Str):Prop:=sc.names.lookup x=Β .local∨sc.names.lookup x=Β .cell∨sc.names.lookup x=Β .free
def Loc(sc:Scope)(x:Str):Prop:=sc.names.lookup x=Β .local∨sc.names.lookup x=Β .cell
def Look(env:Env)(h:Ù)(m:Str->Option Ρ)(x:Str)(u:Ρ):Prop:=
 (env.kindOf x=Β .local/\m x=Β u)∨((env.kindOf x=Β .cell∨env.kindOf x=Β .free)/\∃c,env.cells.lookup x=Β c/\h.IsCell c (Β u))
structure Cx.Ok(X:Cx):Prop where
 mod:Mod X.K X.mg X.ν
 kind:X.env.scope.kind=.function
 glob:X.env.globals=ϡ
 blt:X.env.builtins=So
 above:X.s₀.heap.objs.size<=X.env.locals
 inj:∀x y c,X.env.cells.lookup x=Β c->X.env.cells.lookup y=Β c->x=y
 has:∀x,(X.env.kindOf x=Β .cell∨X.env.kindOf x=Β .free)->∃c,X.env.cells.lookup x=Β c
 Pr:∀x c,X.fn x=Δ->X.env.cells.lookup x=Β c->X.s₀.heap.objs.size<=c
 hd:X.calm=Δ->X.A.handled=Γ
 frames:X.A.frames=Β X.stack
 Uw:X.stack=X.outer∨(X.stack=X.env:: X.outer/\X.env.frame=Β X.env.locals)
 exf:∀b∈X.ex,b≠X.env.locals/\∀x c,X.env.cells.lookup x=Β c->c≠b
 bs:∀b o,X.ν.get? b=Β o->X.s₀.heap.get? b=Β o/\X.H₀ b=Γ
 Lc:X.ν.objs.size<=X.s₀.heap.objs.size
 JY:∀b o,X.ν.get? b=Β o->b∉X.ex
 Le:∀b∈X.ex,b∉X.fs
 FV:X.s₀.heap.FunFrames X.ν X.outer
 MT:∀b∈X.fs,X.H₀ b=Γ
structure τ(X:Cx)(ο:List (Ν×Obj))(σ:List (Option V))(H:Hp)(s:ϊ):Prop where
 ok:X.Ok
 os:s.os=X.s₀.os
 bare:ū s.gens
 ν:Un X.fs X.ex X.H₀ H X.s₀.heap s.heap
 loc:∃m,s.heap.Ns X.env.locals m/\∀(i:Nat)(x:Str)(v:V),X.N[i]?=Β x->σ[i]?=Β (Β v)->Uv X.env.scope x->∃u,RelV v u/\Look X.env s.heap m x u
 cell:∀x c,X.env.cells.lookup x=Β c->∃v,s.heap.IsCell c v
 free:H X.env.locals=Γ
 ED:∀x c,X.env.cells.lookup x=Β c->H c=Γ
 pin:∀p∈X.pn++ο,s.heap.get? p.1=Β p.2/\H p.1=Γ/\p.1≠X.env.locals/\p.1∉X.fs/\∀v,p.2.data≠.cell v
 DW:Ft X.prog X.w H s.heap
 len:σ.length=X.N.length
section
variable {X:Cx}{ο:List (Ν×Obj)}{σ:List (Option V)}{H H':Hp}{s:ϊ}{h':Ù}
theorem Cx.Ok.VO(ok:X.Ok)(e:X.ν.get? b=Β o):b∉X.fs:=λa=>by
 have:=(ok.FV.mem a).1
 rw[e]at this;cases this
theorem τ.bs(I:τ X ο σ H s):∀b o,X.ν.get? b=Β o->s.heap.get? b=Β o/\H b=Γ:=λb o e =>
 ⟨I.ν.keep b o (I.ok.bs b o e).1 (I.ok.bs b o e).2 (I.ok.VO e) (I.ok.JY b o e),I.ν.free b o (I.ok.bs b o e).1 (I.ok.bs b o e).2 (I.ok.JY b o e)⟩
theorem τ.bk(I:τ X ο σ H s):∀b o,X.ν.get? b=Β o->s.heap.get? b=Β o:=λb o e=>(I.bs b o e).1
theorem τ.mod(I:τ X ο σ H s):Mod X.K X.mg X.ν:=I.ok.mod
theorem τ.FL(I:τ X ο σ H s):X.K.In s.heap:=I.ok.mod.KA.keeps I.bk
theorem τ.lt(I:τ X ο σ H s):X.env.locals<s.heap.objs.size:=let ⟨_,hn,_⟩:=I.loc;hn.lt
theorem τ.sz(I:τ X ο σ H s):X.s₀.heap.objs.size<=s.heap.objs.size:=Î I.ok.above (JQ I.lt)
theorem τ.VP(I:τ X ο σ H s){a:Ν}(h:s.heap.objs.size<=a):a∉X.fs:=λb=>by
 obtain⟨_,o,c,_⟩:=I.ok.FV.mem b
 exact Κ (Ϥ (lt_size c) (Î I.sz h)) (Ĭ _)
theorem τ.Lg(I:τ X ο σ H s):∀x c,X.env.cells.lookup x=Β c->c≠X.env.locals:=λx c e z=>by
 obtain⟨v,o,a,b⟩:=I.cell x c e
 obtain⟨m,⟨g,h,i,d,f,_⟩,_⟩:=I.loc
 rw[z,d]at a;cases a;rw[f]at b;cases b
theorem τ.FV(I:τ X ο σ H s):s.heap.FunFrames X.ν X.outer:=by
 have all:∀(l:List Env),(∀b∈ur l,b∈X.fs)->X.s₀.heap.FunFrames X.ν l->s.heap.FunFrames X.ν l:=by
  intro l
  induction l with
  |nil=>intro _ _;trivial
  | cons g r h =>
   intro f i
   obtain⟨j,⟨L,o,a,m,p,q⟩,t⟩:=i
   have c:=f L (by unfold ur;rw[Ke,a];exact ϟ)
   obtain⟨u,e⟩:=I.ν.slot L o p (I.ok.MT L c) c λz=>I.ok.Le L z c
   exact⟨j,⟨L,_,a,m,e,q⟩,h (λb d=>f b (by unfold ur;rw[Ke,a];exact ϧ _ d)) t⟩
 exact all X.outer (λ_ d=>d) I.ok.FV
theorem τ.stack(I:τ X ο σ H s):s.heap.FunFrames X.ν X.stack:=by
 rcases I.ok.Uw with e|⟨e,a⟩
 ·rw[e];exact I.FV
 ·rw[e]
  obtain⟨m,b,_⟩:=I.loc
  refine .cons (by rw[I.ok.kind];decide) a b ?_ I.FV
  exact Ù.get?_none_of_le (Î I.ok.Lc I.ok.above)
theorem τ.Hj(I:τ X ο σ H s):∀b∈ur X.stack,b∈X.env.locals:: X.fs:=λb a=>by
 rcases I.ok.Uw with e|⟨e,c⟩
 ·rw[e]at a;exact ϧ _ a
 ·rw[e]at a
  unfold ur at a
  rw[Ke,c]at a
  exact a
theorem τ.IS(I:τ X ο σ H s):∀b∈ur X.stack,H b=Γ:=λb a=>by
 rcases Ϯ.mp (I.Hj b a) with e|a
 ·rw[e];exact I.free
 ·obtain⟨_,o,c,_⟩:=I.ok.FV.mem a
  exact I.ν.free b o c (I.ok.MT b a) λz=>I.ok.Le b z a
theorem τ.step{ch:List Ν}(I:τ X ο σ H s)
  (A:∀b∈ch,(b∈X.ex∨X.s₀.heap.objs.size<=b)/\b≠X.env.locals/\(∀x c,X.env.cells.lookup x=Β c->c≠b)/\∀p∈X.pn++ο,p.1≠b)
  (keep:∀b o,b≠X.env.locals->b∉X.fs->b∉ch->s.heap.get? b=Β o->H b=Γ->h'.get? b=Β o)
  (h:∀b o,b≠X.env.locals->b∈X.fs->b∉ch->s.heap.get? b=Β o->H b=Γ->∃G,h'.get? b=Β {o with slots:=G}) (free:∀b o,b∉ch->s.heap.get? b=Β o->H b=Γ->H' b=Γ)
  (j:∀b o,b∉ch->s.heap.get? b=Β o->∃B,h'.get? b=Β B)
  (Q:∀b xs,H b=Β (.tup xs)->H' b=Β (.tup xs)) (R:∀b o u,H b=Β (.Fq o u)->H' b=Β (.Fq o u)) (S:∀b ps,H b=Β (.LX ps)->∃more,H' b=Β (.LX (ps++more)))
  (T:∀m,s.heap.Ns X.env.locals m->h'.Ns X.env.locals m) (U:Ft X.prog X.w H' h') (Y:ū g'):
  τ X ο σ H' {s with heap:=h',gens:=g',drawn:=d',toks:=t'}:=by
 have C:∀b o,X.s₀.heap.get? b=Β o->b≠X.env.locals:=λb o e=>Ê (Ϥ (lt_size e) I.ok.above)
 have F:∀b o,X.s₀.heap.get? b=Β o->b∉X.ex->b∉ch:=λb o e a t=>by
  rcases (A b t).1 with z|z
  ·exact a z
  ·exact Κ (Ϥ (lt_size e) z) (Ĭ _)
 have f:∀x c,X.env.cells.lookup x=Β c->∀v,s.heap.IsCell c v->h'.IsCell c v:=λx c e v ⟨o,y,K⟩=>by
  have D:=λz=>(A c z).2.2.1 x c e Λ
  by_cases N:c∈X.fs
  ·obtain⟨G,q⟩:=h c o (I.Lg x c e) N D y (I.ED x c e)
   exact⟨_,q,K⟩
  ·exact⟨o,keep c o (I.Lg x c e) N D y (I.ED x c e),K⟩
 refine⟨I.ok,I.os,Y,⟨λb o e n t a=>?_,λb o e n t a=>?_,λb o e n a=>?_,λb o e a=>?_,λb xs e=>Q b xs (I.ν.GH b xs e),λb o xs e=>R b o xs (I.ν.G5 b o xs e),λb ps e=>?_⟩,?_,λx c e=>?_,?_,λx c e=>?_,λp O=>?_,U,I.len⟩
 ·exact keep b o (C b o e) t (F b o e a) (I.ν.keep b o e n t a) (I.ν.free b o e n a)
 ·obtain⟨G,g⟩:=I.ν.slot b o e n t a
  obtain⟨L,E⟩:=h b _ (C b o e) t (F b o e a) g (I.ν.free b o e n a)
  exact⟨L,E⟩
 ·obtain⟨B,g⟩:=I.ν.there b o e a
  exact free b B (F b o e a) g (I.ν.free b o e n a)
 ·obtain⟨B,g⟩:=I.ν.there b o e a
  exact j b B (F b o e a) g
 ·obtain⟨Z,g⟩:=I.ν.GI b ps e
  obtain⟨m2,E⟩:=S b _ g
  exact⟨Z++m2,by rw[E,Array.append_assoc]⟩
 ·obtain⟨m,hn,hl⟩:=I.loc
  refine⟨m,T m hn,λi x v g E e3=>?_⟩
  obtain⟨u,r,l⟩:=hl i x v g E e3
  refine⟨u,r,?_⟩
  rcases l with l|⟨k,c,e,z⟩
  ·exact .inl l
  ·exact .inr ⟨k,c,e,f x c e _ z⟩
 ·obtain⟨v,z⟩:=I.cell x c e
  exact⟨v,f x c e v z⟩
 ·obtain⟨m,⟨o,_,_,y,_⟩,_⟩:=I.loc
  exact free _ o (λz=>(A _ z).2.1 Λ) y I.free
 ·obtain⟨v,o,y,K⟩:=I.cell x c e
  exact free c o (λz=>(A c z).2.2.1 x c e Λ) y (I.ED x c e)
 ·obtain⟨e,n,ne,P,d⟩:=I.pin p O
  have D:=λz=>(A p.1 z).2.2.2 p O Λ
  exact⟨keep p.1 p.2 ne P D e n,free p.1 p.2 D e n,ne,P,d⟩
theorem τ.un(I:τ X ο σ H s)(u:Un X.fs [] H H' s.heap h')(g:Ft X.prog X.w H' h'):τ X ο σ H' {s with heap:=h',toks:=t'}:=by
 obtain⟨m,⟨o,q,t,d,r⟩,_⟩:=id I.loc
 obtain⟨v,h⟩:=u.any d I.free (by simp)
 exact I.step (g':=s.gens) (d':=s.drawn) (ch:=[]) (λ_ z=>nomatch z) (λb o _ a _ e n=>u.keep b o e n a (by simp)) (λb o _ a _ e n=>u.slot b o e n a (by simp)) (λb o _ e n=>u.free b o e n (by simp)) (λb o _ e=>u.there b o e (by simp)) u.GH u.G5 u.GI (λx i=>by
  obtain⟨y,j,l,f,p⟩:=i
  rw[d]at f;cases f
  exact⟨_,j,l,h,p⟩) g I.bare
theorem τ.call(I:τ X ο σ H s)(u:Un (ur X.stack) ch H H' s.heap h')(j:Ft X.prog X.w H' h')(l:ū g')
  (f:∀b∈ch,(b∈X.ex∨X.s₀.heap.objs.size<=b)/\b≠X.env.locals/\(∀x c,X.env.cells.lookup x=Β c->c≠b)/\∀p∈X.pn++ο,p.1≠b):
  τ X ο σ H' {s with heap:=h',gens:=g',drawn:=d',toks:=t'}:=by
 obtain⟨m,⟨o,B,C,h,r⟩,_⟩:=id I.loc
 obtain⟨D,d⟩:=u.any h I.free λz=>(f _ z).2.1 Λ
 exact I.step (ch:=ch) f (λb o d q a e n=>u.keep b o e n (λz=>(Ϯ.mp (I.Hj b z)).elim d q) a) (λb o _ _ a e n=>u.any e n a) (λb o a e n=>u.free b o e n a) (λb o a e=>u.there b o e a) u.GH u.G5 u.GI (λE t=>by
  obtain⟨F,v,y,i,A⟩:=t
  rw[h]at i;cases i
  exact⟨_,v,y,d,A⟩) j l
theorem τ.turned(I:τ X ο σ H s)(k:∀b o,b≠it->s.heap.get? b=Β o->h'.get? b=Β o)(h:H it=Γ)(f:it≠X.env.locals)
  (i:it∈X.ex∨X.s₀.heap.objs.size<=it) (j:∀x c,X.env.cells.lookup x=Β c->c≠it) (l:∀p∈X.pn++ο,p.1≠it):τ X ο σ H {s with heap:=h',toks:=t'}:=by
 have d:∀b u,H b=Β u->b≠it:=λb u e z=>by rw[z,h]at e;cases e
 refine I.step (g':=s.gens) (d':=s.drawn) (ch:=[it]) (λb t=>?_) (λb o _ _ a e _=>k b o (λz=>a (by simp[z])) e) (λb o _ _ a e _=>⟨o.slots,k b o (λz=>a (by simp[z])) e⟩) (λ_ _ _ _ n=>n)
  (λb o a e=>⟨o,k b o (λz=>a (by simp[z])) e⟩) (λ_ _ e=>e) (λ_ _ _ e=>e) (λb ps e=>⟨#[],by rw[e];simp⟩) (λm w=>?_) (λb u e=>?_) I.bare
 ·have e:b=it:=by simpa using t
  subst e
  exact⟨i,f,j,l⟩
 ·obtain⟨o,y,A,B,r⟩:=w
  exact⟨o,y,A,k _ o (ϛ f) B,r⟩
 ·refine(I.DW b u e).EU (λc v a q=>k c v ?_ q) (λ_ q=>q) λ_ _ q=>q
  rcases a with z|z
  ·rw[z];exact d b u e
  ·exact d c _ z
theorem τ.tok(I:τ X ο σ H s)(t:Nat):τ X ο σ H {s with toks:=t}:=I.un (h':=s.heap) (t':=t) Un.refl I.DW
theorem τ.kept(I:τ X ο σ H s)(k:∀b u,s.heap.get? b=Β u->h'.get? b=Β u):τ X ο σ H {s with heap:=h',toks:=t'}:=I.un (Un.kept k) (I.DW.kept k)
theorem τ.laid{a:Ν}(I:τ X ο σ H s)(k:∀b u,s.heap.get? b=Β u->h'.get? b=Β u)(c:s.heap.objs.size<=a)(new:Er X.prog X.w (π H a o) h' a o):
  τ X ο σ (π H a o) {s with heap:=h',toks:=t'}:=I.un (Un.laid k c (I.DW.fresh c)) (I.DW.laid k c new)
theorem τ.write(I:τ X ο σ H s)(a:Pp (H x))(c:e=x∨H e=Β (.own x))(k:∀b u,b≠e->s.heap.get? b=Β u->h'.get? b=Β u)(d:∃u,h'.get? e=Β u)
  (new:Er X.prog X.w (π H x o) h' x o):τ X ο σ (π H x o) {s with heap:=h',toks:=t'}:=I.un (Un.write a c k d) (I.DW.write a c k d new)
theorem τ.Fx(I:τ X ο σ H s)(h:∀p∈HB,s.heap.get? p.1=Β p.2/\H p.1=Γ/\p.1≠X.env.locals/\p.1∉X.fs/\∀v,p.2.data≠.cell v):τ X HB σ H s:=
 ⟨I.ok,I.os,I.bare,I.ν,I.loc,I.cell,I.free,I.ED,λp a=>(Ϣ.mp a).elim (λz=>I.pin p (Ä _ z)) (h p),I.DW,I.len⟩
theorem dY{N:List Str}(c:N.Nodup){i j:Nat}(a:N[i]?=Β x)(b:N[j]?=Β x):i=j:=by
 obtain⟨f,d⟩:=ϥ.mp a
 obtain⟨g,e⟩:=ϥ.mp b
 exact(cb c).mp (d.trans e.symm)
theorem mR(I:τ X ο σ H s)(hN:X.N.Nodup)(J:X.N[i]?=Β x)(B:Loc X.env.scope x)(r:RelV v u)
  (h:∀P,τ X ο (σ.set i (Β v)) H P->(∃a,Ħ a s.heap P.heap/\(a=X.env.locals∨X.env.cells.lookup x=Β a))->Q () P) (hf:autoParam (X.fn x=Δ∨X.env.scope.names.lookup x=Β .local) ζ):ϫ M A (storeName X.env x u) Q E s:=by
 obtain⟨m,R,hl⟩:=id I.loc
 have VS:(X.env.scope.kind == .class||(X.env.scope.kind == .module&& X.env.locals != X.env.globals))=Ε:=by rw[I.ok.kind];rfl
 have Pu:i<σ.length:=by rw[I.len];exact(gQ0 J)
 have Lg:=I.Lg
 have g:∀{a:Ν}{h':Ù},(∃o,s.heap.get? a=Β o/\H a=Γ)->Ħ a s.heap h'->Ft X.prog X.w H h':=λ{a h'} ha f b ob e=>by
  obtain⟨_,_,LZ⟩:=ha
  refine(I.DW b ob e).EU (λc L t q=>(f.2 c ?_).trans q) (λ_ q=>q) λ_ _ q=>q
  rintro rfl
  rcases t with rfl|t
  ·rw[LZ]at e;cases e
  ·rw[LZ]at t;cases t
 rcases B with D|D
 ·refine wpAny_storeName_local D R (λh' S f=>?_) VS
  obtain⟨oL,_,_,T,_⟩:=id R
  refine h _ ⟨I.ok,I.os,I.bare,⟨λb o e n F B=>?_,λb o e n F B=>?_,I.ν.free,λb o e B=>?_,I.ν.GH,I.ν.G5,I.ν.GI⟩,⟨_,S,λj y U l C Y=>?_⟩,λy c e=>?_,I.free,I.ED,λp Z=>?_,g ⟨oL,T,I.free⟩ f,by simpa using I.len⟩ ⟨_,f,.inl Λ⟩
  ·exact(f.2 b (Ê (Ϥ (lt_size e) I.ok.above))).trans (I.ν.keep b o e n F B)
  ·obtain⟨sl,l⟩:=I.ν.slot b o e n F B
   exact⟨sl,(f.2 b (Ê (Ϥ (lt_size e) I.ok.above))).trans l⟩
  ·obtain⟨o',l⟩:=I.ν.there b o e B
   exact⟨o',(f.2 b (Ê (Ϥ (lt_size e) I.ok.above))).trans l⟩
  ·by_cases G:j=i
   ·subst G
    rw[J]at l;cases l
    rw[ş Pu]at C
    cases C
    exact⟨u,r,.inl ⟨D,by simp⟩⟩
   ·rw[Ú (ϛ G)]at C
    obtain⟨u',r',q⟩:=hl j y U l C Y
    refine⟨u',r',?_⟩
    rcases q with ⟨k,e⟩|⟨k,c,e,z⟩
    ·refine .inl ⟨k,?_⟩
     have:y≠x:=λe=>G (dY hN l (e▸J))
     simp[this,e]
    ·exact .inr ⟨k,c,e,z.sameBut f (Lg y c e)⟩
  ·obtain⟨L,z⟩:=I.cell y c e
   exact⟨L,z.sameBut f (Lg y c e)⟩
  ·obtain⟨e,n,ne,nf,d⟩:=I.pin p Z
   exact⟨(f.2 p.1 ne).trans e,n,ne,nf,d⟩
 ·have Pw:X.fn x=Δ:=by
   rcases hf with z|z
   ·exact z
   ·rw[z]at D;cases D
  obtain⟨c,t⟩:=I.ok.has x (.inl D)
  obtain⟨L,z⟩:=I.cell x c t
  refine wpAny_storeName_cell I.ok.kind D t z (λh' HC f=>?_)
  obtain⟨oc,K,VT⟩:=id z
  refine h {s with heap:=h'} ⟨I.ok,I.os,I.bare,⟨λb o e n F B=>?_,λb o e n F B=>?_,I.ν.free,λb o e B=>?_,I.ν.GH,I.ν.G5,I.ν.GI⟩,⟨m,R.sameBut f (ϛ (Lg x c t)),λj y U l C Y=>?_⟩,λy O e=>?_,I.free,I.ED,λp Z=>?_,g ⟨oc,K,I.ED x c t⟩ f,by simpa using I.len⟩ ⟨c,f,.inr t⟩
  ·exact(f.2 b (Ê (Ϥ (lt_size e) (I.ok.Pr x c Pw t)))).trans (I.ν.keep b o e n F B)
  ·obtain⟨sl,l⟩:=I.ν.slot b o e n F B
   exact⟨sl,(f.2 b (Ê (Ϥ (lt_size e) (I.ok.Pr x c Pw t)))).trans l⟩
  ·obtain⟨o',l⟩:=I.ν.there b o e B
   exact⟨o',(f.2 b (Ê (Ϥ (lt_size e) (I.ok.Pr x c Pw t)))).trans l⟩
  ·by_cases G:j=i
   ·subst G
    rw[J]at l;cases l
    rw[ş Pu]at C
    cases C
    exact⟨u,r,.inr ⟨.inl D,c,t,HC⟩⟩
   ·rw[Ú (ϛ G)]at C
    obtain⟨u',r',q⟩:=hl j y U l C Y
    refine⟨u',r',?_⟩
    rcases q with q|⟨k,O,e,z'⟩
    ·exact .inl q
    ·refine .inr ⟨k,O,e,z'.sameBut f ?_⟩
     rintro rfl
     exact G (dY hN l (I.ok.inj _ _ _ e t▸J))
  ·by_cases O2:O=c
   ·subst O2;exact⟨_,HC⟩
   ·obtain⟨w2,z2⟩:=I.cell y O e
    exact⟨w2,z2.sameBut f O2⟩
  ·obtain⟨e,n,ne,nf,d⟩:=I.pin p Z
   refine⟨(f.2 p.1 ?_).trans e,n,ne,nf,d⟩
   intro q
   rw[q,K]at e
   have q':=Ψ e
   exact d L (by rw[←q'];exact VT)
theorem kM(I:τ X ο σ H s)(b:X.N.Nodup)(c:X.N[i]?=Β x)(d:Loc X.env.scope x)(r:RelV v u)
  (h:∀a,τ X ο (σ.set i (Β v)) H a->Q () a) (e:autoParam (X.fn x=Δ∨X.env.scope.names.lookup x=Β .local) ζ):ϫ M A (storeName X.env x u) Q E s:=
 mR I b c d r (λa f _=>h a f) e
theorem τ.Px(I:τ X ο σ H s)(g:s'.os=s.os)(u:Un (ur X.stack) ch H H' s.heap s'.heap)(h:Ft X.prog X.w H' s'.heap)(i:ū s'.gens)
  (j:∀b∈ch,(b∈X.ex∨X.s₀.heap.objs.size<=b)/\b≠X.env.locals/\(∀x c,X.env.cells.lookup x=Β c->c≠b)/\∀p∈X.pn++ο,p.1≠b):τ X ο σ H' s':=by
 obtain⟨h',g',d',t',l⟩:=s'
 have e:=g
 subst e
 exact I.call (g':=g') (t':=t') (d':=d') u h i j
end
abbrev XK:=Ρ->Option Ν->Hp->Prop
abbrev St:=List (Option V)
abbrev VK:=V->Hp->Prop
abbrev TE:=St->Hp->VK->Prop
abbrev TT:=St->Hp->(Bool->Hp->Prop)->Prop
abbrev TA:=St->Hp->(List V->Hp->Prop)->Prop
structure pH where
 nx:St->Hp->Prop
 rt:VK
 bk:St->Hp->Prop:=λ_ _=>False
 ct:St->Hp->Prop:=λ_ _=>False
abbrev TS:=pH->St->Hp->Prop
def EP(X:Cx)(ο:List (Ν×Obj))(σ:St)(Q:VK)(u:Ρ)(s':ϊ):Prop:=∃v H',τ X ο σ H' s'/\RelV v u/\Q v H'
def TP(X:Cx)(ο:List (Ν×Obj))(σ:St)(Q:Bool->Hp->Prop)(b:Bool)(s':ϊ):Prop:=∃H',τ X ο σ H' s'/\Q b H'
def AP(X:Cx)(ο:List (Ν×Obj))(σ:St)(Q:List V->Hp->Prop)(us:List Ρ)(s':ϊ):Prop:=∃vs H',τ X ο σ H' s'/\υ vs us/\Q vs H'
def SP(X:Cx)(ο:List (Ν×Obj))(D:pH)(f:Flow)(s':ϊ):Prop:=
 match f with
 |.next=>∃σ' H',τ X ο σ' H' s'/\D.nx σ' H'
 |.brk=>∃σ' H',τ X ο σ' H' s'/\D.bk σ' H'
 |.cont=>∃σ' H',τ X ο σ' H' s'/\D.ct σ' H'
 |.ret u=>∃v σ' H',τ X ο σ' H' s'/\RelV v u/\D.rt v H'
def PE(X:Cx)(e:Expr)(t:TE):Prop:=
 ∀(ο:List (Ν×Obj))(s:ϊ)(σ:St)(H:Hp)(Q:VK),τ X ο σ H s->t σ H Q->ϫ (ϩ X.prog X.w) X.A (eval e X.env) (EP X ο σ Q) X.xe s
def PT(X:Cx)(e:Expr)(t:TT):Prop:=
 ∀(ο:List (Ν×Obj))(s:ϊ)(σ:St)(H:Hp)(Q:Bool->Hp->Prop),τ X ο σ H s->t σ H Q->ϫ (ϩ X.prog X.w) X.A (isTrue e X.env (eval e X.env)) (TP X ο σ Q) X.xe s
def PW(X:Cx)(e:Expr)(t:TT):Prop:=
 ∀(whole:Sem Ρ)(ο:List (Ν×Obj))(s:ϊ)(σ:St)(H:Hp)(Q:Bool->Hp->Prop),τ X ο σ H s->t σ H Q->ϫ (ϩ X.prog X.w) X.A (isTrue e X.env whole) (TP X ο σ Q) X.xe s
theorem PW.pt(h:PW X e t):PT X e t:=h _
def PA(X:Cx)(es:List Expr)(t:TA):Prop:=
 ∀(pos:Pos)(ο:List (Ν×Obj))(s:ϊ)(σ:St)(H:Hp)(Q:List V->Hp->Prop),τ X ο σ H s->t σ H Q->ϫ (ϩ X.prog X.w) X.A (spliced (ē pos (Á es X.env))) (AP X ο σ Q) X.xe s
def PS(X:Cx)(st:Ã)(t:TS):Prop:=
 ∀(ο:List (Ν×Obj))(s:ϊ)(σ:St)(H:Hp)(D:pH),τ X ο σ H s->t D σ H->ϫ (ϩ X.prog X.w) X.A (exec st X.env) (SP X ο D) X.xe s
def IT(X:Cx)(st:List Ã)(t:TS):Prop:=
 ∀(ο:List (Ν×Obj))(s:ϊ)(σ:St)(H:Hp)(D:pH),τ X ο σ H s->t D σ H->ϫ (ϩ X.prog X.w) X.A (execs st X.env) (SP X ο D) X.xe s
theorem bj{M:Model}{A:Ð}{E:Ρ->ϊ->Prop}{s:ϊ}(h:ϫ M A t Q E s)(b:∀a s,Q a s->Q' a s):ϫ M A t Q' E s:=ò h b λ_ _ x=>x
section
variable {X:Cx}
theorem tvE{o:Option (Option V)}{F:V->Prop}(h:(o.getD Γ).elim False F):∃v,o=Β (Β v)/\F v:=by
 cases o with
 |none=>exact h.elim
 |some o=>
  cases o with
  |none=>exact h.elim
  |some v=>exact⟨v,Λ,h⟩
def jQ(i:Nat):TE:=λσ H Q=>((σ[i]?).getD Γ).elim False λv=>Q v H
def tC(v:V):TE:=λ_ H Q=>Q v H
theorem Cu(j:X.N[i]?=Β x)(o:Uv X.env.scope x)(d:autoParam ((x == ("__debug__":Str))=Ε) θ)(p:autoParam ((x == ("__classdict__":Str))=Ε) θ):PE X (.Name x pos) (jQ i):=by
 intro b s q H Q I h
 obtain⟨v,e,h⟩:=tvE h
 obtain⟨m,t,w⟩:=I.loc
 obtain⟨u,r,l⟩:=w i x v j e o
 have fin:EP X b q Q u s:=⟨v,H,I,r,h⟩
 rcases l with ⟨a,y⟩|⟨a,c,f,g⟩
 ·exact R1 (PX I.ok.kind a t y fin) d
 ·rcases a with a|a
  ·exact R1 (Rz I.ok.kind a f g fin) d
  ·exact R1 (wpAny_loadName_free I.ok.kind a f g fin p) d
theorem ai:PE X (.Constant (.int i) j pos) (tC (.int i)):=λ_ _ _ H _ I h=>wpAny_Constant_int ⟨.int i,H,I.tok _,⟨_,Λ⟩,h⟩
theorem jH:PE X (.Constant (.bool b) j pos) (tC (.bl b)):=λ_ _ _ H _ I h=>Constant_bool ⟨.bl b,H,I,Λ,h⟩
theorem cz:PE X (.Constant .none j pos) (tC .Eg):=λ_ _ _ H _ I h=>Constant_none ⟨.Eg,H,I,Λ,h⟩
theorem bR:PE X (.Constant (.str x) j pos) (tC (.str x)):=λ_ _ _ H _ I h=>Calls.Constant_str ⟨.str x,H,I.tok _,⟨_,Λ⟩,h⟩
def Gl(X:Cx)(x:Str):Prop:=X.env.kindOf x=Β .globalImplicit
theorem pc{a:St}(I:τ X ο a H s)(b:Gl X x)(c:X.mg x=Β u)(h:Q u s)
  (d:autoParam ((x == ("__debug__":Str))=Ε) θ):ϫ (ϩ X.prog X.w) X.A (eval (.Name x pos) X.env) Q E s:=
 pk I.ok.kind b (Calls.loadGlobal_global (by rw[I.ok.glob];exact I.mod.glob.keeps I.bk) c h) d
theorem fK{a:St}(I:τ X ο a H s)(b:Gl X x)(c:X.mg x=Γ)(d:ě x=Β u)(h:Q u s)
  (e:autoParam (x≠ "__name__") θ) (f:autoParam ((x == ("__debug__":Str))=Ε) θ):ϫ (ϩ X.prog X.w) X.A (eval (.Name x pos) X.env) Q E s:=by
 obtain⟨j,g,i⟩:=I.mod.blt
 exact pk I.ok.kind b (Calls.loadGlobal_builtin (by rw[I.ok.glob];exact I.mod.glob.keeps I.bk) c (by rw[I.ok.blt];exact g.keeps I.bk) ((i x e).trans d) h) f
theorem gI(a:Gl X x)(b:X.mg x=Β u)(r:RelV v u)(c:autoParam ((x == ("__debug__":Str))=Ε) θ):PE X (.Name x pos) (tC v):=
 λ_ _ _ H _ I h=>pc I a b ⟨v,H,I,r,h⟩ c
theorem eJ(a:Gl X x)(b:X.mg x=Γ)(c:ě x=Β u)(r:RelV v u)(d:autoParam (x≠ "__name__") θ)(e:autoParam ((x == ("__debug__":Str))=Ε) θ):PE X (.Name x pos) (tC v):=
 λ_ _ _ H _ I h=>fK I a b c ⟨v,H,I,r,h⟩ d e
variable {a b:Expr}{ta tb:TE}{pos:Pos}
def PC(X:Cx)(op:CmpOp)(a b:Expr)(t:TE):Prop:=
 ∀(ο:List (Ν×Obj))(s:ϊ)(σ:St)(H:Hp)(Q:VK),τ X ο σ H s->t σ H Q->
  ϫ (ϩ X.prog X.w) X.A (eval a X.env) (λv s₁=>ϫ (ϩ X.prog X.w) X.A (eval b X.env) (λu s₂=>ϫ (ϩ X.prog X.w) X.A (compareOp op v u) (EP X ο σ Q) X.xe s₂) X.xe s₁) X.xe s
inductive Uaa(Q:Bool->Hp->Prop)(x:V)(H1:Hp):Prop
 |mk (c)(_:x=.bl c)(_:Q c H1)
def tB(t:TE):TT:=λσ H Q=>t σ H λx H1=>Uaa Q x H1
theorem Cv(h:PC X op a b t)(d:Ł op b=Ε:=by first|exact JZ _ (by decide) (by decide)|rfl):PE X (.Compare a [op] [b] pos) t:=λc s e H Q I f=>wpAny_Compare1 (h c s e H Q I f) d
theorem jt(h:PC X op a b t)(f:Ł op b=Ε:=by first|exact JZ _ (by decide) (by decide)|rfl):PT X (.Compare a [op] [b] pos) (tB t):=by
 intro e s g H Q I i
 refine Pt (bj (h e s g H _ I i) λv w f=>bj f λu y j=>bj j λc z l=>?_) f
 obtain⟨x,m,o,p,r⟩:=l
 obtain⟨d,rfl,q⟩:=r
 cases p
 exact Ý ⟨m,o,q⟩
theorem bH(h:PE X e t)(g:autoParam (∀c,isTrue e X.env c=(do let v ← c;Il e.pos;c0 [v] (truthy v))) ψ):PT X e (tB t):=by
 intro f s i H Q I j
 refine isTrue_plain (bj (h f s i H _ I j) λv u l=>?_) (g _)
 obtain⟨x,m,o,p,r⟩:=l
 obtain⟨d,rfl,q⟩:=r
 cases p
 exact Ý ⟨m,o,q⟩
variable {tA Uy:TT}{rest:List Expr}
def VU(t u:TT):TT:=λσ H Q=>t σ H λc H1=>if c=Δ then u σ H1 Q else Q Ε H1
def tOr(t u:TT):TT:=λσ H Q=>t σ H λc H1=>if c=Δ then Q Δ H1 else u σ H1 Q
def VW(t:TT):TT:=λσ H Q=>t σ H λc H1=>Q (!c) H1
theorem iL(f:PT X a tA):PW X (.BoolOp .And [a] pos) tA:=by
 intro i d s g H Q I h
 refine isTrue_and (bj (f d s g H Q I h) λc j e=>?_)
 cases c with
 |true=>exact isTrue_and_nil e
 |false=>exact e
theorem ga(f:PT X a tA):PW X (.BoolOp .Or [a] pos) tA:=by
 intro i d s g H Q I h
 refine isTrue_or (bj (f d s g H Q I h) λc j e=>?_)
 cases c with
 |false=>exact isTrue_or_nil e
 |true=>exact e
theorem lh(j:PT X a tA)(l:PW X (.BoolOp .And (b:: rest) pos) Uy):PW X (.BoolOp .And (a:: b:: rest) pos) (VU tA Uy):=by
 intro m d s e H Q I h
 refine isTrue_and (bj (j d s e H _ I h) λc o p=>?_)
 obtain⟨f,g,i⟩:=p
 cases c with
 |true=>exact l m d o e f Q g i
 |false=>exact⟨f,g,i⟩
theorem gc(j:PT X a tA)(l:PW X (.BoolOp .Or (b:: rest) pos) Uy):PW X (.BoolOp .Or (a:: b:: rest) pos) (tOr tA Uy):=by
 intro m d s e H Q I h
 refine isTrue_or (bj (j d s e H _ I h) λc o p=>?_)
 obtain⟨f,g,i⟩:=p
 cases c with
 |true=>exact⟨f,g,i⟩
 |false=>exact l m d o e f Q g i
theorem cE(e:PT X a tA):PT X (.UnaryOp .Not a pos) (VW tA):=by
 intro d s f H Q I h
 exact isTrue_not (e d s f H (λc g=>Q (!c) g) I h)
inductive Uab(tb:TE)(σ:St)(Q:VK)(x:V)(H1:Hp):Prop
 |mk (c)(_:x=.bl c)(_:if c=Δ then tb σ H1 Q else Q (.bl Ε) H1)
def Py(ta tb:TE):TE:=λσ H Q=>ta σ H λx H1=>Uab tb σ Q x H1
inductive Uac(tb:TE)(σ:St)(Q:VK)(x:V)(H1:Hp):Prop
 |mk (c)(_:x=.bl c)(_:if c=Δ then Q (.bl Δ) H1 else tb σ H1 Q)
def VX(ta tb:TE):TE:=λσ H Q=>ta σ H λx H1=>Uac tb σ Q x H1
inductive Uad(Q:VK)(x:V)(H1:Hp):Prop
 |mk (c)(_:x=.bl c)(_:Q (.bl (!c)) H1)
def Pz(ta:TE):TE:=λσ H Q=>ta σ H λx H1=>Uad Q x H1
theorem cF(h:PE X a t):PE X (.BoolOp op [a] pos) t:=λc s d H Q I e=>BoolOp_one (h c s d H Q I e)
theorem cP(j:PE X a ta)(l:PE X (.BoolOp .And (b:: rest) pos) tb):PE X (.BoolOp .And (a:: b:: rest) pos) (Py ta tb):=by
 intro d s f H Q I h
 refine BoolOp_and (bj (j d s f H _ I h) λv m o=>?_)
 obtain⟨x,g,i,p,e⟩:=o
 obtain⟨c,rfl,e⟩:=e
 cases p
 refine Ý ?_
 cases c with
 |true=>exact l d m f g Q i e
 |false=>exact⟨.bl Ε,g,i,Λ,e⟩
theorem xr(j:PE X a ta)(l:PE X (.BoolOp .Or (b:: rest) pos) tb):PE X (.BoolOp .Or (a:: b:: rest) pos) (VX ta tb):=by
 intro d s f H Q I h
 refine BoolOp_or (bj (j d s f H _ I h) λv m o=>?_)
 obtain⟨x,g,i,p,e⟩:=o
 obtain⟨c,rfl,e⟩:=e
 cases p
 refine Ý ?_
 cases c with
 |false=>exact l d m f g Q i e
 |true=>exact⟨.bl Δ,g,i,Λ,e⟩
theorem oR(f:PE X a ta):PE X (.UnaryOp .Not a pos) (Pz ta):=by
 intro d s g H Q I h
 refine UnaryOp_ (bj (f d s g H _ I h) λv o i=>?_)
 obtain⟨x,j,l,m,e⟩:=i
 obtain⟨c,rfl,e⟩:=e
 cases m
 exact not_of (Ý ⟨.bl (!c),j,l,Λ,e⟩)
def tIf(t:TT)(ta tb:TE):TE:=λσ H Q=>t σ H λc H1=>if c=Δ then ta σ H1 Q else tb σ H1 Q
theorem dG(m:PT X c tA)(o:PE X a ta)(p:PE X b tb):PE X (.IfExp c a b pos) (tIf tA ta tb):=by
 intro e s f H Q I h
 refine wpAny_IfExp (bj (m e s f H _ I h) λd g q=>?_)
 obtain⟨i,j,l⟩:=q
 cases d with
 |true=>exact o e g f i Q j l
 |false=>exact p e g f i Q j l
end
def DS(K:ϣ)(H:Hp)(a:Ν)(xs:List V):Prop:=
 Rd H a (.ρ xs)∨
  ∃(o:Obj)(DV:Array Ρ)(n:Nat),K.lookup a=Β o/\o.cls=.type "list"/\o.dict=Γ/\o.data=.seq DV n/\DV.size<=Χ/\υ xs DV.toList
def DY(K:ϣ)(H:Hp)(a:Ν)(xs:List V):Prop:=
 Rd H a (.tup xs)∨
  ∃(o:Obj)(DV:Array Ρ)(n:Nat),K.lookup a=Β o/\o.cls=.type "tuple"/\o.data=.seq DV n/\DV.size<=Χ/\υ xs DV.toList
noncomputable def VY:Ρ->Option V
 |.none=>Β .Eg
 |.bool b=>Β (.bl b)
 |.int i _=>Β (.int i)
 |.str x _=>Β (.str x)
 |.bytes b _=>Β (.IQ b)
 |.float b _=>Β (.MR b)
 |.ref a=>Β (.ref a)
 |.type n=>Β (.ty n)
 |_=>Γ
theorem RelV.abs(r:RelV x u):VY u=Β x:=by
 cases x with
 |Eg=>cases r;rfl
 |bl _=>cases r;rfl
 |int _=>obtain⟨t,rfl⟩:=r;rfl
 |str _=>obtain⟨t,rfl⟩:=r;rfl
 |IQ _=>obtain⟨t,rfl⟩:=r;rfl
 |MR _=>obtain⟨t,rfl⟩:=r;rfl
 |ref _=>cases r;rfl
 |ty _=>cases r;rfl
theorem RelV.inj(r:RelV x u)(q:RelV y u):x=y:=Ψ (r.abs.symm.trans q.abs)
theorem υ.inj:∀{xs a:List V}{us:List Ρ},υ xs us->υ a us->xs=a
 |_,_,_,.nil,.nil=>rfl
 |_,_,_,.cons r t,.cons r' t'=>by rw[r.inj r',υ.inj t t']
section
variable {X:Cx}{ο:List (Ν×Obj)}{σ:St}{H:Hp}{s:ϊ}{a:Ν}{xs ys:List V}
theorem DS.of{K:ϣ}(h:H a=Β (.ρ xs)):DS K H a xs:=.inl (.inl h)
theorem DY.of{K:ϣ}(h:H a=Β (.tup xs)):DY K H a xs:=.inl (.inl h)
theorem τ.list(I:τ X ο σ H s)(h:DS X.K H a xs):∃b:List Ρ,υ xs b/\PlainL s.heap a b.toArray/\xs.length<=Χ:=by
 rcases h with h|⟨o,b,n,c,d,f,g,i,r⟩
 ·obtain⟨z,b,n,r,e⟩:=h.ok I.DW
  exact⟨b,r,⟨_,n,e,Λ,Λ,Λ⟩,z⟩
 ·refine⟨b.toList,r,⟨o,n,I.FL a o c,d,f,by simpa using g⟩,?_⟩
  have e:=r.length
  simp only[ŭ]at e
  omega
theorem τ.tuple(I:τ X ο σ H s)(h:DY X.K H a xs):∃b:List Ρ,υ xs b/\IsTup s.heap a b.toArray/\xs.length<=Χ:=by
 rcases h with h|⟨o,b,n,c,d,f,g,r⟩
 ·obtain⟨z,b,r,p⟩:=h.ok I.DW
  exact⟨b,r,p.isTup,z⟩
 ·refine⟨b.toList,r,⟨o,I.FL a o c,d,n,by simpa using f⟩,?_⟩
  have e:=r.length
  simp only[ŭ]at e
  omega
theorem τ.FA(I:τ X ο σ H s)(h:DS X.K H a xs)(g:DS X.K H a ys):xs=ys:=by
 obtain⟨i,r,⟨o,n,e,_,_,d⟩,_⟩:=I.list h
 obtain⟨b,j,⟨m,p,c,_,_,f⟩,_⟩:=I.list g
 rw[e]at c;cases c
 rw[d]at f
 injection f with l _
 have:i=b:=by simpa using congrArg Array.toList l
 subst this
 exact r.inj j
theorem τ.GU(I:τ X ο σ H s)(h:DY X.K H a xs)(g:DY X.K H a ys):xs=ys:=by
 obtain⟨i,r,⟨o,e,_,n,d⟩,_⟩:=I.tuple h
 obtain⟨b,j,⟨m,c,_,p,f⟩,_⟩:=I.tuple g
 rw[e]at c;cases c
 rw[d]at f
 injection f with l _
 have:i=b:=by simpa using congrArg Array.toList l
 subst this
 exact r.inj j
end
abbrev Cx.GJ(X:Cx)(E:Ρ->ϊ->Prop):Cx:={X with xe:=E}
abbrev Cx.O3(X:Cx):Cx:=X.GJ λ_ _=>False
theorem Cx.Ok.GJ{X:Cx}(ok:X.Ok)(E:Ρ->ϊ->Prop):(X.GJ E).Ok:=
 ⟨ok.mod,ok.kind,ok.glob,ok.blt,ok.above,ok.inj,ok.has,ok.Pr,ok.hd,ok.frames,ok.Uw,ok.exf,ok.bs,ok.Lc,ok.JY,ok.Le,ok.FV,ok.MT⟩
theorem Cx.Ok.Fu{X:Cx}(ok:(X.GJ E).Ok):X.Ok:=
 ⟨ok.mod,ok.kind,ok.glob,ok.blt,ok.above,ok.inj,ok.has,ok.Pr,ok.hd,ok.frames,ok.Uw,ok.exf,ok.bs,ok.Lc,ok.JY,ok.Le,ok.FV,ok.MT⟩
section
variable {X:Cx}{ο:List (Ν×Obj)}{σ:St}{H:Hp}{s:ϊ}{E:Ρ->ϊ->Prop}
theorem τ.GJ(I:τ X ο σ H s)(E:Ρ->ϊ->Prop):τ (X.GJ E) ο σ H s:=⟨I.ok.GJ E,I.os,I.bare,I.ν,I.loc,I.cell,I.free,I.ED,I.pin,I.DW,I.len⟩
theorem τ.Fu(I:τ (X.GJ E) ο σ H s):τ X ο σ H s:=⟨I.ok.Fu,I.os,I.bare,I.ν,I.loc,I.cell,I.free,I.ED,I.pin,I.DW,I.len⟩
theorem SP.Fu(h:SP (X.GJ E) ο D f s'):SP X ο D f s':=by
 cases f with
 |next=>obtain⟨a,b,I,q⟩:=h;exact⟨a,b,I.Fu,q⟩
 |brk=>obtain⟨a,b,I,q⟩:=h;exact⟨a,b,I.Fu,q⟩
 |cont=>obtain⟨a,b,I,q⟩:=h;exact⟨a,b,I.Fu,q⟩
 |ret u=>obtain⟨v,a,b,I,r,q⟩:=h;exact⟨v,a,b,I.Fu,r,q⟩
theorem IT.O3{a:List Ã}(h:IT X.O3 a t):IT X a t:=λο s σ H D I b =>
 ò (h ο s σ H D (I.GJ _) b) (λ_ _ q=>q.Fu) λ_ _ z=>î z
end
section
variable {X:Cx}{st:Ã}{rest:List Ã}{t u:TS}{e:Expr}{te:TE}{pos:Pos}
def P0:TS:=λD σ H=>D.nx σ H
def VZ(t u:TS):TS:=λD σ H=>t {D with nx:=u D} σ H
theorem aE:IT X [] P0:=λ_ _ a H _ I h=>ů ⟨a,H,I,h⟩
theorem ae(c:PS X st t)(d:IT X rest u):IT X (st:: rest) (VZ t u):=by
 intro a s g H D I h
 refine wpAny_execs_cons (bj (c a s g H {D with nx:=u D} I h) λf i q=>?_)
 cases f with
 | next =>
  obtain⟨b,j,l,q⟩:=q
  exact d a i b j D l q
 |ret v=>exact q
 |brk=>exact q
 |cont=>exact q
theorem ah(b:PS X st t):IT X [st] t:=by
 intro a s c H D I h
 refine wpAny_execs_cons (bj (b a s c H D I h) λf d q=>?_)
 cases f with
 |next=>exact ů q
 |ret v=>exact q
 |brk=>exact q
 |cont=>exact q
theorem τ.quiet{a:St}(I:τ X ο a H s):interactive X.env=Ε:=by simp[interactive,I.ok.kind]
def P1(te:TE):TS:=λD σ H=>te σ H λ_ H1=>D.nx σ H1
theorem aM(c:PE X e te)(d:autoParam (ť e Γ pos.line X.env=pure Ε) η):PS X (.Expr e pos) (P1 te):=by
 intro a s b H D I h
 exact wpAny_Expr_any (bj (c a s b H _ I h) λv l f=>by obtain⟨x,g,i,m,j⟩:=f;exact⟨b,g,i,j⟩) I.quiet d
def Wc(te:TE):TS:=λD σ H=>te σ H D.rt
theorem au(c:PE X e te):PS X (.Return (Β e) pos) (Wc te):=by
 intro a s b H D I h
 exact wpAny_Return_some (bj (c a s b H _ I h) λv l d=>by obtain⟨x,f,g,i,j⟩:=d;exact⟨x,b,f,g,i,j⟩)
def Wd(c:TT)(t u:TS):TS:=λD σ H=>c σ H λb H1=>if b=Δ then t D σ H1 else u D σ H1
theorem aO(o:PT X c tc)(p:IT X a t)(q:IT X b u):PS X (.If c a b pos) (Wd tc t u):=by
 intro f s g H D I h
 refine wpAny_If (bj (o f s g H _ I h) λd i r=>?_)
 obtain⟨j,l,m⟩:=r
 cases d with
 |true=>exact p f i g j D l m
 |false=>exact q f i g j D l m
def BN:TS:=λ_ _ _=>False
theorem ce:PS X st BN:=λ_ _ _ _ _ _ h=>h.elim
end
abbrev TG:=V->St->Hp->(St->Hp->Prop)->Prop
abbrev DK:=List V->St->Hp->(St->Hp->Prop)->Prop
def PG(X:Cx)(target:Expr)(t:TG):Prop:=
 ∀(ο:List (Ν×Obj))(s:ϊ)(σ:St)(H:Hp)(v:V)(u:Ρ)(Q:St->Hp->Prop),τ X ο σ H s->RelV v u->t v σ H Q->
  ϫ (ϩ X.prog X.w) X.A (assign target X.env u) (λ_ s'=>∃σ' H',τ X ο σ' H' s'/\Q σ' H') X.xe s
def Uz(X:Cx)(ts:List Expr)(t:DK):Prop:=
 ∀(ο:List (Ν×Obj))(s:ϊ)(σ:St)(H:Hp)(vs:List V)(us:List Ρ)(Q:St->Hp->Prop),τ X ο σ H s->υ vs us->t vs σ H Q->
  ϫ (ϩ X.prog X.w) X.A (assignInOrder ((Ū ts X.env).map (·.2)) us) (λ_ s'=>∃σ' H',τ X ο σ' H' s'/\Q σ' H') X.xe s
abbrev DJ:=V->V->V->Hp->(Hp->Prop)->Prop
def P2(X:Cx)(t:DJ):Prop:=
 ∀(ο:List (Ν×Obj))(s:ϊ)(σ:St)(H:Hp)(o i v:V)(ov iv u:Ρ)(Q:Hp->Prop),τ X ο σ H s->RelV o ov->RelV i iv->RelV v u->t o i v H Q->
  ϫ (ϩ X.prog X.w) X.A (setItem ov iv u) (λ_ s'=>∃H',τ X ο σ H' s'/\Q H') X.xe s
abbrev U0:=V->V->Hp->VK->Prop
def PIp(X:Cx)(op:Operator)(t:U0):Prop:=
 ∀(ο:List (Ν×Obj))(s:ϊ)(σ:St)(H:Hp)(x y:V)(v u:Ρ)(Q:VK),τ X ο σ H s->RelV x v->RelV y u->t x y H Q->
  ϫ (ϩ X.prog X.w) X.A (inplaceOp op v u) (EP X ο σ Q) X.xe s
section
variable {X:Cx}{pos:Pos}
def cO(i:Nat):TG:=λv σ H Q=>Q (σ.set i (Β v)) H
theorem ax(b:X.N.Nodup)(c:X.N[i]?=Β x)(d:Loc X.env.scope x)(e:autoParam (X.fn x=Δ∨X.env.scope.names.lookup x=Β .local) ζ):PG X (.Name x pos) (cO i):=by
 intro a s g H v u Q I r h
 exact Ta (kM I b c d r (λj f=>⟨_,H,f,h⟩) e)
noncomputable def We:DK:=λvs σ H Q=>vs=[]/\Q σ H
noncomputable def P4(t:TG)(u:DK):DK:=λvs σ H Q=>∃v r,vs=v:: r/\t v σ H λσ' H'=>u r σ' H' Q
theorem eG:Uz X [] We:=by
 intro a s b H c us Q I r h
 obtain⟨e,h⟩:=h
 subst e
 cases r
 exact assignInOrder_nil ⟨b,H,I,h⟩
theorem bP(c:PG X e t)(d:Uz X es u)
  (f:autoParam ((Ū (e:: es) X.env).map (·.2)=assign e X.env:: (Ū es X.env).map (·.2)) η):Uz X (e:: es) (P4 t u):=by
 intro a s g H w us Q I r h
 obtain⟨v,x,i,h⟩:=h
 subst i
 cases r with
 | cons r j =>
  rw[f]
  refine assignInOrder_cons (bj (c a s g H _ _ _ I r h) λ_ l m=>?_)
  obtain⟨b,o,p,q⟩:=m
  exact d a l b o _ _ Q p j q
inductive AH(K:ϣ)(n:Nat)(t:DK)(v:V)(σ:St)(H:Hp)(Q:St->Hp->Prop):Prop
 |mk (a xs)(_:v=.ref a)(_:DY K H a xs)(_:xs.length=n)(_:t xs σ H Q)
theorem gh(j:X.calm=Δ)(h:Uz X es t)
  (l:autoParam ((Ū es X.env).length=n) η) (m:autoParam ((Ū es X.env).findIdx? (·.1)=Γ) η):PG X (.Tuple es k pos) (AH X.K n t):=by
 intro c s f H v u Q I r d
 obtain⟨a,xs,p,q,w,d⟩:=d
 subst p
 cases r
 obtain⟨B,g,x,C⟩:=I.tuple q
 refine assign_Tuple_tuple (I.ok.hd j) x (by simp[l,←w,g.length]) m λy z=>?_
 have A:=I.kept (t':=s.toks) λb o e=>z b o (Ê (lt_size e)) e
 exact h c _ f H xs _ Q A (by simpa using g) d
def Wg(to ti:TE)(t:DJ):TG:=λv σ H Q=>to σ H λo H1=>ti σ H1 λi H2=>t o i v H2 λH3=>Q σ H3
theorem oP(f:PE X o to)(g:PE X i ti)(j:P2 X t)
  (l:∀v,assign (.Subscript o i pos) X.env v=(do
   let b ← c0 [v] (eval o X.env)
   let c ← c0 [v,b] (eval i X.env)
   Il pos
   c0 [v,b,c] (setItem b c v)
   release [v,b,c] []):=by intro _;rfl):PG X (.Subscript o i pos) (Wg to ti t):=by
 intro a s e H v u Q I r h
 rw[l]
 refine Τ (ľ (bj (f a s e H _ I h) λb m d=>?_))
 obtain⟨x,p,q,w,z⟩:=d
 refine Τ (ľ (bj (g a m e p _ q z) λc A d=>?_))
 obtain⟨y,B,C,D,E⟩:=d
 refine Τ (KC (Τ (ľ (bj (j a A e B x y v b c u _ C w D r E) λ_ K d=>?_))))
 obtain⟨F,G,J⟩:=d
 exact wpAny_release ⟨e,F,G,J⟩
def BR(te:TE)(g:TG):TS:=λD σ H=>te σ H λx H1=>g x σ H1 D.nx
theorem oN(c:PE X e te)(d:PG X tg g)(f:autoParam (swapsWithSole [tg] e pos.line X.env=pure Ε) η)(i:autoParam (swappedStores [tg] e X.env=pure Γ) η)
  (j:autoParam ((Ū [tg] X.env).map (·.2)=[assign tg X.env]) η):PS X (.Assign [tg] e pos) (BR te g):=by
 intro a s b H D I h
 refine wpAny_Assign_stores (bj (c a s b H _ I h) λv l m=>?_) f i
 obtain⟨x,o,p,r,t⟩:=m
 rw[j]
 exact bj (d a l b o x v _ p r t) λ_ u q=>q
theorem av(b:X.N.Nodup)(c:X.N[i]?=Β x)(d:Loc X.env.scope x)(f:PE X e te)(g:autoParam (ť e (Β (.Name x pos')) pos.line X.env=pure Ε) η)(j:autoParam (X.fn x=Δ∨X.env.scope.names.lookup x=Β .local) ζ):
  PS X (.Assign [.Name x pos'] e pos) (BR te (cO i)):=by
 intro a s l H D I h
 refine wpAny_Assign_Name (bj (f a s l H _ I h) λv u m=>?_) g
 obtain⟨y,o,p,q,r⟩:=m
 exact kM p b c d q (λw t=>⟨_,o,t,r⟩) j
def Wh(i:Nat)(te:TE)(ti:U0):TS:=λD σ H=>((σ[i]?).getD Γ).elim False λx=>te σ H λy H1=>ti x y H1 λz H2=>D.nx (σ.set i (Β z)) H2
theorem se(B:X.N.Nodup)(p:X.N[i]?=Β x)(g:Loc X.env.scope x)(C:PE X e te)(E:PIp X op ti)(F:autoParam (X.fn x=Δ∨X.env.scope.names.lookup x=Β .local) ζ):
  PS X (.AugAssign (.Name x pos') op e pos) (Wh i te ti):=by
 intro a s q H D I h
 obtain⟨v,G,h⟩:=tvE h
 obtain⟨m,J,K⟩:=I.loc
 have j:Uv X.env.scope x:=by rcases g with k|k;exact .inl k;exact .inr (.inl k)
 obtain⟨u,r,l⟩:=K i x v p G j
 refine wpAny_AugAssign_Name ?_
 have t:ϫ (ϩ X.prog X.w) X.A (eval e X.env) (λw d=>ϫ (ϩ X.prog X.w) X.A (inplaceOp op u w) (λr f=>ϫ (ϩ X.prog X.w) X.A (storeName X.env x r) (λ_=>SP X a D .next) X.xe f) X.xe d) X.xe s:=by
  refine bj (C a s q H _ I h) λw L o=>?_
  obtain⟨y,M,O,P,Q⟩:=o
  refine bj (E a L q M v y u w _ O r P Q) λz s2 o=>?_
  obtain⟨zv,R,S,T,U⟩:=o
  exact kM S B p g T (λs3 Y=>⟨_,R,Y,U⟩) F
 rcases l with ⟨b,Z⟩|⟨b,c,hc,IU⟩
 ·exact PX I.ok.kind b J Z t
 ·rcases b with b|b
  ·exact Rz I.ok.kind b hc IU t
  ·rcases g with k|k
   ·have:X.env.scope.names.lookup x=Β .free:=b
    rw[k]at this;cases this
   ·have:X.env.scope.names.lookup x=Β .free:=b
    rw[k]at this;cases this
noncomputable def ipI(f:Int->Int->Int):U0:=λx y H Q=>∃i j,x=.int i/\y=.int j/\Q (.int (f i j)) H
theorem sF:PIp X .Add (ipI λi j=>i+j):=by
 intro a s f H x y v u Q I b c h
 obtain⟨i,j,d,e,q⟩:=h
 subst d;subst e
 obtain⟨t,rfl⟩:=b
 obtain⟨g,rfl⟩:=c
 exact iadd_int ⟨.int _,H,I.tok _,⟨_,Λ⟩,q⟩
end
section
variable {X:Cx}{pos:Pos}
def vV(c:TT)(tb:TS):TS:=λD σ H=>∃W:Nat->St->Hp->Prop,(∃m,W m σ H)/\∀m σ H,W m σ H->
 c σ H λb H1=>if b=Δ then ∃N:St->Hp->Prop,(∀σ' H',N σ' H'->∃m',m'< m/\W m' σ' H')/\tb {D with nx:=N,ct:=N,bk:=D.nx} σ H1 else D.nx σ H1
theorem ge(t:PassesOwn (ϩ X.prog X.w) X.A X.env X.xe)(C:PT X c tc)(E:IT X body tb):PS X (.While c body [] pos) (vV tc tb):=by
 intro a s F H D I h
 obtain⟨W,⟨G,J⟩,turn⟩:=h
 refine wpAny_While (codeAny_whileLoop (λn K=>∃g u,τ X a g u K/\W n g u) ?_ G ⟨F,H,I,J⟩)
 rintro n L ⟨e,x,M,O⟩
 refine Ď t (bj (C a L e x _ M (turn n e x O)) λb P Q=>?_)
 obtain⟨y,z,j⟩:=Q
 cases b with
 | true =>
  obtain⟨N,B,j⟩:=j
  rw[Ι Λ]
  refine Ď t (bj (E a P e y _ z j) λf R l=>?_)
  cases f with
  | next =>
   obtain⟨d,i,m,o⟩:=l
   obtain⟨p,q,r⟩:=B d i o
   exact⟨p,q,d,i,m,r⟩
  | cont =>
   obtain⟨d,i,m,o⟩:=l
   obtain⟨p,q,r⟩:=B d i o
   exact⟨p,q,d,i,m,r⟩
  |brk=>exact l
  |ret v=>exact l
 | false =>
  rw[Θ Ϝ]
  exact ů ⟨e,y,z,j⟩
end
structure It where
 go:Nat->Hp->Prop
 KG:Nat->Hp->V->Hp->Prop
 stop:Nat->Hp->Prop
def fR(X:Cx)(ο:List (Ν×Obj))(H:Hp)(b:Ν):Prop:=
 H b=Γ/\b≠X.env.locals/\b∉X.fs/\(b∈X.ex∨X.s₀.heap.objs.size<=b)/\(∀x c,X.env.cells.lookup x=Β c->c≠b)/\∀p∈X.pn++ο,p.1≠b
theorem τ.Im{d:St}{b:Ν}(I:τ X ο d H s)(a:s.heap.objs.size<=b)(f:H' b=Γ):fR X ο H' b:=by
 refine⟨f,Ż (Ϥ I.lt a),I.VP a,.inr (Î I.sz a),λx c e z=>?_,λp g z=>?_⟩
 ·obtain⟨v,q⟩:=I.cell x c e
  exact Κ (Ϥ q.lt (by rw[z];exact a)) (Ĭ _)
 ·exact Κ (Ϥ (lt_size (I.pin p g).1) (by rw[z];exact a)) (Ĭ _)
structure pF(P:Program)(w:Ϭ)(K:ϣ)(tg:Expr)(J:It)(fp:List Ν)(it:Ν)(tn:Nat->Ù->Prop):Prop where
 mem:it∈fp
 obj:∀i h,tn i h->∀b∈fp,∃o,h.get? b=Β o/\∀v,o.data≠.cell v
 keep:∀i h h',tn i h->(∀b∈fp,∀o,h.get? b=Β o->h'.get? b=Β o)->tn i h'
 item:∀(X:Cx),X.prog=P->X.w=w->X.K=K->X.calm=Δ->∀(i:Nat)(ο:List (Ν×Obj))(s:ϊ)(σ:St)(H:Hp)(E:Ρ->ϊ->Prop),τ X ο σ H s->(∀b∈fp,fR X ο H b)->tn i s.heap->J.go i H->
  ϫ (ϩ P w) X.A (pyNext (.ref it)) (λr s1=>∃u,r=Β u/\
   ϫ (ϩ P w) X.A (Ň tg (.ref it) u) (λ_ s2=>∃x H',τ X ο σ H' s2/\RelV x u/\J.KG i H x H'/\tn (i+1) s2.heap/\∀b∈fp,H' b=Γ) E s1) E s
 done:∀(X:Cx),X.prog=P->X.w=w->X.K=K->X.calm=Δ->∀(i:Nat)(ο:List (Ν×Obj))(s:ϊ)(σ:St)(H:Hp)(E:Ρ->ϊ->Prop),τ X ο σ H s->(∀b∈fp,fR X ο H b)->tn i s.heap->J.stop i H->
  ϫ (ϩ P w) X.A (pyNext (.ref it)) (λr s1=>r=Γ/\τ X ο σ H s1) E s
 self:∀(A:Ð)(i:Nat)(s:ϊ)(Q:Ρ->ϊ->Prop)(E:Ρ->ϊ->Prop),tn i s.heap->Q (.ref it) s->ϫ (ϩ P w) A (pyIter (.ref it)) Q E s
abbrev TI:=St->Hp->(It->Hp->Prop)->Prop
def PIE(X:Cx)(ο:List (Ν×Obj))(σ:St)(tg:Expr)(R:It->Hp->Prop)(U1:Ρ)(s2:ϊ):Prop:=
 ∃(it:Ν)(fp:List Ν)(tn:Nat->Ù->Prop)(J:It)(H':Hp),U1=.ref it/\τ X ο σ H' s2/\pF X.prog X.w X.K tg J fp it tn/\tn 0 s2.heap/\(∀b∈fp,fR X ο H' b)/\R J H'
def PI(X:Cx)(tg iter:Expr)(wi:TI):Prop:=
 ∀(ο:List (Ν×Obj))(s:ϊ)(σ:St)(H:Hp)(R:It->Hp->Prop),τ X ο σ H s->wi σ H R->
  ϫ (ϩ X.prog X.w) X.A (eval iter X.env) (λv s1=>ϫ (ϩ X.prog X.w) X.A (pyIter v) (PIE X ο σ tg R) X.xe s1) X.xe s
theorem uq(b:s.heap.get? it=Β o)(c:o.cls=.type n)(d:o.data=.fields vs)
  (e:["enumerate","zip","dict_itemiterator","dict_reverseitemiterator","odict_iterator","itertools.zip_longest","itertools.pairwise"].contains n=Ε) (a:Q () s):ϫ M A (Ň tg (.ref it) u) Q E s:=by
 unfold Ň
 cases tg<;>first
  |exact Ϛ a
  | (cases u<;>first
    |exact Ϛ a
    | (refine Τ (wpAny_load b ?_)
       rw[c,d]
       show ϫ M A (if (["enumerate","zip","dict_itemiterator","dict_reverseitemiterator","odict_iterator","itertools.zip_longest","itertools.pairwise"].contains n&& vs[0]? == Β (Se _))=Δ then _ else _) Q E s
       rw[Θ (by intro h;rw[e,Bool.false_and]at h;cases h)]
       exact Ϛ a))
noncomputable def yY(K:ϣ)(a:Ν):It:=
 ⟨λi H=>∃xs x,DS K H a xs/\xs[i]?=Β x,λi H x H'=>H'=H/\∀xs,DS K H a xs->xs[i]?=Β x,λi H=>∃xs,DS K H a xs/\xs.length<=i⟩
noncomputable def U2(K:ϣ)(a:Ν):It:=
 ⟨λi H=>∃xs x,DY K H a xs/\xs[i]?=Β x,λi H x H'=>H'=H/\∀xs,DY K H a xs->xs[i]?=Β x,λi H=>∃xs,DY K H a xs/\xs.length<=i⟩
noncomputable def Bh(lo:Int)(n:Nat):It:=⟨λi _=>i<n,λi H x H'=>H'=H/\x=.int (lo+i),λi _=>n<=i⟩
theorem uF{K:ϣ}(a it:Ν):pF P w K tg (yY K a) [it] it (λi h=>h.IsListIter it a i) where
 mem:=by simp
 obj:=λi h f b j=>by
  have e:b=it:=by simpa using j
  subst e
  obtain⟨o,e,c,d⟩:=f
  exact⟨o,e,λv z=>by rw[d]at z;cases z⟩
 keep:=λi h m f k=>f.at λo e=>k it (by simp) o e
 item:=by
  intro X t y A N i g s O H E I q f B
  subst t y A
  obtain⟨xs,x,r,C⟩:=B
  obtain⟨R,D,p,S⟩:=I.list r
  obtain⟨u,T,U⟩:=D.get C
  obtain⟨F,G,Y,J,L,M⟩:=q it (by simp)
  refine wpAny_pyNext_list_item f p.isList (x:=u) (by simpa using T) λm Q Z=>?_
  have I1:=I.turned (t':=s.toks) (λb o j e=>(Z.2 b j).trans e) F G J L M
  obtain⟨o,e,c,d⟩:=id Q
  exact⟨u,Λ,uq (s:={s with heap:=m}) e c d (by decide) ⟨x,H,I1,U,⟨Λ,λys hy=>by rw[I.FA hy r];exact C⟩,Q,λb j=>(q b j).1⟩⟩
 done:=by
  intro X t y A N i g s O H E I q f B
  subst t y A
  obtain⟨xs,r,C⟩:=B
  obtain⟨R,D,p,S⟩:=I.list r
  obtain⟨F,G,Y,J,L,M⟩:=q it (by simp)
  have hl:=D.length
  exact wpAny_pyNext_list_end (I.ok.hd N) f p.isList (by simp;omega) λm eb=>⟨Λ,I.turned (t':=s.toks) (λb o j e=>eb b o j e) F G J L M⟩
 self:=λ_ _ _ _ _ f h=>wpAny_pyIter_listiter f h
theorem r8{K:ϣ}(a it:Ν):pF P w K tg (U2 K a) [it] it (λi h=>h.IsTupleIter it a i) where
 mem:=by simp
 obj:=λi h f b j=>by
  have e:b=it:=by simpa using j
  subst e
  obtain⟨o,e,c,d⟩:=f
  exact⟨o,e,λv z=>by rw[d]at z;cases z⟩
 keep:=λi h m f k=>f.at λo e=>k it (by simp) o e
 item:=by
  intro X t y A O i g s Q H E I q f B
  subst t y A
  obtain⟨xs,x,r,C⟩:=B
  obtain⟨D,F,p,S⟩:=I.tuple r
  obtain⟨u,T,U⟩:=F.get C
  obtain⟨G,J,Y,L,M,N⟩:=q it (by simp)
  refine wpAny_pyNext_tuple_item f (p) (x:=u) (by simpa using T) λm R Z=>?_
  have I1:=I.turned (t':=s.toks) (λb o j e=>(Z.2 b j).trans e) G J L M N
  obtain⟨o,e,c,d⟩:=id R
  exact⟨u,Λ,uq (s:={s with heap:=m}) e c d (by decide) ⟨x,H,I1,U,⟨Λ,λys hy=>by rw[I.GU hy r];exact C⟩,R,λb j=>(q b j).1⟩⟩
 done:=by
  intro X t y A O i g s Q H E I q f B
  subst t y A
  obtain⟨xs,r,C⟩:=B
  obtain⟨D,F,p,S⟩:=I.tuple r
  obtain⟨G,J,Y,L,M,N⟩:=q it (by simp)
  have hl:=F.length
  exact wpAny_pyNext_tuple_end (I.ok.hd O) f (p) (by simp;omega) λm eb=>⟨Λ,I.turned (t':=s.toks) (λb o j e=>eb b o j e) G J L M N⟩
 self:=λ_ _ _ _ _ f h=>wpAny_pyIter_tupleiter f h
theorem r9{K:ϣ}(it:Ν)(g:Int)(n:Nat):pF P w K tg (Bh g n) [it] it (λi h=>IsRangeIter h it (g+(i:Nat)* 1) ((n:Int) - (i:Nat)) 1) where
 mem:=by simp
 obj:=λi h a b d=>by
  have e:b=it:=by simpa using d
  subst e
  exact⟨_,a,λv z=>by
   have J:=z
   cases J⟩
 keep:=λi h j a k=>k it (by simp) _ a
 item:=by
  intro X m p q r i c s D H E I l a u
  subst m p q
  obtain⟨x,y,L,A,B,C⟩:=l it (by simp)
  have W:=Walks.range (prog:=X.prog) (w:=X.w) (I.ok.hd r) it g 1 n
  refine W.item i s _ _ u a λv j F M G N=>?_
  obtain⟨t,rfl⟩:=M
  have O:τ X c D H {s with heap:=j,toks:=F}:=I.turned (λb o d e=>N b o (by simpa using d) e) x y A B C
  refine⟨_,Λ,uq (s:={s with heap:=j,toks:=F}) (n:="range_iterator") G Λ Λ (by decide) ⟨.int (g+i),H,O,⟨t,?_⟩,⟨Λ,Λ⟩,G,λb d=>(l b d).1⟩⟩
  rw[Int.mul_one]
 done:=by
  intro X m p q r i c s D H E I l a u
  subst m p q
  obtain⟨x,y,L,A,B,C⟩:=l it (by simp)
  exact wpAny_pyNext_range_end (I.ok.hd r) a (by have:n<=i:=u;omega) λj Q=>⟨Λ,I.turned (t':=s.toks) (λb o d e=>Q b o d e) x y A B C⟩
 self:=λ_ _ _ _ _ a h=>wpAny_pyIter_rangeiter a h
section
variable {X:Cx}{tg:Expr}
inductive Uae(K:ϣ)(R:It->Hp->Prop)(x:V)(H1:Hp):Prop
 |mk (a)(_:x=.ref a)(_:(∃xs,DS K H1 a xs))(_:R (yY K a) H1)
def P5(K:ϣ)(tl:TE):TI:=λσ H R=>tl σ H λx H1=>Uae K R x H1
inductive Uaf(K:ϣ)(R:It->Hp->Prop)(x:V)(H1:Hp):Prop
 |mk (a)(_:x=.ref a)(_:(∃xs,DY K H1 a xs))(_:R (U2 K a) H1)
def Wi(K:ϣ)(tl:TE):TI:=λσ H R=>tl σ H λx H1=>Uaf K R x H1
theorem aV(g:PE X l tl):PI X tg l (P5 X.K tl):=by
 intro c s i H R I h
 refine bj (g c s i H _ I h) λv d j=>?_
 obtain⟨x,m,f,r,t⟩:=j
 obtain⟨a,e,⟨xs,u⟩,q⟩:=t
 subst e
 cases r
 obtain⟨y,z,p,A⟩:=f.list u
 refine SV p.isList ?_
 refine⟨d.heap.objs.size,[d.heap.objs.size],_,_,m,Λ,f.kept (t':=d.toks) λb o e=>ώ _ e,uF a _,⟨_,Ϡ _ Λ,Λ,Λ⟩,λb w=>?_,q⟩
 have e:b=d.heap.objs.size:=by simpa using w
 subst e
 exact f.Im (Ξ _) (f.DW.fresh (Ξ _))
theorem ju(g:PE X l tl):PI X tg l (Wi X.K tl):=by
 intro c s i H R I h
 refine bj (g c s i H _ I h) λv d j=>?_
 obtain⟨x,m,f,r,t⟩:=j
 obtain⟨a,e,⟨xs,u⟩,q⟩:=t
 subst e
 cases r
 obtain⟨w,z,p,A⟩:=f.tuple u
 refine Ŕ (p) ?_
 refine⟨d.heap.objs.size,[d.heap.objs.size],_,_,m,Λ,f.kept (t':=d.toks) λb o e=>ώ _ e,r8 a _,⟨_,Ϡ _ Λ,Λ,Λ⟩,λb y=>?_,q⟩
 have e:b=d.heap.objs.size:=by simpa using y
 subst e
 exact f.Im (Ξ _) (f.DW.fresh (Ξ _))
theorem xm{f:St}{a c:Int}(I:τ X ο f H s)(h:-(2^62)<=a)(i:a<2^62)(j:-(2^62)<=c)(l:c<2^62)
  (q:R (Bh a (c - a).toNat) H):ϫ (ϩ X.prog X.w) X.A (pyIter (.ref s.heap.objs.size)) (PIE X ο f tg R) E {s with heap:=s.heap.push {cls:=.type "range",data:=.fields #[.int a t,.int c u,.int 1 v]},toks:=tk}:=by
 refine wpAny_pyIter_range (IsRange.new ..) (small_one h i j l) ?_
 have g:τ X ο f H {s with heap:=s.heap.push {cls:=.type "range",data:=.fields #[.int a t,.int c u,.int 1 v]},toks:=tk}:=I.kept λb o e=>ώ _ e
 refine⟨(s.heap.push {cls:=.type "range",data:=.fields #[.int a t,.int c u,.int 1 v]}).objs.size,[(s.heap.push {cls:=.type "range",data:=.fields #[.int a t,.int c u,.int 1 v]}).objs.size],_,_,H,Λ,
  g.kept (t':=tk) λb o e=>ώ _ e,r9 _ a (c - a).toNat,?_,λb m=>?_,q⟩
 ·have p:a+((0:Nat):Int)* 1=a:=by simp
  have r:(((c - a).toNat:Nat):Int) - ((0:Nat):Int)=Builtin.Range.rangeSize a c 1:=by rw[rangeSize_one];split<;>omega
  rw[p,r]
  exact Ϡ _ Λ
 ·have e:b=(s.heap.push {cls:=.type "range",data:=.fields #[.int a t,.int c u,.int 1 v]}).objs.size:=by simpa using m
  subst e
  exact g.Im (Ξ _) (g.DW.fresh (Ξ _))
inductive Uag(R:It->Hp->Prop)(vs:List V)(H1:Hp):Prop
 |mk (j:Int)(_:vs=[.int j])(_:-(2^62)<=j)(_:j<2^62)(_:R (Bh 0 j.toNat) H1)
def P6(ta:TA):TI:=λσ H R=>ta σ H λvs H1=>Uag R vs H1
theorem bL(d:Gl X "range")(f:X.mg "range"=Γ)(g:PA X [a] ta)(i:autoParam (Á [a] X.env=[(Ε,eval a X.env)]) η):PI X tg (.Call (.Name "range" p) [a] [] pos) (P6 ta):=by
 intro b s l H R I h
 refine TR (fK I d f boot_range (Ô (bj (g pos b s l H _ I h) λus x m=>?_) i Λ))
 obtain⟨y,z,o,u,c⟩:=m
 obtain⟨j,e,c,v,q⟩:=c
 subst e
 cases u with
 | cons r w =>
  cases w
  obtain⟨t,rfl⟩:=r
  exact call_range_1 (xm o (by omega) (by omega) c v (by simpa using q))
def Wj(wi:TI)(g:TG)(tb:TS):TS:=λD σ H=>wi σ H λJ H1=>∃W:Nat->Nat->St->Hp->Prop,(∃m,W 0 m σ H1)/\∀i m σ H,W i m σ H->
 (J.stop i H/\D.nx σ H)∨(J.go i H/\∃N:St->Hp->Prop,(∀σ' H',N σ' H'->∃m',m'< m/\W (i+1) m' σ' H')/\∀x H',J.KG i H x H'->g x σ H' λσ2 H2=>tb {D with nx:=N,ct:=N,bk:=D.nx} σ2 H2)
noncomputable def fH(fp:List Ν)(h:Ù):List (Ν×Obj):=fp.filterMap λb=>(h.get? b).map λo=>(b,o)
theorem fI(a:b∈fp)(e:h.get? b=Β o):(b,o)∈fH fp h:=Na.mpr ⟨b,a,by rw[e];rfl⟩
theorem mZ(a:p∈fH fp h):p.1∈fp/\h.get? p.1=Β p.2:=by
 obtain⟨b,c,e⟩:=Na.mp a
 cases q:h.get? b with
 |none=>rw[q]at e;cases e
 | some o =>
  rw[q]at e
  have d:=Ψ e
  subst d
  exact⟨c,q⟩
theorem τ.pinned{a:St}(I:τ X ο a H s)(g:∀b∈fp,fR X ο H b)(h:∀b∈fp,∃o,s.heap.get? b=Β o/\∀v,o.data≠.cell v):τ X (ο++fH fp s.heap) a H s:=
 I.Fx λp i=>(Ϣ.mp i).elim (λz=>I.pin p (Ϩ _ z)) λz=>by
  obtain⟨c,e⟩:=mZ z
  obtain⟨j,l,m,_⟩:=g p.1 c
  obtain⟨o,f,d⟩:=h p.1 c
  rw[e]at f;cases f
  exact⟨e,j,l,m,d⟩
theorem τ.FC{a:St}(I:τ X (ο++pl) a H s):τ X ο a H s:=I.Fx λp b=>I.pin p (Ϩ _ (Ä _ b))
theorem bz(E:PassesOwn (ϩ X.prog X.w) X.A X.env X.xe)(U:X.calm=Δ)(hi:PI X tg iter wi)(hg:PG X tg g)(j:IT X body tb)
  (hs:autoParam (∀x,nD iter X.env x=pure x) ψ):PS X (.For tg iter body [] pos) (Wj wi g tb):=by
 intro a s Y H D I h
 refine wpAny_For (bj (hi a s Y H _ I h) λv s1 h1=>bj h1 λU1 s2 h2=>?_) hs
 obtain⟨it,F,Z,J,H2,e,I2,T,MU,f2,W,⟨m0,w0⟩,turn⟩:=h2
 subst e
 have fD:∀{z:Hp},(∀b∈F,z b=Γ)->∀b∈F,fR X a z b:=λhn b j=>⟨hn b j,(f2 b j).2⟩
 refine codeAny_forLoop_any (λn s'=>∃i l z,τ X a l z s'/\Z i s'.heap/\(∀b∈F,z b=Γ)/\W i n l z) ?_ m0 ⟨0,Y,H2,I2,MU,λb j=>(f2 b j).1,w0⟩
 rintro n s3 ⟨i,p,M,I3,G,K,w3⟩
 rcases turn i n p M w3 with ⟨stop,qn⟩|⟨go,N,hN,step⟩
 ·refine Ď E (bj (T.done X Λ Λ Λ U i a s3 p M X.xe I3 (fD K) G stop) λr s4 C=>?_)
  obtain⟨O,I4⟩:=C
  subst O
  exact ů ⟨p,M,I4,qn⟩
 ·refine Ď E (bj (T.item X Λ Λ Λ U i a s3 p M X.xe I3 (fD K) G go) λr s4 C=>?_)
  obtain⟨u,O,h4⟩:=C
  subst O
  refine Ď E (bj h4 λ_ s5 C=>?_)
  obtain⟨x,H5,I5,r5,y5,P,U3⟩:=C
  have Q:=I5.pinned (fD U3) (T.obj _ _ P)
  refine Ď E (bj (hg _ s5 p H5 x u _ Q r5 (step x H5 y5)) λ_ s6 C=>?_)
  obtain⟨R,H6,I6,q6⟩:=C
  refine Ď E (bj (j _ s6 R H6 _ I6 q6) λf S B=>?_)
  have q:∀{c:St}{t:Hp},τ X (a++fH F s5.heap) c t S->N c t->∃m,m<n/\∃i l z,τ X a l z S/\Z i S.heap/\(∀b∈F,z b=Γ)/\W i m l z:=λ{c t} y L=>by
   obtain⟨m',hm,w7⟩:=hN c t L
   refine⟨m',hm,i+1,c,t,y.FC,T.keep _ _ _ P λb j o e=>(y.pin (b,o) (Ϩ _ (Ϩ _ (fI j e)))).1,λb j=>?_,w7⟩
   obtain⟨o,e,d⟩:=T.obj _ _ P b j
   exact(y.pin (b,o) (Ϩ _ (Ϩ _ (fI j e)))).2.1
  cases f with
  |next=>obtain⟨c,t,y,L⟩:=B;exact q y L
  |cont=>obtain⟨c,t,y,L⟩:=B;exact q y L
  |brk=>obtain⟨c,t,y,B⟩:=B;exact⟨c,t,y.FC,B⟩
  |ret v=>obtain⟨x7,c,t,y,r7,B⟩:=B;exact⟨x7,c,t,y.FC,r7,B⟩
end
theorem bV{K:ϣ}{g:TG}{l:TS}{D:pH}(c:Nat->St->Hp->Prop)(s:c 0 b H)(t:∀i b H,i<=xs.length->c i b H->DS K H a xs)
  (u:∀i x b H,xs[i]?=Β x->c i b H->g x b H λd j=>l {D with nx:=c (i+1),ct:=c (i+1),bk:=D.nx} d j) (v:∀b H,c xs.length b H->D.nx b H):
  ∃W:Nat->Nat->St->Hp->Prop,(∃m,W 0 m b H)/\∀i m b H,W i m b H->
   ((yY K a).stop i H/\D.nx b H)∨((yY K a).go i H/\∃N:St->Hp->Prop,(∀f h,N f h->∃o,o<m/\W (i+1) o f h)/\∀x h,(yY K a).KG i H x h->g x b h λd j=>l {D with nx:=N,ct:=N,bk:=D.nx} d j):=by
 refine⟨λi m b H=>m=xs.length - i/\i<=xs.length/\c i b H,⟨xs.length,by simp,Ϧ _,s⟩,?_⟩
 rintro i m b H ⟨rfl,w,p⟩
 have q:=t i b H w p
 by_cases r:i<xs.length
 ·refine .inr ⟨⟨xs,xs[i],q,by simp[r]⟩,c (i+1),λf h z=>⟨xs.length - (i+1),by omega,Λ,r,z⟩,λx h y=>?_⟩
  obtain⟨e,y⟩:=y
  subst e
  exact u i x b _ (y xs q) p
 ·have e:i=xs.length:=by omega
  subst e
  exact .inl ⟨⟨xs,q,Ξ _⟩,v b H p⟩
theorem cT{h:Int}{g:TG}{o:TS}{D:pH}(b:Nat->St->Hp->Prop)(r:b 0 a H)
  (s:∀i a H,i<n->b i a H->g (.int (h+i)) a H λc j=>o {D with nx:=b (i+1),ct:=b (i+1),bk:=D.nx} c j) (t:∀a H,b n a H->D.nx a H):
  ∃W:Nat->Nat->St->Hp->Prop,(∃m,W 0 m a H)/\∀i m a H,W i m a H->
   ((Bh h n).stop i H/\D.nx a H)∨((Bh h n).go i H/\∃N:St->Hp->Prop,(∀d f,N d f->∃q,q<m/\W (i+1) q d f)/\∀x f,(Bh h n).KG i H x f->g x a f λc j=>o {D with nx:=N,ct:=N,bk:=D.nx} c j):=by
 refine⟨λi m a H=>m=n - i/\i<=n/\b i a H,⟨n,by simp,Ϧ _,r⟩,?_⟩
 rintro i m a H ⟨rfl,v,p⟩
 by_cases l:i<n
 ·refine .inr ⟨l,b (i+1),λd f u=>⟨n - (i+1),by omega,Λ,l,u⟩,λx f y=>?_⟩
  obtain⟨e,y⟩:=y
  subst e y
  exact s i a _ l p
 ·have e:i=n:=by omega
  subst e
  exact .inl ⟨Ξ _,t a H p⟩
abbrev R2:=V->V->Hp->VK->Prop
def fz(X:Cx)(f:Ρ->Ρ->Sem Ρ)(r:R2):Prop:=
 ∀(ο:List (Ν×Obj))(s:ϊ)(σ:St)(H:Hp)(x y:V)(v u:Ρ)(Q:VK),τ X ο σ H s->RelV x v->RelV y u->r x y H Q->
  ϫ (ϩ X.prog X.w) X.A (f v u) (EP X ο σ Q) X.xe s
def du(X:Cx)(f:Ρ)(r:List V->Hp->VK->Prop):Prop:=
 ∀(ο:List (Ν×Obj))(s:ϊ)(σ:St)(H:Hp)(xs:List V)(us:List Ρ)(Q:VK),τ X ο σ H s->υ xs us->r xs H Q->
  ϫ (ϩ X.prog X.w) X.A (call f us) (EP X ο σ Q) X.xe s
def Wl(X:Cx)(r:V->Hp->(Bool->Hp->Prop)->Prop):Prop:=
 ∀(ο:List (Ν×Obj))(s:ϊ)(σ:St)(H:Hp)(x:V)(v:Ρ)(Q:Bool->Hp->Prop),τ X ο σ H s->RelV x v->r x H Q->
  ϫ (ϩ X.prog X.w) X.A (truthy v) (TP X ο σ Q) X.xe s
def U4(r:R2)(ta tb:TE):TE:=λσ H Q=>ta σ H λx H1=>tb σ H1 λy H2=>r x y H2 Q
inductive rI(C:Int->Int->Prop)(g:Int->Int->V)(x:V)(y:V)(H:Hp)(Q:VK):Prop
 |mk (i j)(_:x=.int i)(_:y=.int j)(_:C i j)(_:Q (g i j) H)
inductive vH(g:Int->Int->V)(x:V)(y:V)(H:Hp)(Q:VK):Prop
 |mk (i j)(_:x=.int i)(_:y=.int j)(_:Q (g i j) H)
section
variable {X:Cx}{a b c:Expr}{ta tb tc:TE}{pos:Pos}
theorem DE(o:PE X a ta)(p:PE X b tb){d:St}{R:V->V->Hp->Prop}(I:τ X ο d H s)
  (h:ta d H λx l=>tb d l λy e=>R x y e) {f:Ρ->Ρ->Sem Ρ}
  (q:∀v u j x y e,τ X ο d e j->RelV x v->RelV y u->R x y e->ϫ (ϩ X.prog X.w) X.A (f v u) Q X.xe j):
  ϫ (ϩ X.prog X.w) X.A (eval a X.env) (λv g=>ϫ (ϩ X.prog X.w) X.A (eval b X.env) (λu i=>ϫ (ϩ X.prog X.w) X.A (f v u) Q X.xe i) X.xe g) X.xe s:=by
 refine bj (o ο s d H _ I h) λv r m=>?_
 obtain⟨x,l,t,z,B⟩:=m
 refine bj (p ο r d l _ t B) λu j m=>?_
 obtain⟨y,e,C,D,E⟩:=m
 exact q v u j x y e C z D E
theorem aC(e:fz X (binaryOp op) r)(f:PE X a ta)(g:PE X b tb):PE X (.BinOp a op b pos) (U4 r ta tb):=by
 intro d s i H Q I h
 exact wpAny_BinOp (DE f g I h λv u j x y l m o p q=>e d j i l x y v u Q m o p q)
theorem O5{g:Int->Int->Int}
  (d:∀(i j:Int)(t u:Tok)(s:ϊ)(Q:Ρ->ϊ->Prop)(E:Ρ->ϊ->Prop),C i j->Q (.int (g i j) s.toks) {s with toks:=s.toks+1}->ϫ (ϩ X.prog X.w) X.A (f (.int i t) (.int j u)) Q E s):
  fz X f (rI C λi j =>.int (g i j)):=by
 intro l s z H x y v u Q I m o h
 obtain⟨i,j,rfl,rfl,p,q⟩:=h
 obtain⟨t,rfl⟩:=m
 obtain⟨r,rfl⟩:=o
 exact d i j t r s _ _ p ⟨.int (g i j),H,I.tok _,⟨_,Λ⟩,q⟩
theorem uW{g:Int->Int->Int}
  (d:∀(i j:Int)(t u:Tok)(s:ϊ)(Q:Ρ->ϊ->Prop)(E:Ρ->ϊ->Prop),Q (.int (g i j) s.toks) {s with toks:=s.toks+1}->ϫ (ϩ X.prog X.w) X.A (f (.int i t) (.int j u)) Q E s):
  fz X f (vH λi j =>.int (g i j)):=by
 intro l s r H x y v u Q I m o h
 obtain⟨i,j,rfl,rfl,q⟩:=h
 obtain⟨t,rfl⟩:=m
 obtain⟨p,rfl⟩:=o
 exact d i j t p s _ _ ⟨.int (g i j),H,I.tok _,⟨_,Λ⟩,q⟩
theorem zN{g:Int->Int->Bool}
  (d:∀(i j:Int)(t u:Tok)(s:ϊ)(Q:Ρ->ϊ->Prop)(E:Ρ->ϊ->Prop),Q (.bool (g i j)) s->ϫ (ϩ X.prog X.w) X.A (f (.int i t) (.int j u)) Q E s):
  fz X f (vH λi j =>.bl (g i j)):=by
 intro e s p H x y v u Q I l m h
 obtain⟨i,j,rfl,rfl,q⟩:=h
 obtain⟨t,rfl⟩:=l
 obtain⟨o,rfl⟩:=m
 exact d i j t o s _ _ ⟨.bl (g i j),H,I,Λ,q⟩
def Wm(i j:Int):Prop:=0<j/\j<1073741824
def P7(i j:Int):Prop:=0<=j/\j<=1000000/\i.natAbs<2^64
def MV(i j:Int):Prop:=(-(2^64)<i/\i<2^64)∨(-(2^64)<j/\j<2^64)
theorem MV.ok(h:MV i j):IntMulOk i j:=by
 rcases h with ⟨d,e⟩|⟨d,e⟩
 ·exact .of_left (intBits_le_64 d e)
 ·exact .of_right (intBits_le_64 d e)
theorem r6(k:Nat):(0:Int)<=2^k:=by
 rw[two_pow_cast]
 exact Int.natCast_nonneg _
theorem bU:fz X (binaryOp .Add) (vH λi j =>.int (i+j)):=uW λ_ _ _ _ _ _ _ q=>add_int q
theorem dX:fz X (binaryOp .Sub) (vH λi j =>.int (i - j)):=uW λ_ _ _ _ _ _ _ q=>sub_int q
theorem lw:fz X (binaryOp .Mult) (rI MV λi j =>.int (i* j)):=O5 λ_ _ _ _ _ _ _ d q=>mul_int q d.ok
theorem cI:fz X (binaryOp .FloorDiv) (rI Wm λi j =>.int (i / j)):=O5 λi j _ _ _ _ _ d q=>by
 have e:=d.1
 have f:=d.2
 exact floordiv_int (by omega) (by rw[A2 i (by omega)];exact q) (.inl (PyProof.noPylong_small (by omega)))
theorem bF:fz X (binaryOp .Mod) (rI (λ_ j=>0<j) λi j =>.int (i% j)):=O5 λi j _ _ _ _ _ d q=>by
 have e:=d
 exact mod_int' (by omega) (by rw[Int.fmod_eq_emod_of_nonneg i (by omega)];exact q)
theorem oT:fz X (binaryOp .Pow) (rI P7 λi j =>.int (i^j.toNat)):=O5 λ_ _ _ _ _ _ _ d q=>pow_int_small d.1 d.2.1 d.2.2 q
theorem xz:fz X (binaryOp .LShift) (rI P7 λi j =>.int (i* 2^j.toNat)):=O5 λ_ _ _ _ _ _ _ d q=>lshift_int_small d.1 d.2.1 d.2.2 q
theorem xy:fz X (binaryOp .RShift) (rI (λ_ j=>0<=j) λi j =>.int (i / 2^j.toNat)):=O5 λi j _ _ _ _ _ d q =>
 rshift_int d (by rw[A2 i (r6 _)];exact q)
theorem xB:fz X (binaryOp .BitAnd) (vH λi j =>.int (ù i j)):=uW λ_ _ _ _ _ _ _ q=>and_int q
theorem B3:fz X (binaryOp .BitOr) (vH λi j =>.int (ň i j)):=uW λ_ _ _ _ _ _ _ q=>or_int q
theorem pj:fz X (inplaceOp .Add) (vH λi j =>.int (i+j)):=uW λ_ _ _ _ _ _ _ q=>iadd_int q
theorem ul:fz X (inplaceOp .Sub) (vH λi j =>.int (i - j)):=uW λ_ _ _ _ _ _ _ q=>isub_int q
end
noncomputable def BT:V->V->Bool
 |.Eg,.Eg=>Δ|.Eg,.int _=>Δ|.int _,.Eg=>Δ|.Eg,.bl _=>Δ|.bl _,.Eg=>Δ|.Eg,.str _=>Δ|.str _,.Eg=>Δ
 |.int _,.int _=>Δ|.bl _,.bl _=>Δ|.str _,.str _=>Δ|.IQ _,.IQ _=>Δ
 |.int _,.str _=>Δ|.str _,.int _=>Δ|.bl _,.str _=>Δ|.str _,.bl _=>Δ
 |_,_=>Ε
def rEq:R2:=λx y H Q=>BT x y=Δ/\Q (.bl (decide (x=y))) H
def rNe:R2:=λx y H Q=>BT x y=Δ/\Q (.bl (!decide (x=y))) H
theorem uw:decide (V.int i=V.int j)=(i == j):=by
 rw[ĸ]
 simp
theorem yG:decide (V.bl i=V.bl j)=(i == j):=by
 rw[ĸ]
 simp
theorem uv:decide (V.str i=V.str j)=(i == j):=by
 rw[ĸ]
 simp
theorem ux:decide (V.IQ i=V.IQ j)=(i.toList == j.toList):=by
 rw[ĸ]
 cases i
 cases j
 simp
section
variable {X:Cx}{a b c:Expr}{ta tb tc:TE}{pos:Pos}
theorem aX{d:St}(I:τ X ο d H s)(q:Q (.bl k) H)(e:k=k'):EP X ο d Q (.bool k') s:=by
 subst e
 exact⟨.bl k,H,I,Λ,q⟩
theorem bT:fz X (compareOp .Eq) rEq:=by
 intro l s m H x y v u Q I g d h
 obtain⟨f,q⟩:=h
 cases x with
 | Eg =>
  cases g
  cases y with
  |Eg=>cases d;exact PySem.EqNone.eq_none_none (aX I q (by simp))
  |bl j=>cases d;exact PySem.EqNone.eq_none_bool (aX I q (by simp))
  |int j=>obtain⟨e,rfl⟩:=d;exact PySem.EqNone.eq_none_int (aX I q (by simp))
  |str j=>obtain⟨e,rfl⟩:=d;exact PySem.EqNone.eq_none_str (aX I q (by simp))
  |_=>exact Κ (f) Ϝ
 | bl i =>
  cases g
  cases y with
  |Eg=>cases d;exact PySem.EqNone.eq_bool_none (aX I q (by simp))
  |bl j=>cases d;exact eq_bool (aX I q yG)
  |str j=>obtain⟨e,rfl⟩:=d;exact PySem.EqMixed.eq_bool_str (aX I q (by simp))
  |_=>exact Κ (f) Ϝ
 | int i =>
  obtain⟨t,rfl⟩:=g
  cases y with
  |Eg=>cases d;exact PySem.EqNone.eq_int_none (aX I q (by simp))
  |int j=>obtain⟨e,rfl⟩:=d;exact eq_int (aX I q uw)
  |str j=>obtain⟨e,rfl⟩:=d;exact PySem.EqMixed.eq_int_str (aX I q (by simp))
  |_=>exact Κ (f) Ϝ
 | str i =>
  obtain⟨t,rfl⟩:=g
  cases y with
  |Eg=>cases d;exact PySem.EqNone.eq_str_none (aX I q (by simp))
  |bl j=>cases d;exact PySem.EqMixed.eq_str_bool (aX I q (by simp))
  |int j=>obtain⟨e,rfl⟩:=d;exact PySem.EqMixed.eq_str_int (aX I q (by simp))
  |str j=>obtain⟨e,rfl⟩:=d;exact eq_str (aX I q uv)
  |_=>exact Κ (f) Ϝ
 | IQ i =>
  obtain⟨t,rfl⟩:=g
  cases y with
  |IQ j=>obtain⟨e,rfl⟩:=d;exact PySem.W.eq_bytes (aX I q ux)
  |_=>exact Κ (f) Ϝ
 |_=>cases y<;>exact Κ (f) Ϝ
theorem mW:fz X (compareOp .NotEq) rNe:=by
 intro l s m H x y v u Q I g d h
 obtain⟨f,q⟩:=h
 cases x with
 | Eg =>
  cases g
  cases y with
  |Eg=>cases d;exact PySem.EqNone.ne_none_none (aX I q (by simp))
  |bl j=>cases d;exact PySem.EqNone.ne_none_bool (aX I q (by simp))
  |int j=>obtain⟨e,rfl⟩:=d;exact PySem.EqNone.ne_none_int (aX I q (by simp))
  |str j=>obtain⟨e,rfl⟩:=d;exact PySem.EqNone.ne_none_str (aX I q (by simp))
  |_=>exact Κ (f) Ϝ
 | bl i =>
  cases g
  cases y with
  |Eg=>cases d;exact PySem.EqNone.ne_bool_none (aX I q (by simp))
  |bl j=>cases d;exact ne_bool (aX I q (congrArg not yG))
  |str j=>obtain⟨e,rfl⟩:=d;exact PySem.EqMixed.ne_bool_str (aX I q (by simp))
  |_=>exact Κ (f) Ϝ
 | int i =>
  obtain⟨t,rfl⟩:=g
  cases y with
  |Eg=>cases d;exact PySem.EqNone.ne_int_none (aX I q (by simp))
  |int j=>obtain⟨e,rfl⟩:=d;exact ne_int (aX I q (congrArg not uw))
  |str j=>obtain⟨e,rfl⟩:=d;exact PySem.EqMixed.ne_int_str (aX I q (by simp))
  |_=>exact Κ (f) Ϝ
 | str i =>
  obtain⟨t,rfl⟩:=g
  cases y with
  |Eg=>cases d;exact PySem.EqNone.ne_str_none (aX I q (by simp))
  |bl j=>cases d;exact PySem.EqMixed.ne_str_bool (aX I q (by simp))
  |int j=>obtain⟨e,rfl⟩:=d;exact PySem.EqMixed.ne_str_int (aX I q (by simp))
  |str j=>obtain⟨e,rfl⟩:=d;exact ne_str (aX I q (congrArg not uv))
  |_=>exact Κ (f) Ϝ
 | IQ i =>
  obtain⟨t,rfl⟩:=g
  cases y with
  |IQ j=>obtain⟨e,rfl⟩:=d;exact PySem.W.ne_bytes (aX I q (congrArg not ux))
  |_=>exact Κ (f) Ϝ
 |_=>cases y<;>exact Κ (f) Ϝ
theorem jI:fz X (compareOp .Lt) (vH λi j =>.bl (decide (i<j))):=zN λ_ _ _ _ _ _ _ q=>lt_int q
theorem tO:fz X (compareOp .LtE) (vH λi j =>.bl (decide (i<=j))):=zN λ_ _ _ _ _ _ _ q=>le_int q
theorem x8:fz X (compareOp .Gt) (vH λi j =>.bl (decide (j<i))):=zN λ_ _ _ _ _ _ _ q=>gt_int q
theorem tP:fz X (compareOp .GtE) (vH λi j =>.bl (decide (j<=i))):=zN λ_ _ _ _ _ _ _ q=>ge_int q
theorem oU:fz X (compareOp .Is) (λx y H Q=>y=.Eg/\Q (.bl (decide (x=.Eg))) H):=by
 intro d s g H x y v u Q I e f h
 obtain⟨rfl,q⟩:=h
 cases f
 refine is_none_gen (aX I q ?_)
 cases x<;>first
  |(cases e;rfl)
  |(obtain⟨t,rfl⟩:=e;rfl)
theorem ku:fz X (compareOp .IsNot) (λx y H Q=>y=.Eg/\Q (.bl (!decide (x=.Eg))) H):=by
 intro d s g H x y v u Q I e f h
 obtain⟨rfl,q⟩:=h
 cases f
 refine isnot_none_gen (aX I q ?_)
 cases x<;>first
  |(cases e;rfl)
  |(obtain⟨t,rfl⟩:=e;rfl)
theorem aA(b:Expr)(h:autoParam (op≠.In) θ)(d:autoParam (op≠.NotIn) θ):Ł op b=Ε:=by
 have e:(op == CmpOp.In)=Ε:=by cases op<;>first|rfl|exact Κ Λ h
 have f:(op == CmpOp.NotIn)=Ε:=by cases op<;>first|rfl|exact Κ Λ d
 cases b<;>simp[Ł,e,f]
theorem bY(e:fz X (compareOp op) r)(f:PE X a ta)(g:PE X b tb)(i:Ł op b=Ε):PE X (.Compare a [op] [b] pos) (U4 r ta tb):=by
 intro d s j H Q I h
 exact wpAny_Compare1 (DE f g I h λv u l x y m o p t q=>e d l j m x y v u Q o p t q) i
abbrev P8(t:TE):TT:=tB t
theorem az(g:fz X (compareOp op) r)(i:PE X a ta)(j:PE X b tb)(l:Ł op b=Ε):PT X (.Compare a [op] [b] pos) (P8 (U4 r ta tb)):=by
 intro d s f H Q I h
 refine Pt (bj (i d s f H _ I h) λv m ⟨x,o,p,q,t⟩=>bj (j d m f o _ p t) λu w ⟨y,A,B,C,D⟩ =>
  bj (g d w f A x y v u _ B q C D) λc K ⟨z,E,F,G,k,e,J⟩=>?_) l
 subst e
 cases G
 exact Ý ⟨E,F,J⟩
inductive Uah(r':R2)(tc:TE)(σ:St)(Q:VK)(y:V)(z:V)(H3:Hp):Prop
 |mk (k)(_:z=.bl k)(_:(if k=Δ then tc σ H3 λw' H4=>r' y w' H4 Q else Q (.bl Ε) H3))
def BP(r r':R2)(ta tb tc:TE):TE:=λσ H Q=>ta σ H λx H1=>tb σ H1 λy H2=>r x y H2 λz H3=>Uah r' tc σ Q y z H3
theorem qm(o:fz X (compareOp op) r)(p:fz X (compareOp Wo) r')(q:PE X a ta)(t:PE X b tb)(w:PE X c tc)
  (A:lastMarks [op,Wo] [b,c]=Ε:=by with_unfolding_all rfl):PE X (.Compare a [op,Wo] [b,c] pos) (BP r r' ta tb tc):=by
 intro f s g H Q I h
 refine Compare_chain (bj (q f s g H _ I h) λv B ⟨x,C,D,E,F⟩=>chain_link (bj (t f B g C _ D F) λu G ⟨y,J,K,i,L⟩ =>
  bj (o f G g J x y v u _ K E i L) λd M ⟨z,j,l,N,k,e,m⟩=>?_)) A
 subst e
 cases N
 refine Ý ?_
 cases k with
 |false=>exact ite_ff ⟨.bl Ε,j,l,Λ,m⟩
 |true=>exact ite_tt (chain_last (bj (w f M g j _ l m) λO P R=>by obtain⟨S,T,U,Y,Z⟩:=R;exact p f P g T y S u O Q U i Y Z))
def DH(K:ϣ)(x:V)(H:Hp)(k:Bool):Prop:=
 match x with
 |.Eg=>k=Ε
 |.bl b=>k=b
 |.int i=>k=(i != 0)
 |.str y=>y.length<=Χ/\k=((y.length:Int) != 0)
 |.IQ y=>y.size<=Χ/\k=((y.size:Int) != 0)
 |.ref p=>(∃xs,DS K H p xs/\k= !xs.isEmpty)∨(∃xs,DY K H p xs/\k= !xs.isEmpty)∨∃kvs,H p=Β (.dK kvs)/\k= !kvs.isEmpty
 |_=>False
theorem sE(r:KV kvs vs):(!vs.isEmpty)= !kvs.isEmpty:=by
 cases r<;>rfl
theorem lK(r:υ xs DV):(!DV.toArray.isEmpty)= !xs.isEmpty:=by
 cases r<;>simp
theorem lF:(Χ:Nat)<2^63:=by rw[ϗ];decide
theorem vT:Wl X (λx H Q=>∃k,DH X.K x H k/\Q k H):=by
 intro u s B H x v Q I j h
 obtain⟨k,e,q⟩:=h
 have C:=lF
 have D:=ϗ
 cases x with
 | Eg =>
  cases j
  have d:=e
  subst d
  exact truthy_none ⟨H,I,q⟩
 | bl b =>
  cases j
  have d:=e
  subst d
  exact Ý ⟨H,I,q⟩
 | int i =>
  obtain⟨t,rfl⟩:=j
  have d:=e
  subst d
  exact PySem.P.truthy_int ⟨H,I,q⟩
 | str y =>
  obtain⟨t,rfl⟩:=j
  obtain⟨hy,d⟩:y.length<=Χ/\k=((y.length:Int) != 0):=e
  subst d
  exact PySem.P.truthy_str (by omega) ⟨H,I.tok _,q⟩
 | IQ y =>
  obtain⟨t,rfl⟩:=j
  obtain⟨hy,d⟩:y.size<=Χ/\k=((y.size:Int) != 0):=e
  subst d
  exact PySem.W.truthy_bytes (by omega) ⟨H,I.tok _,q⟩
 | ref p =>
  cases j
  have d:=e
  rcases d with ⟨xs,l,d⟩|⟨xs,l,d⟩|⟨kvs,l,d⟩
  ·subst d
   obtain⟨A,r,pl,z⟩:=I.list l
   have g:=r.length
   exact wpAny_truthy_list pl.isList (by simp only[ϭ];omega) ⟨H,I.tok _,by rw[lK r];exact q⟩
  ·subst d
   obtain⟨A,r,pl,z⟩:=I.tuple l
   have g:=r.length
   exact truthy_tuple pl (by simp only[ϭ];omega) ⟨H,I.tok _,by rw[lK r];exact q⟩
  ·subst d
   obtain⟨z,hS,o,r,m⟩:kvs.length<=Χ/\(p == Û)=Ε/\∃o,KV kvs o/\s.heap.DictOf (bA X.prog X.w) p o:=I.DW p _ l
   have g:=Paired.length r
   exact wpAny_truthy_dict hS m (by omega) ⟨H,I.tok _,by rw[sE r];exact q⟩
 |_=>exact(e).elim
theorem iO(i:PE X a ta)(j:∀d,isTrue a X.env d=(do let v ← d;Il a.pos;c0 [v] (truthy v))):
  PT X a (λf H Q=>ta f H λx g=>∃k,DH X.K x g k/\Q k g):=by
 intro e s f H Q I h
 exact isTrue_plain (bj (i e s f H _ I h) λv l m=>by obtain⟨x,o,p,q,r⟩:=m;exact vT e l f o x v Q p q r) (j _)
theorem kE(r:υ [x] us):∃u,us=[u]/\RelV x u:=by
 cases r with
 |cons d e=>cases e;exact⟨_,Λ,d⟩
theorem yK:du X (.builtin "abs") (λxs H Q=>∃i,xs=[.int i]/\Q (.int (if i<0 then -i else i)) H):=by
 intro d s e H xs us Q I r h
 obtain⟨i,rfl,q⟩:=h
 obtain⟨u,rfl,t,rfl⟩:=kE r
 exact call_abs_int λu f=>⟨.int (if i<0 then -i else i),H,I.tok _,⟨_,Λ⟩,q⟩
end
structure Io(h:Ù)(x dx C:Ν)(mA:Str->Option Ρ):Prop where
 obj:h.get? x=Β (PySem.W.instObj C dx)
 ns:h.Ns1 dx mA
 ne:dx≠x
theorem vg{h:Ù}(n:h.Ns1 dx mA):∃b,h.get? dx=Β b/\∀name,PySem.W.lookIn name b=Β (mA name):=by
 obtain⟨o,c,p,d,f,g,_,i⟩:=n
 refine⟨o,d,λname=>?_⟩
 have e:=i name
 unfold nsFind findBy at e
 rw[←Array.find?_toList]at e
 unfold PySem.W.lookIn
 rw[f]
 dsimp only
 split
 ·rename_i y q
  rw[q]at e
  exact congrArg Β e
 ·rename_i q
  rw[q]at e
  have a:c.toList.any (·.refKey)=Ε:=by
   rw[Ph]
   intro y j
   obtain⟨z,t,l⟩:=g y (Array.mem_toList_iff.mp j)
   simp[DictEntry.refKey,l]
  have m:¬c.toList.any (·.refKey)=Δ:=by rw[a];exact Ϝ
  rw[Θ m]
  exact congrArg Β e
theorem Io.look(I:Io h x dx C mA):∃a,PySem.W.InstAt h x (PySem.W.instObj C dx) C (Β a)/\∀name,PySem.W.lookIn name a=Β (mA name):=
 let ⟨a,ho,hl⟩:=vg I.ns
 ⟨a,⟨I.obj,Λ,Λ,ho⟩,hl⟩
section
variable {prog:Program}{w:Ϭ}{A:Ð}{E:Ρ->ϊ->Prop}{s:ϊ}{K:ϣ}{x dx C f:Ν}{mA:Str->Option Ρ}{name:Str}{v:Ρ}
theorem AE(X:K.In s.heap)(I:Io s.heap x dx C mA)(b:ń K C name=Δ)(c:ĺ K C=Δ)
  (d:Ø K (.ref C) name=Β Γ) (e:mA name=Β v) (g:PySem.W.handedIn v=Δ) (h:Q v {s with toks:=s.toks+1}):
  ϫ (ϩ prog w) A (getAttr (.ref x) name expr) Q E s:=by
 obtain⟨j,J,i⟩:=I.look
 exact PySem.W.get_value X J (PySem.W.plainGet_of b).1 (PySem.W.findObj_own c d Λ (by rw[i,e])) g h
theorem y4(X:K.In s.heap)(I:Io s.heap x dx C mA)(a:ń K C name=Δ)
  (b:Ø K (.ref C) name=Β (Β (.ref f))) (c:isFn K (.ref f)=Δ) (d:mA name=Γ) (h:Q (.ref f,[.ref x]) s):
  ϫ (ϩ prog w) A (getMethod (.ref x) name pl) Q E s:=by
 obtain⟨e,J,g⟩:=I.look
 exact PySem.W.method_fn X J (PySem.W.plainGet_of a).1 (PySem.W.plainGet_of a).2 b (beq_iff_eq.mp c) (by show(PySem.W.lookIn name e).map (·.isSome)=Β Ε;rw[g,d];rfl) h
theorem zn(X:K.In s.heap)(I:Io s.heap x dx C mA)
  (m:Ø K (.ref C) "__setattr__"=Β (Β (.builtin "object.__setattr__"))) (o:ŏ K C=Δ) (p:PySem.W.takerIn K C name=Β Γ) (q:ĺ K C=Δ)
  (t:PySem.Within mA ns) (u:ns.length<=Χ)
  (h:∀c,Io c x dx C (λy=>if y=name then Β v else mA y)->Ħ dx s.heap c->Q () {s with heap:=c,toks:=s.toks+2}):
  ϫ (ϩ prog w) A (setAttr (.ref x) name v) Q E s:=by
 obtain⟨H,J,L⟩:=I.look
 refine PySem.W.set_plain X J m (PySem.W.osa_open (s:={s with toks:=s.toks+1}) (r:=Γ) X J o p λb=>?_)
 obtain⟨M,z,B⟩:=PySem.W.any_some q
 have D:=I.obj
 refine Τ (Ϛ (Τ (Τ (wpAny_loadPart D (Τ (PySem.W.Looks.here (s:={s with toks:=s.toks+1}) (PySem.W.looks_clsIn X z) ?_))))))
 rw[B]
 refine Ϛ (a:=Β dx) (Τ (Ϛ (Τ ?_)))
 refine wpAny_nsSet1 (s:={s with toks:=s.toks+1}) I.ns λc j l=>?_
 obtain⟨N,F,G,d,e,g⟩:=j.count (PySem.Within.cons name v t)
 refine Τ (wpAny_lookBehind d (by rw[e];exact pastItsLine_dict (Î g (by rw[Ė];omega))) ?_)
 exact Ϛ (h _ ⟨(l.2 _ (ϛ I.ne)).trans I.obj,j,I.ne⟩ l)
theorem yi(X:K.In s.heap)(b:ec K C=Δ)
  (c:Ø K (.ref C) "__init__"=Β (Β (.ref f))) (e:PySem.W.typeIn K (.ref f)=Β (.type "function"))
  (h:ō (ϩ prog w) (A.under (.builtin "type.__call__" ⟨.ref C:: vs,kw⟩)) (.call (.ref f) ⟨.ref (s.heap.objs.size+1):: vs,kw⟩) (PySem.W.InitBack (s.heap.objs.size+1) R)
   {s with heap:=(s.heap.push PySem.W.emptyDict).push (PySem.W.instObj C s.heap.objs.size)}):
  ō (ϩ prog w) A (.call (.ref C) ⟨vs,kw⟩) R s:=by
 obtain⟨i,g,d,t,j⟩:=s
 exact PySem.W.make_core (PySem.W.makes_of X b) (PySem.W.looks_findIn X c) (λself=>PySem.W.bind_fn X self e) (.inl Λ) h
end
noncomputable def aP(f:Str)(v:V):List (Str×V)->List (Str×V)
 |[]=>[(f,v)]
 |(g,x):: r=>if g=f then (g,v):: r else (g,x):: aP f v r
theorem jK(f g:Str)(v:V):∀fs:List (Str×V),(aP f v fs).lookup g=if g=f then Β v else fs.lookup g
 | []=>by
  show Ķ g [(f,v)]=_
  by_cases h:g=f
  ·have a:=beq_iff_eq.mpr h
   simp only[Ķ,a,Ι h]
  ·have a:=beq_eq_false_iff_ne.mpr h
   simp only[Ķ,a,Θ h]
 | (k,x):: r=>by
  have c:=jK f g v r
  rw[show aP f v ((k,x):: r)=(if k=f then (k,v):: r else (k,x):: aP f v r) from Λ]
  by_cases b:k=f
  ·rw[Ι b]
   by_cases h:g=k
   ·have a:=beq_iff_eq.mpr h
    simp only[Ķ,a,Ι (h.trans b)]
   ·have a:=beq_eq_false_iff_ne.mpr h
    simp only[Ķ,a,Θ (λe:g=f=>h (e.trans b.symm))]
  ·rw[Θ b]
   by_cases h:g=k
   ·have a:=beq_iff_eq.mpr h
    simp only[Ķ,a,Θ (λe:g=f=>b (h.symm.trans e))]
   ·have a:=beq_eq_false_iff_ne.mpr h
    simp only[Ķ,a]
    exact c
theorem j6(f:Str)(v:V):∀fs:List (Str×V),f∈(aP f v fs).map (·.1)/\∀g,g∈fs.map (·.1)->g∈(aP f v fs).map (·.1)
 |[]=>⟨by simp[aP],λg h=>by simp at h⟩
 | (k,x):: r=>by
  obtain⟨b,c⟩:=j6 f v r
  rw[show aP f v ((k,x):: r)=(if k=f then (k,v):: r else (k,x):: aP f v r) from Λ]
  by_cases a:k=f
  ·rw[Ι a]
   subst a
   exact⟨by simp,λg h=>by simpa using h⟩
  ·rw[Θ a]
   refine⟨?_,λg h=>?_⟩
   ·rw[Ç]
    exact ϧ _ b
   ·rw[Ç]at h⊢
    rcases Ϯ.mp h with e|e
    ·exact Ϯ.mpr (.inl e)
    ·exact ϧ _ (c g e)
theorem jL(f:Str)(v:V):∀fs:List (Str×V),(aP f v fs).length<=fs.length+1
 |[]=>by simp[aP]
 | (k,x):: r=>by
  have b:=jL f v r
  rw[show aP f v ((k,x):: r)=(if k=f then (k,v):: r else (k,x):: aP f v r) from Λ]
  by_cases a:k=f
  ·rw[Ι a,Ė,Ė];omega
  ·rw[Θ a,Ė,Ė];omega
theorem ET.some_of(r:ET (Β v) o):∃u,o=Β u/\RelV v u:=by
 cases o with
 |none=>exact(r).elim
 |some u=>exact⟨u,Λ,r⟩
theorem ET.none_of(r:ET Γ o):o=Γ:=by
 cases o with
 |none=>rfl
 |some u=>exact(r).elim
theorem vv(r:RelV v u):PySem.W.handedIn u=Δ:=by
 cases v with
 |Eg=>cases (r);rfl
 |bl b=>cases (r);rfl
 |int i=>obtain⟨t,e⟩:=(r);cases e;rfl
 |str x=>obtain⟨t,e⟩:=(r);cases e;rfl
 |IQ b=>obtain⟨t,e⟩:=(r);cases e;rfl
 |MR b=>obtain⟨t,e⟩:=(r);cases e;rfl
 |ref a=>cases (r);rfl
 |ty n=>cases (r);rfl
section
variable {P:Program}{w:Ϭ}{H H':Hp}{h h':Ù}{a C dx:Ν}{fs LY:List (Str×V)}
theorem kA(c:Ft P w H h)(e:H a=Β (.ς C dx fs)):∃b,Io h a dx C b/\(∀f,ET (fs.lookup f) (b f))/\PySem.Within b (fs.map (·.1))/\fs.length<=1000/\H dx=Β (.own a):=by
 obtain⟨d,z,ne,g,b,n,r,q⟩:=(c a _ e)
 exact⟨b,⟨g,n,ne⟩,r,q,z,d⟩
end
structure GV(K:ϣ)(C:Ν):Prop where
 pg:ń K C ř=Δ
 hd:ĺ K C=Δ
 po:ŏ K C=Δ
 sa:Ø K (.ref C) "__setattr__"=Β (Β (.builtin "object.__setattr__"))
theorem GV.get{K:ϣ}(c:GV K C)(f:Str):ń K C f=Δ:=c.pg
def Ea(K:ϣ)(C:Ν)(f:Str):Prop:=Ø K (.ref C) f=Β Γ
theorem Ea.P9{K:ϣ}(n:Ea K C f):PySem.W.takerIn K C f=Β Γ:=by
 unfold PySem.W.takerIn
 rw[show Ø K (.ref C) f=Β Γ from n]
 rfl
structure bW(K:ϣ)(C:Ν)(m:Str)(f:Ν):Prop where
 at_:Ø K (.ref C) m=Β (Β (.ref f))
 fn:isFn K (.ref f)=Δ
 kp:ϳ K (.ref f)=Δ
section
variable {X:Cx}{ο:List (Ν×Obj)}{σ:St}{H:Hp}{s:ϊ}{a C dx:Ν}{fs:List (Str×V)}{f:Str}{v:V}{A:Ð}{E:Ρ->ϊ->Prop}
theorem lP(I:τ X ο σ H s)(e:H a=Β (.ς C dx fs))(c:GV X.K C)(n:Ea X.K C f)(l:fs.lookup f=Β v)
  (h:∀u d,τ X ο σ H d->RelV v u->Q u d):ϫ (ϩ X.prog X.w) A (getAttr (.ref a) f b) Q E s:=by
 obtain⟨i,O,r,_,_,_⟩:=kA I.DW e
 obtain⟨u,j,g⟩:=ET.some_of (v:=v) (o:=i f) (by rw[←l];exact r f)
 exact AE I.FL O (c.get f) c.hd n j (vv g) (h u _ (I.tok _) g)
theorem lO(I:τ X ο σ H s)(e:H a=Β (.ς C dx fs))(c:GV X.K C)(k:bW X.K C m g)(l:fs.lookup m=Γ)
  (h:Q (.ref g,[.ref a]) s):ϫ (ϩ X.prog X.w) A (getMethod (.ref a) m pl) Q E s:=by
 obtain⟨b,O,r,_,_,_⟩:=kA I.DW e
 have d:=ET.none_of (by rw[←l];exact r m)
 exact y4 I.FL O (c.get m) k.at_ k.fn d h
theorem kT(I:τ X ο σ H s)(e:H a=Β (.ς C dx fs))(c:GV X.K C)(n:Ea X.K C f)(L:fs.length<1000)(p:RelV y u)
  (h:∀i,τ X ο σ (π H a (.ς C dx (aP f y fs))) i->Q () i):ϫ (ϩ X.prog X.w) A (setAttr (.ref a) f u) Q E s:=by
 obtain⟨j,O,r,l,_,m⟩:=kA I.DW e
 have t:(fs.map (·.1)).length<=Χ:=by rw[Ο,ϗ];omega
 refine zn I.FL O c.sa c.po n.P9 c.hd l t λB d D=>h _ ?_
 have F:∃o,B.get? dx=Β o:=let ⟨o,_,_,e',_⟩:=d.ns;⟨o,e'⟩
 refine I.write (x:=a) (e:=dx) (by rw[e];exact À) (.inr m) (λb q G z=>(D.2 b G).trans z) F ?_
 refine⟨by rw[af O.ne];exact m,?_,O.ne,d.obj,_,d.ns,λg=>?_,λg J=>?_⟩
 ·have:=jL f y fs;omega
 ·show ET ((aP f y fs).lookup g) (if g=f then Β u else j g)
  rw[jK]
  by_cases q:g=f
  ·rw[Ι q,Ι q];exact p
  ·rw[Θ q,Θ q];exact r g
 ·by_cases q:g=f
  ·rw[q];exact(j6 f y fs).1
  ·refine(j6 f y fs).2 g (l g λz=>J ?_)
   show(if g=f then Β u else j g)=Γ
   rw[Θ q];exact z
theorem τ.made(I:τ X ο σ H s):τ X ο σ (π (π H s.heap.objs.size (.own (s.heap.objs.size+1))) (s.heap.objs.size+1) (.ς C s.heap.objs.size []))
  {s with heap:=(s.heap.push PySem.W.emptyDict).push (PySem.W.instObj C s.heap.objs.size)}:=by
 have g:(s.heap.push PySem.W.emptyDict).get? s.heap.objs.size=Β PySem.W.emptyDict:=Ϡ s.heap Λ
 have h:((s.heap.push PySem.W.emptyDict).push (PySem.W.instObj C s.heap.objs.size)).get? (s.heap.objs.size+1)=Β (PySem.W.instObj C s.heap.objs.size):=by
  have:=Ϡ (s.heap.push PySem.W.emptyDict) (o:=PySem.W.instObj C s.heap.objs.size) Λ
  rwa [size_push]at this
 have i:(s.heap.push PySem.W.emptyDict).Ns s.heap.objs.size (λ_=>Γ):=⟨PySem.W.emptyDict,#[],_,g,Λ,(λe j=>Κ j (by simp)),λ_=>rfl⟩
 have l:=I.laid (a:=s.heap.objs.size) (o:=.own (s.heap.objs.size+1)) (h':=s.heap.push PySem.W.emptyDict) (t':=s.toks) (λb u q=>ώ _ q) (Ξ _) ⟨_,g⟩
 refine l.laid (a:=s.heap.objs.size+1) (o:=.ς C s.heap.objs.size []) (t':=s.toks) (λb u q=>ώ _ q) (U6 (size_push _ _)) ?_
 have ne:s.heap.objs.size≠s.heap.objs.size+1:=Ê (ĝ _)
 refine⟨by rw[af ne,ac],Ϧ _,ne,h,λ_=>Γ,(Ù.Ns1.of_empty i).at λo q=>ώ _ q,λ_=>À,λy m=>Κ Λ m⟩
theorem AW(c:ł e f env (eval e env)=eval e env)
  (h:ϫ (ϩ prog w) A (eval e env) (λo b=>ϫ (ϩ prog w) A (getAttr o f Δ) Q E b) E s):ϫ (ϩ prog w) A (eval (.Attribute e f pos) env) Q E s:=
 Attribute_any_ h (by rw[arm_eval_Attribute,c])
end
inductive Uai(K:ϣ)(f:Str)(Q:VK)(x:V)(H1:Hp):Prop
 |mk (a C dx fs v)(_:x=.ref a)(_:H1 a=Β (.ς C dx fs))(_:GV K C)(_:Ea K C f)(_:fs.lookup f=Β v)(_:Q v H1)
def kJ(K:ϣ)(ta:TE)(f:Str):TE:=λσ H Q=>ta σ H λx H1=>Uai K f Q x H1
inductive Uaj(K:ϣ)(f:Str)(D:pH)(σ:St)(y:V)(x:V)(H2:Hp):Prop
 |mk (a C dx fs)(_:x=.ref a)(_:H2 a=Β (.ς C dx fs))(_:GV K C)(_:Ea K C f)(_:fs.length<1000)(_:D.nx σ (π H2 a (.ς C dx (aP f y fs))))
def Wr(K:ϣ)(ta tv:TE)(f:Str):TS:=λD σ H=>tv σ H λy H1=>ta σ H1 λx H2=>Uaj K f D σ y x H2
def Ws(X:Cx)(op:Operator)(rd:V->V->Hp->VK->Prop):Prop:=
 ∀(ο:List (Ν×Obj))(s:ϊ)(σ:St)(H:Hp)(x y:V)(u v:Ρ)(Q:VK),τ X ο σ H s->RelV x u->RelV y v->rd x y H Q->ϫ (ϩ X.prog X.w) X.A (inplaceOp op u v) (EP X ο σ Q) X.xe s
inductive Uak(K:ϣ)(tv:TE)(rd:V->V->Hp->VK->Prop)(f:Str)(D:pH)(σ:St)(x:V)(H1:Hp):Prop
 |mk (a C dx fs v)(_:x=.ref a)(_:H1 a=Β (.ς C dx fs))(_:GV K C)(_:Ea K C f)(_:fs.lookup f=Β v)(_:tv σ H1 λy H2=>rd v y H2 λz H3=>∃Iq LY,H3 a=Β (.ς C Iq LY)/\LY.length<1000/\D.nx σ (π H3 a (.ς C Iq (aP f z LY))))
def zx(K:ϣ)(ta tv:TE)(rd:V->V->Hp->VK->Prop)(f:Str):TS:=λD σ H=>ta σ H λx H1=>Uak K tv rd f D σ x H1
section
variable {X:Cx}{o e value:Expr}{f:Str}{pos pos' Hk:Pos}{ta tv:TE}
theorem ap(d:PE X e ta)(g:ł e f X.env (eval e X.env)=eval e X.env):PE X (.Attribute e f pos) (kJ X.K ta f):=by
 intro b s i H Q I h
 refine AW g (bj (d b s i H _ I h) λu z j=>?_)
 obtain⟨x,m,p,r,a,C,A,fs,v,ex,t,c,n,l,q⟩:=j
 subst ex
 obtain rfl:u=Æ a:=r
 exact lP p t c n l λB D w y=>⟨v,m,w,y,q⟩
theorem bu(g:PE X o ta)(i:PE X value tv)(j:ť value (Β (.Attribute o f pos')) pos.line X.env=pure Ε):PS X (.Assign [.Attribute o f pos'] value pos) (Wr X.K ta tv f):=by
 intro b s d H D I h
 refine plainObj_wpAny_Assign_Attribute (bj (i b s d H _ I h) λu m ⟨y,p,r,t,q⟩=>bj (g b m d p _ r q) λv G w=>?_) j
 obtain⟨x,J,z,A,a,C,L,fs,ex,B,c,n,l,E⟩:=w
 subst ex
 obtain rfl:v=Æ a:=A
 exact kT z B c n l t λM F=>⟨d,_,F,E⟩
theorem eW(j:PE X o ta)(m:PE X value tv)(p:Ws X op rd):PS X (.AugAssign (.Attribute o f Hk) op value pos) (zx X.K ta tv rd f):=by
 intro b s d H D I h
 refine wpAny_AugAssign_AttributeAny (bj (j b s d H _ I h) λr Y g=>?_)
 obtain⟨x,t,w,A,a,C,Z,fs,v,ex,B,c,n,l,q⟩:=g
 subst ex
 obtain rfl:r=Æ a:=A
 refine lP w B c n l λu E F G=>bj (m b E d t _ F q) λJ L ⟨y,M,N,O,P⟩=>bj (p b L d M v y u J _ N G O P) λw4 s4 g=>?_
 obtain⟨z,H3,Q,R,Iq,LY,i,S,T⟩:=g
 exact kT Q i c n S R λs5 U=>⟨d,_,U,T⟩
end
section
variable {X:Cx}{ο:List (Ν×Obj)}{σ:St}{H:Hp}{s:ϊ}{A:Ð}{E:Ρ->ϊ->Prop}{Q:Ρ->ϊ->Prop}{c:Ρ}{b:Bool}
inductive jE(K:ϣ)(H:Hp):V->Ρ->Prop where
 |Eg:jE K H .Eg (.type "NoneType")
 |bl (x:Bool):jE K H (.bl x) (.type "bool")
 |int (i:Int):jE K H (.int i) (.type "int")
 |str (x:Str):jE K H (.str x) (.type "str")
 |MR (x:UInt64):jE K H (.MR x) (.type "float")
 |ρ {a:Ν} {xs:List V} (e:H a=Β (.ρ xs)):jE K H (.ref a) (.type "list")
 |Fq {a:Ν} {o:Obj} {xs:List V} (e:H a=Β (.Fq o (.ρ xs))):jE K H (.ref a) (.type "list")
 |tup {a:Ν} {xs:List V} (e:H a=Β (.tup xs)):jE K H (.ref a) (.type "tuple")
 |dK {a:Ν} {kvs:List (Key×V)} (e:H a=Β (.dK kvs)):jE K H (.ref a) (.type "dict")
 |dT {a:Ν} {kvs:List (List Key×V)} (e:H a=Β (.dT kvs)):jE K H (.ref a) (.type "dict")
 | ς {a C dx:Ν} {fs:List (Str×V)} (e:H a=Β (.ς C dx fs)) (cl:GV K C) (ha:Ø K (.ref C) "__class__"=Β (Β (.builtin "object.__class__")))
   (hn:PySem.W.specialIn K (.builtin "object.__class__") "__get__"=Β (Β (.builtin "getset_descriptor.__get__"))) (Kb:PySem.W.takesIn K (.builtin "object.__class__")=Β Δ)
   (hm:PySem.W.mroIn K C (.type "object")=Β Δ):jE K H (.ref a) (.ref C)
theorem vn(I:τ X ο σ H s)(d:RelV x u)(l:jE X.K H x t)(e:Ğ X.K t c=Β b)(h:∀m,Q (.bool b) {s with toks:=m}):
  ϫ (ϩ X.prog X.w) A (call (.builtin "isinstance") [u,c]) Q E s:=by
 cases l with
 |Eg=>cases (d);exact PySem.W.kia_one PySem.W.kitx_none I.FL À e (λz=>nomatch z) h
 |bl y=>cases (d);exact PySem.W.kia_one PySem.W.kitx_bool I.FL À e (λz=>nomatch z) h
 |int i=>obtain⟨t,q⟩:=(d);cases q;exact PySem.W.kia_one PySem.W.kitx_int I.FL À e (λz=>nomatch z) h
 |str y=>obtain⟨t,q⟩:=(d);cases q;exact PySem.W.kia_one PySem.W.kitx_str I.FL À e (λz=>nomatch z) h
 |MR y=>obtain⟨t,q⟩:=(d);cases q;exact PySem.W.kia_one PySem.W.kitx_float I.FL À e (λz=>nomatch z) h
 | @ρ a xs ea =>
  cases (d)
  obtain⟨_,_,n,_,f⟩:=(I.DW a _ ea)
  exact PySem.W.kia_one PySem.W.kitx_list I.FL ⟨_,f,Λ⟩ e (λz=>nomatch z) h
 | @Fq a ob xs ea =>
  cases (d)
  obtain⟨_,_,_,n,_,f⟩:=(I.DW a _ ea)
  exact PySem.W.kia_one PySem.W.kitx_list I.FL ⟨_,f,Λ⟩ e (λz=>nomatch z) h
 | @tup a xs ea =>
  cases (d)
  obtain⟨_,_,_,p⟩:=(I.DW a _ ea)
  obtain⟨o,f,⟨g,_⟩,_⟩:=p
  exact PySem.W.kia_one PySem.W.kitx_tuple I.FL ⟨o,f,g⟩ e (λz=>nomatch z) h
 | @dK a kvs ea =>
  cases (d)
  obtain⟨_,_,B,_,p⟩:=(I.DW a _ ea)
  obtain⟨o,r,v,f,g,_⟩:=p
  exact PySem.W.kia_one PySem.W.kitx_dict I.FL ⟨o,f,g.1⟩ e (λz=>nomatch z) h
 | @dT a kvs ea =>
  cases (d)
  obtain⟨_,_,xs,_,o,r,v,f,g,_⟩:=(I.DW a _ ea)
  exact PySem.W.kia_one PySem.W.kitx_dict I.FL ⟨o,f,g.1⟩ e (λz=>nomatch z) h
 | @ς a C dx fs ea cl ha hn Kb hm =>
  cases (d)
  obtain⟨D,O,_⟩:=kA I.DW ea
  obtain⟨F,J,_⟩:=O.look
  exact PySem.W.kia_one (PySem.W.kitx_own (cl.get _) cl.hd ha hn Kb hm) I.FL J e (λz=>nomatch z) h
end
structure DZ(k:Nat)(A:Ð):Prop where
 hd:A.handled=Γ
 dp:A.depth+3* k+5<recursionLimit
 un:A.units+16* k+200<í
theorem DZ.mono(r:DZ k A)(h:j<=k):DZ j A:=⟨r.hd,by have:=r.dp;omega,by have:=r.un;omega⟩
theorem DZ.deeper(r:DZ (k+1) A)(a:Env):DZ k (A.deeper a):=
 ⟨r.hd,by have:=r.dp;show A.depth+1+3* k+5<_;omega,by have:=r.un;show A.units+3+16* k+200<_;omega⟩
theorem sr{A:Ð}:(A.under (.builtin "type.__call__" ⟨.ref C:: us,kw⟩)).depth=A.depth+1:=by
 first|rfl|simp[E3,Ux.weight,Ux.isCreation,Ux.isGuard,Ux.isCaller,Ux.frames,Iz,guardIds]
theorem so{A:Ð}:(A.under (.builtin "type.__call__" ⟨.ref C:: us,kw⟩)).units=A.units+1:=by
 first|rfl|simp[E3,Ux.cUnits,Ux.frames,Iz]
theorem DZ.make(r:DZ (k+1) A)(C:Ν)(us:List Ρ)(a:List (Str×Ρ)):DZ k (A.under (.builtin "type.__call__" ⟨.ref C:: us,a⟩)):=
 ⟨r.hd,by have:=r.dp;rw[sr];omega,by have:=r.un;rw[so];omega⟩
theorem DZ.depth(r:DZ k A):A.depth<recursionLimit:=by have:=r.dp;omega
theorem DZ.units(r:DZ k A):A.units+64<í:=by have:=r.un;omega
def PB:TA:=λ_ H Q=>Q [] H
def PD(ta:TE)(tr:TA):TA:=λσ H Q=>ta σ H λx H1=>tr σ H1 λxs H2=>Q (x:: xs) H2
section
variable {X:Cx}{e:Expr}{es:List Expr}{te:TE}{t:TA}{pos:Pos}
theorem ad:PA X [] PB:=λ_ _ _ _ H Q I h=>Ź ⟨[],H,I,.nil,h⟩
theorem aa(d:PE X e te)(f:PA X es t)(g:autoParam (Á (e:: es) X.env=(Ε,eval e X.env):: Á es X.env) η):PA X (e:: es) (PD te t):=by
 intro pos a s c H Q I h
 rw[g]
 refine Ņ (bj (d a s c H _ I h) λu i b=>?_)
 obtain⟨x,j,l,m,o⟩:=b
 exact bj (f pos a i c j _ l o) λus w b=>by obtain⟨xs,p,q,r,v⟩:=b;exact⟨x:: xs,p,q,.cons m r,v⟩
def Wt(t:TA):TE:=λσ H Q=>t σ H λxs H1=>xs.length<=Χ/\∀p,H1 p=Γ->Q (.ref p) (π H1 p (.tup xs))
def Wu(t:TA):TE:=λσ H Q=>t σ H λxs H1=>xs.length<=Χ/\∀p,H1 p=Γ->Q (.ref p) (π H1 p (.ρ xs))
theorem bq(h:PA X es t):PE X (.Tuple es x1 pos) (Wt t):=by
 intro a s g H Q I i
 refine wpAny_Tuple_spliced (bj (h pos a s g H _ I i) λus c ⟨xs,d,f,r,z,q⟩=>⟨by rw[←r.length];exact z,?_⟩)
 have j:=f.DW.fresh (Ξ _)
 refine⟨.ref c.heap.objs.size,π d c.heap.objs.size (.tup xs),f.laid (t':=c.toks) (λb u e=>ώ _ e) (Ξ _) ?_,Λ,q _ j⟩
 exact⟨z,us,r,⟨_,Ϡ _ Λ,⟨Λ,_,Λ⟩,Λ⟩⟩
theorem aW(h:PA X es t):PE X (.List es pos) (Wu t):=by
 intro a s g H Q I i
 refine wpAny_List_spliced (bj (h pos a s g H _ I i) λus c ⟨xs,d,f,r,z,q⟩=>⟨by rw[←r.length];exact z,?_⟩)
 have j:=f.DW.fresh (Ξ _)
 refine⟨.ref c.heap.objs.size,π d c.heap.objs.size (.ρ xs),f.laid (t':=c.toks) (λb u e=>ώ _ e) (Ξ _) ?_,Λ,q _ j⟩
 exact⟨z,us,0,r,Ϡ _ Λ⟩
end
abbrev Sp:=List V->Hp->VK->XK->Prop
abbrev uC:=List Env->Hp->ϊ->XK->Ρ->ϊ->Prop
structure Ir(P:Program)(w:Ϭ)(K:ϣ)(mg:Str->Option Ρ)(ν:Ù)(A:Ð)(outer:List Env)(s:ϊ)(H:Hp):Prop where
 frames:A.frames=Β outer
 mod:Mod K mg ν
 bs:∀b o,ν.get? b=Β o->s.heap.get? b=Β o/\H b=Γ
 Lc:ν.objs.size<=s.heap.objs.size
 FV:s.heap.FunFrames ν outer
 MT:∀b∈ur outer,H b=Γ
 DW:Ft P w H s.heap
 bare:ū s.gens
def CE(outer:List Env)(P:Program)(w:Ϭ)(H:Hp)(s:ϊ)(Q:VK)(u:Ρ)(s':ϊ):Prop:=
 ∃v H',s'.os=s.os/\ū s'.gens/\Un (ur outer) [] H H' s.heap s'.heap/\Ft P w H' s'.heap/\RelV v u/\Q v H'
def CR(CX:uC)(outer:List Env)(P:Program)(w:Ϭ)(H:Hp)(s:ϊ)(Q:VK)(E:XK)(r:Result)(s':ϊ):Prop:=
 match r with
 |.ok (.ret u)=>CE outer P w H s Q u s'
 |.ok _=>False
 |.error e=>CX outer H s E e s'
structure DQ(P:Program)(w:Ϭ)(K:ϣ)(mg:Str->Option Ρ)(ν:Ù)(CX:uC)(k:Nat)(f:Ν)(fd:Ñ)(ps:List Str)(sp:Sp):Prop where
 len:∀vs H Q E,sp vs H Q E->vs.length=ps.length
 run:∀(A:Ð)(outer:List Env)(s:ϊ)(H:Hp)(args:Args)(us:List Ρ)(vs:List V)(Q:VK)(E:XK),DZ k A->Ir P w K mg ν A outer s H->Jo s fd args (ps.zip us)->υ vs us->sp vs H Q E->
  ō (ϩ P w) A (.call (.ref f) args) (CR CX outer P w H s Q E) s
theorem DQ.imp{K:ϣ}(F:DQ P w K mg ν CX k f fd ps sp)
  (h:∀b H Q E,sp' b H Q E->sp b H Q E):DQ P w K mg ν CX k f fd ps sp':=
 ⟨λb H Q E q=>F.len b H Q E (h _ _ _ _ q),λA a s H args us b Q E c d e g i=>F.run A a s H args us b Q E c d e g (h _ _ _ _ i)⟩
theorem Ir.make{K:ϣ}(e:Ir P w K mg ν A outer s H)(C:Ν)(us:List Ρ)(a:List (Str×Ρ)):
  Ir P w K mg ν (A.under (.builtin "type.__call__" ⟨.ref C:: us,a⟩)) outer s H:=⟨by first|exact e.frames|(simpa [E3,Ux.envs,Iz,pushEnvs] using e.frames),e.mod,e.bs,e.Lc,e.FV,e.MT,e.DW,e.bare⟩
section
variable {X:Cx}{ο:List (Ν×Obj)}{σ:St}{H:Hp}{s s':ϊ}
theorem τ.PF(I:τ X ο σ H s):Ir X.prog X.w X.K X.mg X.ν X.A X.stack s H:=
 ⟨I.ok.frames,I.ok.mod,I.bs,Î I.ok.Lc I.sz,I.stack,I.IS,I.DW,I.bare⟩
theorem τ.after(I:τ X ο σ H s)(h:CE X.stack X.prog X.w H s Q u s'):EP X ο σ Q u s':=by
 obtain⟨v,c,e,a,un,f,r,q⟩:=h
 obtain⟨i,g,d,t,j⟩:=s'
 obtain rfl:j=s.os:=e
 exact⟨v,c,I.call (h':=i) (g':=g) (d':=d) (t':=t) (ch:=[]) un f a (λb z=>Κ z (by simp)),r,q⟩
end
def PH(sp:Sp)(Fv:List V)(E:XK)(t:TA):TE:=λσ H Q=>t σ H λvs H1=>sp (vs++Fv) H1 Q E
inductive Ual(C:Ν)(m:Str)(sp:Sp)(Fv:List V)(E:XK)(t:TA)(σ:St)(Q:VK)(x:V)(H1:Hp):Prop
 |mk (a dx fs)(_:x=.ref a)(_:H1 a=Β (.ς C dx fs))(_:fs.lookup m=Γ)(_:t σ H1 λvs H2=>sp (x:: (vs++Fv)) H2 Q E)
def Bl(C:Ν)(m:Str)(sp:Sp)(Fv:List V)(E:XK)(ta:TE)(t:TA):TE:=λσ H Q=>ta σ H λx H1=>Ual C m sp Fv E t σ Q x H1
def PJ(C:Ν)(sp:Sp)(Fv:List V)(E:XK)(t:TA):TE:=λσ H Q=>t σ H λvs H1=>∀x dx,H1 x=Γ->H1 dx=Γ->dx≠x->
 sp (.ref x:: (vs++Fv)) (π (π H1 dx (.own x)) x (.ς C dx [])) (λv H2=>v=.Eg/\Q (.ref x) H2) E
def Binds(K:ϣ)(fd:Ñ)(ps:List Str)(ds:List Ρ):Prop:=
 ∀(s:ϊ)(us:List Ρ),K.In s.heap->(us++ds).length=ps.length->Jo s fd ⟨us,[]⟩ (ps.zip (us++ds))
theorem Binds.all{K:ϣ}(h:∀us:List Ρ,us.length=ps.length->Qy fd ⟨us,[]⟩=pure (ps.zip us)):Binds K fd ps []:=λs us _ a=>by
 rw[Ę]at a⊢
 exact .of_eq (h us a)
def gF(CX:uC)(X:Cx)(E:XK):Prop:=∀(ο:List (Ν×Obj))(σ:St)(H:Hp)(s:ϊ)(e:Ρ)(s':ϊ),τ X ο σ H s->CX X.stack H s E e s'->X.xe e s'
section
variable {X:Cx}{CX:uC}{k:Nat}{f C:Ν}{fd:Ñ}{ps:List Str}{sp:Sp}{Fv:List V}{ds:List Ρ}{E:XK}{x m:Str}{p pos apos:Pos}{e o:Expr}{es:List Expr}{ta:TE}{t:TA}
theorem oJ{b:St}(F:DQ X.prog X.w X.K X.mg X.ν CX k f fd ps sp)(d:DZ k X.A)(g:Binds X.K fd ps ds)(i:υ Fv ds)(j:gF CX X E)
  (I:τ X ο b H s) (r:υ vs us) (h:sp (vs++Fv) H Q E):ϫ (ϩ X.prog X.w) X.A (call (.ref f) us) (EP X ο b Q) X.xe s:=by
 have c:=r.append i
 have l:(us++ds).length=ps.length:=by rw[←c.length];exact F.len _ _ _ _ h
 refine wpAny_call (nF (F.run X.A X.stack s H ⟨us,[]⟩ (us++ds) (vs++Fv) Q E d I.PF (g s us I.FL l) c h) λr q a=>?_)
 cases r with
 |error e=>exact j ο b H s e q I a
 | ok v =>
  cases v with
  |ret u=>exact I.after a
  |next=>exact î a
  |brk=>exact î a
  |cont=>exact î a
theorem aq(F:DQ X.prog X.w X.K X.mg X.ν CX k f fd ps sp)(c:DZ k X.A)(d:Gl X x)(g:X.mg x=Β (.ref f))(i:ϳ X.K (.ref f)=Δ)(j:Binds X.K fd ps ds)(l:υ Fv ds)(u:gF CX X E)
  (v:PA X (e:: es) t) (y:autoParam ((x == ("__debug__":Str))=Ε) θ) (z:autoParam (Á (e:: es) X.env=(Ε,eval e X.env):: Á es X.env) η) (B:autoParam ((ē pos (Á es X.env)).any (·.1)=Ε) η):
  PE X (.Call (.Name x p) (e:: es) [] pos) (PH sp Fv E t):=by
 intro a s D H Q I h
 refine ŕ (pc I d g ?_ y)
 refine PySem.W.callWith_K (h₀:=X.ν) I.ok.mod.KA i (bj (v pos a s D H _ I h) λus G ⟨J,L,b,r,q⟩=>⟨b.FL,?_⟩) z B
 exact oJ F c j l u b r q
theorem aI(z:PE X o ta)(c:GV X.K C)(d:bW X.K C m f)(F:DQ X.prog X.w X.K X.mg X.ν CX k f fd ps sp)(B:DZ k X.A)(D:Binds X.K fd ps ds)(G:υ Fv ds)(J:gF CX X E)(L:PA X (e:: es) t)
  (M:autoParam (Á (e:: es) X.env=(Ε,eval e X.env):: Á es X.env) η) (N:autoParam ((ē pos (Á es X.env)).any (·.1)=Ε) η)
  (O:eval (.Call (.Attribute o m apos) (e:: es) [] pos) X.env=(do
   let g ← eval o X.env
   Il apos.atName
   let (f,first) ← c0 [g] (getMethod g m pl)
   callWith pos f first (ē pos (Á (e:: es) X.env)) (oa pos (Ŝ [] X.env))):=by rfl):
  PE X (.Call (.Attribute o m apos) (e:: es) [] pos) (Bl C m sp Fv E ta t):=by
 intro b s i H Q I h
 refine PySem.W.methodCall_KW (pl:=pl) (bj (z b s i H _ I h) λu P R=>?_) O
 obtain⟨x,S,j,T,a,Z,fs,ex,U,l,q⟩:=R
 subst ex
 obtain rfl:u=Æ a:=T
 refine lO j U c d l ?_
 refine PySem.W.callWith_K (first:=[.ref a]) (h₀:=X.ν) I.ok.mod.KA d.kp (bj (L pos b P i S _ j q) λus s2 ⟨vs,H2,y,r,Y⟩=>⟨y.FL,?_⟩) M N
 exact oJ (us:=.ref a:: us) (vs:=.ref a:: vs) F B D G J y (.cons Λ r) Y
theorem aQ(j:PE X o ta)(c:GV X.K C)(g:bW X.K C m f)(F:DQ X.prog X.w X.K X.mg X.ν CX k f fd ps sp)(r:DZ k X.A)(v:Binds X.K fd ps ds)(y:υ Fv ds)(z:gF CX X E)
  (B:eval (.Call (.Attribute o m apos) [] [] pos) X.env=(do
   let i ← eval o X.env
   Il apos.atName
   let (f,first) ← c0 [i] (getMethod i m pl)
   callWith pos f first (ē pos (Á [] X.env)) (oa pos (Ŝ [] X.env))):=by rfl):
  PE X (.Call (.Attribute o m apos) [] [] pos) (Bl C m sp Fv E ta PB):=by
 intro b s D H Q I h
 refine PySem.W.methodCall_KW (pl:=pl) (bj (j b s D H _ I h) λu M G=>?_) B
 obtain⟨x,N,d,J,a,O,fs,ex,L,l,q⟩:=G
 subst ex
 obtain rfl:u=Æ a:=J
 refine lO d L c g l ?_
 exact PySem.W.callWith_K0 (first:=[.ref a]) d.FL g.kp (oJ (us:=[.ref a]) (vs:=[.ref a]) F r v y z d (.cons Λ .nil) q)
structure Mk(K:ϣ)(C f:Ν):Prop where
 makes:ec K C=Δ
 init:Ø K (.ref C) "__init__"=Β (Β (.ref f))
 fn:isFn K (.ref f)=Δ
 kp:ϳ K (.ref C)=Δ
theorem xj{d:St}(M:Mk X.K C f)(F:DQ X.prog X.w X.K X.mg X.ν CX k f fd ps sp)(j:DZ (k+1) X.A)(l:Binds X.K fd ps ds)(q:υ Fv ds)
  (y:gF CX X E) (I:τ X ο d H s) (r:υ vs us)
  (h:∀x b,H x=Γ->H b=Γ->b≠x->sp (.ref x:: (vs++Fv)) (π (π H b (.own x)) x (.ς C b [])) (λv z=>v=.Eg/\Q (.ref x) z) E):
  ϫ (ϩ X.prog X.w) X.A (call (.ref C) us) (EP X ο d Q) X.xe s:=by
 have g:=h (s.heap.objs.size+1) s.heap.objs.size (I.DW.fresh (O0 _)) (I.DW.fresh (Ξ _)) (Ê (ĝ _))
 have c:=τ.made (C:=C) I
 have i:υ (V.ref (s.heap.objs.size+1):: (vs++Fv)) (Æ (s.heap.objs.size+1):: (us++ds)):=.cons Λ (r.append q)
 have B:(Æ (s.heap.objs.size+1):: us++ds).length=ps.length:=by
  have e:=i.length
  rw[F.len _ _ _ _ g]at e
  exact e.symm
 refine wpAny_call (yi (f:=f) I.FL M.makes M.init (beq_iff_eq.mp M.fn) (nF (F.run _ X.stack _ _ ⟨Æ (s.heap.objs.size+1):: us,[]⟩ (Æ (s.heap.objs.size+1):: (us++ds)) _ _ E (j.make C us [])
  (c.PF.make C us []) (l _ (Æ (s.heap.objs.size+1):: us) c.FL B) i g) λr D a=>?_))
 cases r with
 |error e=>exact y ο d _ _ e D c a
 | ok G =>
  cases G with
  | ret u =>
   obtain⟨v,J,L,N,O,P⟩:=c.after a
   subst O
   exact⟨N,⟨V.ref (s.heap.objs.size+1),J,L,Λ,P⟩⟩
  |next=>exact î a
  |brk=>exact î a
  |cont=>exact î a
theorem eI(M:Mk X.K C f)(F:DQ X.prog X.w X.K X.mg X.ν CX k f fd ps sp)(c:DZ (k+1) X.A)(d:Gl X x)(g:X.mg x=Β (.ref C))(i:Binds X.K fd ps ds)(j:υ Fv ds)(l:gF CX X E)
  (u:PA X (e:: es) t) (v:autoParam ((x == ("__debug__":Str))=Ε) θ) (y:autoParam (Á (e:: es) X.env=(Ε,eval e X.env):: Á es X.env) η) (z:autoParam ((ē pos (Á es X.env)).any (·.1)=Ε) η):
  PE X (.Call (.Name x p) (e:: es) [] pos) (PJ C sp Fv E t):=by
 intro a s B H Q I h
 refine ŕ (pc I d g ?_ v)
 refine PySem.W.callWith_K (h₀:=X.ν) I.ok.mod.KA M.kp (bj (u pos a s B H _ I h) λus D ⟨G,J,b,r,q⟩=>⟨b.FL,?_⟩) y z
 exact xj M F c i j l b r q
end
section
variable {X:Cx}{CX:uC}{k:Nat}{f C:Ν}{fd:Ñ}{ps ks:List Str}{sp:Sp}{E:XK}{x m:Str}{p pos apos kpos:Pos}{e o:Expr}{es:List Expr}{kws:List ot}{te ta:TE}{t tk:TA}{nm:Option Str}
variable {g:List Ρ->List Ρ->List Ρ}{gV:List V->List V->List V}
end
structure ar(N P:List Str)(sc:Scope):Prop where
 kind:sc.kind=.function
 co:sc.isCoroutine=Ε
 gen:sc.isGenerator=Ε
 nd:N.Nodup
 pre:N.take P.length=P
 par:∀x∈P,sc.names.lookup x=Β .local∨sc.names.lookup x=Β .cell
 MW:∀y∈sc.names,y.2≠.free
theorem nR{a:Str->Option Ģ}:∀{binds:List (Str×Ρ)}{m:Str->Option Ρ},(∀v,(x,v)∉binds)->Qu a binds m x=m x
 |[],_,_=>rfl
 | (n,v):: r,m,h=>by
  unfold Qu
  rw[nR λw b=>h w (ϧ _ b)]
  split
  ·have:x≠n:=by rintro rfl;exact h v ϟ
   simp[this]
  ·rfl
theorem nU{a:Str->Option Ģ}:∀{binds:List (Str×Ρ)}{m:Str->Option Ρ},(∀v,(x,v)∉binds)->Qx a binds m x=m x
 |[],_,_=>rfl
 | (n,v):: r,m,h=>by
  unfold Qx
  rw[nU λw b=>h w (ϧ _ b)]
  split
  ·rfl
  ·have:x≠n:=by rintro rfl;exact h v ϟ
   simp[this]
theorem nT{a:Str->Option Ģ}:∀{P:List Str}{b:List Ρ}{i:Nat}{m:Str->Option Ρ},P.Nodup->P[i]?=Β x->b[i]?=Β v->a x=Β .local->
  Qu a (P.zip b) m x=Β v
 |[],_,_,_,_,h,_,_=>by simp at h
 |_:: _,[],_,_,_,_,h,_=>by simp at h
 | p:: P,w:: b,0,m,nd,h1,h2,hk=>by
  simp at h1 h2;subst h1;subst h2
  show Qu a ((p,w):: P.zip b) m p=_
  unfold Qu
  rw[nR λv c=>(ë.mp nd).1 (S6 c).1,Ι hk]
  simp
 | p:: P,w:: b,i+1,m,nd,h1,h2,hk=>by
  unfold Qu
  exact nT (i:=i) (ë.mp nd).2 (by simpa using h1) (by simpa using h2) hk
theorem nX{a:Str->Option Ģ}:∀{P:List Str}{b:List Ρ}{i:Nat}{m:Str->Option Ρ},P.Nodup->P[i]?=Β x->b[i]?=Β v->a x≠Β .local->
  Qx a (P.zip b) m x=Β v
 |[],_,_,_,_,h,_,_=>by simp at h
 |_:: _,[],_,_,_,_,h,_=>by simp at h
 | p:: P,w:: b,0,m,nd,h1,h2,hk=>by
  simp at h1 h2;subst h1;subst h2
  show Qx a ((p,w):: P.zip b) m p=_
  unfold Qx
  rw[nU λv c=>(ë.mp nd).1 (S6 c).1,Θ hk]
  simp
 | p:: P,w:: b,i+1,m,nd,h1,h2,hk=>by
  unfold Qx
  exact nX (i:=i) (ë.mp nd).2 (by simpa using h1) (by simpa using h2) hk
noncomputable def start(N:List Str)(vs:List V):St:=vs.map Β++Ϫ (N.length - vs.length) Γ
noncomputable def sL(CX:uC)(P:Program)(w:Ϭ)(K:ϣ)(mg:Str->Option Ρ)(ν:Ù)(N:List Str)(qual:Str)(scope:Scope)(f:Ν)(cd:Ρ)(A:Ð)(outer:List Env)(s:ϊ)(H:Hp)(E:XK):Cx where
 prog:=P
 w:=w
 K:=K
 mg:=mg
 ν:=ν
 A:=A.deeper (ź qual scope s.heap.objs.size f cd)
 N:=N
 s₀:=s
 H₀:=H
 env:=ź qual scope s.heap.objs.size f cd
 outer:=outer
 stack:=ź qual scope s.heap.objs.size f cd:: outer
 ex:=[]
 calm:=Δ
 fn:=λ_=>Δ
 pn:=[]
 xe:=λe s'=>ϫ (ϩ P w) (A.deeper (ź qual scope s.heap.objs.size f cd)) (leaving (ź qual scope s.heap.objs.size f cd) e) (λ_ PK=>CX outer H s E e PK) (λe' PK=>CX outer H s E e' PK) s'
theorem qW{a:Scope}(h:a.names.lookup x=Β .cell):∃c,(cellsFrom n a.names []).lookup x=Β c:=by
 have q:=PySem.W.cellsFrom_some a.names n [] (.inl h)
 exact ri.mp q
theorem vo{K:ϣ}
  (S:ar N ps scope) (F:A.handled=Γ) (g:Ir P w K mg ν A outer s H) (J:vs.length=ps.length) (r:υ vs us)
  (x:InCallC s s.heap.objs.size (Qu (ź qual scope s.heap.objs.size f cd).kindOf (ps.zip us) λ_=>Γ) (cellsFrom (s.heap.objs.size+1) scope.names []) (Qx (ź qual scope s.heap.objs.size f cd).kindOf (ps.zip us) λ_=>Γ) s1):
  τ (sL CX P w K mg ν N qual scope f cd A outer s H E) [] (start N vs) H s1:=by
 have L:ps.length<=N.length:=by have:=congrArg K8 S.pre;rw[ć]at this;omega
 obtain⟨o,M,rfl,C⟩:=x.done
 have B:∀b:Ν,b∉(sL CX P w K mg ν N qual scope f cd A outer s H E).ex:=λb z=>Κ (show b∈([]:List Ν) from z) (by simp)
 refine⟨⟨g.mod,S.kind,Λ,Λ,Ξ _,λy z c o d=>?_,λy j=>?_,λy c _ h=>?_,λ_=>F,Ð.frames_deeper g.frames,.inr ⟨Λ,Λ⟩,λb z=>Κ z (B b),g.bs,g.Lc,λb _ _=>B b,λb z=>Κ z (B b),g.FV,g.MT⟩,
  rfl,g.bare,Un.kept C,⟨_,x.toInCall.ns,λi y v o d O=>?_⟩,λy c h=>⟨_,x.cell y c h⟩,g.DW.fresh (Ξ _),λy c h=>?_,λp l=>Κ (show p∈([]:List (Ν×Obj)) from l) (by simp),g.DW.kept C,?_⟩
 ·exact name_of_addr x.apart (PySem.mem_of_lookup o) (PySem.mem_of_lookup d)
 ·have j:=j
  rcases j with j|j
  ·exact qW j
  ·exact Κ Λ (S.MW _ (PySem.mem_of_lookup j))
 ·exact JQ (x.above y c (PySem.mem_of_lookup h))
 ·have t:i<vs.length:=by
   unfold start at d
   by_cases t:i<vs.length
   ·exact t
   ·rw[ø (by simpa using t)]at d
    rw[ü]at d
    split at d<;>cases d
  have G:vs[i]?=Β v:=by
   unfold start at d
   rw[Ϙ (by simpa using t),ϝ]at d
   cases e:vs[i]? with
   |none=>rw[e]at d;cases d
   |some a=>rw[e]at d;cases d;rfl
  obtain⟨u,D,I⟩:=r.get G
  have l:ps[i]?=Β y:=by
   rw[←S.pre,List.getElem?_take_of_lt (by omega)];exact o
  have m:ps.Nodup:=by rw[←S.pre];exact S.nd.sublist (List.take_sublist _ _)
  refine⟨u,I,?_⟩
  rcases S.par y (Ϗ l) with k|k
  ·exact .inl ⟨k,nT m l D k⟩
  ·obtain⟨c,e⟩:=qW (n:=s.heap.objs.size+1) k
   refine .inr ⟨.inl k,c,e,?_⟩
   have q:=x.cell y c e
   rw[nX m l D (by show scope.names.lookup y≠_;rw[k];decide)]at q
   exact q
 ·exact g.DW.fresh (JQ (x.above y c (PySem.mem_of_lookup h)))
 ·unfold start
  show _=N.length
  rw[Υ,Ο,é]
  omega
theorem BB{K:ϣ}{dV kV j B c C L:Ρ}
  (lk:K.lookup f=Β ⟨L,od,.func (gy name qual params body scope dV kV j B an c C),IV⟩) (M:hF K c qual=Δ) (S:ar N ps scope)
  (len:∀d H Q E,sp d H Q E->d.length=ps.length)
  (O:∀(A:Ð)(a:List Env)(s:ϊ)(H:Hp)(d:List V)(Q:VK)(E:XK),DZ k (A.deeper (ź qual scope s.heap.objs.size f c))->sp d H Q E->
   ∃t,IT (sL CX P w K mg ν N qual scope f c A a s H E) body t/\t {nx:=λ_ h=>Q .Eg h,rt:=Q} (start N d) H):
  DQ P w K mg ν CX (k+1) f (gy name qual params body scope dV kV j B an c C) ps sp:=by
 refine⟨len,λA a s H args us d Q E m l R r D=>?_⟩
 have T:=len _ _ _ _ D
 have F:=l.mod.KA.keeps λb o e=>(l.bs b o e).1
 have lim:=l.mod.nolimit.keeps λb o e=>(l.bs b o e).1
 have U:∀y∈ps.zip us,scope.names.lookup y.1=Β .local∨(scope.names.lookup y.1=Β .cell/\((cellsFrom (s.heap.objs.size+1) scope.names []).lookup y.1).isSome=Δ):=fun⟨n,v⟩ hy=>by
  rcases S.par n (S6 hy).1 with q|q
  ·exact .inl q
  ·exact .inr ⟨q,PySem.W.cellsFrom_some _ _ _ (.inl q)⟩
 refine codeAny_call_function m.depth (F _ _ lk) Λ S.co S.gen Λ (PySem.W.codeRec_of F M) (R _ _ _ _ ?_)
 refine wpAny_newFunctionEnv_cells S.kind U λX Y G x=>?_
 subst Y
 refine⟨lim.keeps x.toInCall.keep,codeAny_func ?_⟩
 obtain⟨t,Z,hq⟩:=O A a s H d Q E (m.deeper _) D
 have I:τ (sL CX P w K mg ν N qual scope f c A a s H E) [] (start N d) H G:=vo S m.hd l T r x
 refine ò (Z [] G (start N d) H _ I hq) (λfl p i=>?_) λe p i=>i
 have fin:∀{g:St}{h:Hp}{v:V}{u:Ρ},τ (sL CX P w K mg ν N qual scope f c A a s H E) [] g h p->RelV v u->Q v h->CE a P w H s Q u p:=
  λ{g h v u} J z q=>⟨v,h,J.os,J.bare,J.ν,J.DW,z,q⟩
 cases fl with
 | ret u =>
  obtain⟨v,g,h,J,z,q⟩:=i
  exact fin J z q
 | next =>
  obtain⟨g,h,J,q⟩:=i
  exact fin (v:=V.Eg) (u:=Į) J Λ q
 | brk =>
  obtain⟨_,_,_,q⟩:=i
  exact î q
 | cont =>
  obtain⟨_,_,_,q⟩:=i
  exact î q
section
variable {X:Cx}{x:Str}{p pos:Pos}{e:Expr}{es:List Expr}{t:TA}{id T:String}{r:List V->Hp->VK->Prop}
def tCB(r:List V->Hp->VK->Prop)(t:TA):TE:=λσ H Q=>t σ H λvs H1=>r vs H1 Q
theorem ay(c:du X (.builtin id) r)(d:Gl X x)(f:X.mg x=Γ)(g:ě x=Β (.builtin id))(i:PA X (e:: es) t)(j:autoParam (x≠ "__name__") θ)(l:autoParam ((x == ("__debug__":Str))=Ε) θ)
  (m:autoParam (Á (e:: es) X.env=(Ε,eval e X.env):: Á es X.env) η) (o:autoParam ((ē pos (Á es X.env)).any (·.1)=Ε) η):PE X (.Call (.Name x p) (e:: es) [] pos) (tCB r t):=by
 intro a s b H Q I h
 refine ŕ (fK I d f g ?_ j l)
 exact PyProof.Rows.callWith_builtin1 (bj (i pos a s b H _ I h) λus q u=>by obtain⟨v,w,y,z,A⟩:=u;exact c a q b w v us Q y z A) m o
theorem aN(c:du X (.type T) r)(d:Gl X x)(f:X.mg x=Γ)(g:ě x=Β (.type T))(i:PA X (e:: es) t)(j:autoParam (x≠ "__name__") θ)(l:autoParam ((x == ("__debug__":Str))=Ε) θ)
  (m:autoParam (Á (e:: es) X.env=(Ε,eval e X.env):: Á es X.env) η) (o:autoParam ((ē pos (Á es X.env)).any (·.1)=Ε) η):PE X (.Call (.Name x p) (e:: es) [] pos) (tCB r t):=by
 intro a s b H Q I h
 refine ŕ (fK I d f g ?_ j l)
 exact Ô (bj (i pos a s b H _ I h) λus q u=>by obtain⟨v,w,y,z,A⟩:=u;exact c a q b w v us Q y z A) m o
end
end L2
namespace HT
open PySem PyProof.Rows
section
open PySem.SeqAt
open PySem.AutoSeq1 (wpAny_loadPart')
open PySem.MeetsSeq PySem.MeetsSeq2 PySem.MeetsSeq3
end
section
variable {prog:Program}{w:Ϭ}{A:Ð}{E:Ρ->ϊ->Prop}{s:ϊ}
theorem Li(x:IsTup s.heap t vs.toArray)(y:IsTup s.heap b ws.toArray)(i:vs≠[])
  (z:ws=[]->Q (.ref t) s) (B:ws≠[]->Q (.ref s.heap.objs.size) {s with heap:=s.heap.push {cls:=.type "tuple",data:=.seq (vs++ws).toArray}})
  (g:vs.length+ws.length<=Χ):ϫ (ϩ prog w) A (binaryOp .Add (.ref t) (.ref b)) Q E s:=by
 obtain⟨⟨cls,l,data,m⟩,c,o,n,p⟩:=id x
 obtain⟨⟨C,q,h,r⟩,d,u,v,a⟩:=id y
 simp only at o p u a
 subst o p u a
 have e:vs.toArray++ws.toArray=(vs++ws).toArray:=by simp
 by_cases f:ws=[]
 ·exact N5 ⟨_,c,Λ⟩ ⟨_,d,Λ⟩ tf KH slot_tuple_add entry_tuple_add (args_tuple_add_2 _ _)
   (tuple_addW1 t b vs.toArray ws.toArray n v l q m r (by simpa using i) (by simp[f])) ⟨c,d,z f⟩
 ·refine N5 ⟨_,c,Λ⟩ ⟨_,d,Λ⟩ tf KH slot_tuple_add entry_tuple_add (args_tuple_add_2 _ _)
   (tuple_addW2 t b vs.toArray ws.toArray n v l q m r (by simpa using i) (by simpa using f) (by rw[ϭ,ϭ];exact g)) ⟨c,d,?_⟩
  rw[e]
  exact B f
noncomputable def G6(n d:Nat):Option Int->Nat
 |none=>d
 |some v=>if v<0 then (v+(n:Int)).toNat else min v.toNat n
theorem Kc(n d:Nat):G6 n d Γ=d:=rfl
theorem Fy(n d k:Nat):G6 n d (Β (k:Int))=min k n:=by
 show(if (k:Int)<0 then ((k:Int)+(n:Int)).toNat else min (k:Int).toNat n)=min k n
 rw[Θ (by omega),ϋ]
end
end HT
namespace L2
open PySem PySem.Spec PyProof.Rows
abbrev TO:=St->Hp->(Option Int->Hp->Prop)->Prop
def PO(X:Cx)(e:Option Expr)(t:TO):Prop:=
 ∀(ο:List (Ν×Obj))(s:ϊ)(σ:St)(H:Hp)(Q:Option Int->Hp->Prop),τ X ο σ H s->t σ H Q->
  ϫ (ϩ X.prog X.w) X.A (evalPart e X.env) (λu s'=>∃o H',τ X ο σ H' s'/\IsPart u o/\Q o H') X.xe s
def zf:TO:=λ_ H Q=>Q Γ H
inductive Uam(Q:Option Int->Hp->Prop)(x:V)(H1:Hp):Prop
 |mk (i)(_:x=.int i)(_:Q (Β i) H1)
def PN(t:TE):TO:=λσ H Q=>t σ H λx H1=>Uam Q x H1
theorem lL:∀{us:List Ρ},υ (a.map V.int) us->pD us a:=by
 induction a with
 |nil=>intro us r;rw[Js]at r;cases r;exact .nil
 | cons n a b =>
  intro us r
  rw[Ç]at r
  cases r with
  | cons c d =>
   obtain⟨t,e⟩:=c
   subst e
   exact .cons n t (b d)
section
variable {X:Cx}{e:Expr}{te:TE}{lo hi:Option Expr}{tl th:TO}{pos p2:Pos}
theorem iP:PO X Γ zf:=by
 intro a s b H Q I h
 rw[evalPart_none]
 exact Ϛ ⟨Γ,H,I,.none,h⟩
theorem cY(h:PE X e te):PO X (Β e) (PN te):=by
 intro a s b H Q I c
 rw[evalPart_some]
 refine bj (h a s b H _ I c) λu m d=>?_
 obtain⟨x,f,g,j,l⟩:=d
 obtain⟨i,rfl,q⟩:=l
 obtain⟨t,rfl⟩:=j
 exact⟨Β i,f,g,.int i t,q⟩
def SlR(X:Cx)(r:V->Option Int->Option Int->Hp->VK->Prop):Prop:=
 ∀(ο:List (Ν×Obj))(s:ϊ)(σ:St)(H:Hp)(x:V)(v vl vu:Ρ)(lo hi:Option Int)(sl:Ν)(Q:VK),τ X ο σ H s->RelV x v->s.heap.IsSliceOf sl vl vu .none->IsPart vl lo->IsPart vu hi->r x lo hi H Q->
  ∃T id,JE (.type T) "__getitem__"=pure (Β (.builtin id))/\s.TypeIs v T/\ϫ (ϩ X.prog X.w) X.A (getItem v (.ref sl)) (EP X ο σ Q) X.xe s
def tSl(r:V->Option Int->Option Int->Hp->VK->Prop)(te:TE)(tl th:TO):TE:=λσ H Q=>te σ H λx H1=>tl σ H1 λl H2=>th σ H2 λu H3=>r x l u H3 Q
theorem dF(o:SlR X r)(p:PE X e te)(t:PO X lo tl)(y:PO X hi th):PE X (.Subscript e (.Slice lo hi Γ p2) pos) (tSl r te tl th):=by
 intro a s f H Q I h
 refine S1 (bj (p a s f H _ I h) λv z j=>?_)
 obtain⟨x,B,C,D,E⟩:=j
 refine wpAny_Slice (bj (t a z f B _ C E) λg F ⟨l,G,J,pl,K⟩=>bj (y a F f G _ J K) λi c j=>?_)
 obtain⟨u,m,L,M,N⟩:=j
 rw[evalPart_none]
 refine Ϛ ?_
 have O:τ X a f m {c with heap:=c.heap.push {cls:=.type "slice",data:=.fields #[g,i,.none]}}:=L.kept (t':=c.toks) λb U q=>ώ _ q
 obtain⟨T,Y,P,R,S⟩:=o a {c with heap:=c.heap.push {cls:=.type "slice",data:=.fields #[g,i,.none]}} f m x v g i l u c.heap.objs.size Q O D (Ù.IsSliceOf.new ..) pl M N
 exact tail_any (ops:=[.ref c.heap.objs.size,v]) R P S (by with_unfolding_all rfl)
noncomputable def gB(xs:List V)(lo hi:Option Int):List V:=(xs.drop (HT.G6 xs.length 0 lo)).take (HT.G6 xs.length xs.length hi - HT.G6 xs.length 0 lo)
theorem qS(xs:List V)(lo hi:Option Int):(gB xs lo hi).length<=xs.length:=by
 unfold gB
 rw[ć,Ĉ]
 omega
inductive PQ(K:ϣ)(x:V)(y:V)(H:Hp)(Q:VK):Prop
 |mk (a b xs ys)(_:x=.ref a)(_:y=.ref b)(_:DY K H a xs)(_:DY K H b ys)(_:xs≠[])(_:xs.length+ys.length<=Χ)(_:(ys=[]->Q (.ref a) H)/\(ys≠[]->∀p,H p=Γ->Q (.ref p) (π H p (.tup (xs++ys)))))
theorem υ.Gu(r:υ xs us):us=[]↔xs=[]:=by
 cases r with
 |nil=>simp
 |cons _ _=>simp
theorem zL:fz X (binaryOp .Add) (PQ X.K):=by
 intro f s C H x y v u Q I i j h
 obtain⟨a,b,xs,l,rfl,rfl,m,p,r,g,t,A⟩:=h
 cases i
 cases j
 obtain⟨D,d,B,_⟩:=I.tuple m
 obtain⟨E,c,p2,_⟩:=I.tuple p
 refine HT.Li B p2 (λz=>r (d.Gu.mp z)) (λz=>⟨.ref a,H,I,Λ,t (c.Gu.mp z)⟩) (λz=>?_) (by rw[←d.length,←c.length];exact g)
 refine⟨.ref s.heap.objs.size,_,I.laid (t':=s.toks) (o:=.tup (xs++l)) (λb F q=>ώ _ q) (Ξ _) ?_,Λ,A (λw=>z (c.Gu.mpr w)) _ (I.DW.fresh (Ξ _))⟩
 exact⟨by rw[Υ];exact g,_,d.append c,EZ.new _ _⟩
end
noncomputable def AB(n:Nat)(i:Int):Option Nat:=if 0<=i then (if i<n then Β i.toNat else Γ) else if -(n:Int)<=i then Β (i+n).toNat else Γ
noncomputable def O6{α:Type}(xs:List α)(i:Int):Option α:=(AB xs.length i).bind λj=>xs[j]?
theorem ui(h:AB n i=Β j):r4 i n=Β j/\j<n/\-(n:Int)<=i/\i<n:=by
 unfold AB at h
 by_cases b:0<=i
 ·rw[Ι b]at h
  by_cases a:i<n
  ·rw[Ι a]at h
   have e:=Ψ h
   exact⟨by rw[Qf b a,e],by omega,by omega,a⟩
  ·rw[Θ a]at h;cases h
 ·rw[Θ b]at h
  by_cases a:-(n:Int)<=i
  ·rw[Ι a]at h
   have e:=Ψ h
   exact⟨by rw[seqIndex_neg (by omega) a,e],by omega,a,by omega⟩
  ·rw[Θ a]at h;cases h
theorem u0(h:O6 xs i=Β v):∃j,r4 i xs.length=Β j/\xs[j]?=Β v/\j<xs.length/\-(xs.length:Int)<=i/\i<xs.length:=by
 unfold O6 at h
 cases e:AB xs.length i with
 |none=>rw[e]at h;cases h
 | some j =>
  rw[e]at h
  obtain⟨a,b,c,d⟩:=ui e
  exact⟨j,a,h,b,c,d⟩
theorem al{j:Nat}{v:α}(h:xs[j]?=Β v):O6 xs (j:Int)=Β v:=by
 have a:=(gQ0 h)
 have e:AB xs.length (j:Int)=Β j:=by
  unfold AB
  rw[Ι (by omega),Ι (by omega)];simp
 unfold O6;rw[e];exact h
def Bd(b:Expr):Prop:=∀o i,A6 b Ε o i=operate [o,i] (getItem o i)
def uB(X:Cx)(r:R2):Prop:=
 ∀(value slice:Expr)(ο:List (Ν×Obj))(s:ϊ)(σ:St)(H:Hp)(x y:V)(v u:Ρ)(Q:VK),τ X ο σ H s->RelV x v->RelV y u->r x y H Q->
  A6 slice Ε v u=operate [v,u] (getItem v u)->ϫ (ϩ X.prog X.w) X.A (subscriptTail value slice v u) (EP X ο σ Q) X.xe s
def U7(X:Cx)(id:String)(r:V->List V->Hp->VK->Prop):Prop:=
 ∀(ο:List (Ν×Obj))(s:ϊ)(σ:St)(H:Hp)(x:V)(xs:List V)(v:Ρ)(us:List Ρ)(Q:VK),τ X ο σ H s->RelV x v->υ xs us->r x xs H Q->
  ϫ (ϩ X.prog X.w) X.A (call (.builtin id) (v:: us)) (EP X ο σ Q) X.xe s
section
variable {X:Cx}{a b:Expr}{ta tb:TE}{pos:Pos}
theorem aD(d:uB X r)(e:PE X a ta)(f:PE X b tb)(g:Bd b):PE X (.Subscript a b pos) (U4 r ta tb):=by
 intro c s i H Q I h
 exact S1 (DE e f I h λv u j x y l m o p q=>d a b c j i l x y v u Q m o p q (g _ _))
inductive xn(K:ϣ)(x:V)(y:V)(H:Hp)(Q:VK):Prop
 |mk (p xs i v)(_:x=.ref p)(_:y=.int i)(_:DS K H p xs)(_:O6 xs i=Β v)(_:Q v H)
inductive qk(K:ϣ)(x:V)(y:V)(H:Hp)(Q:VK):Prop
 |mk (p xs i v)(_:x=.ref p)(_:y=.int i)(_:DY K H p xs)(_:O6 xs i=Β v)(_:Q v H)
theorem aR:uB X (xn X.K):=by
 intro value slice c s f H x y v u Q I o A h g
 obtain⟨p,xs,i,z,rfl,rfl,B,C,q⟩:=h
 cases o
 obtain⟨t,rfl⟩:=A
 obtain⟨D,r,pl,N⟩:=I.list B
 obtain⟨j,d,E,O,F,G⟩:=u0 C
 obtain⟨w,l,J⟩:=r.get E
 have L:=r.length
 have P:=lF
 have fin:EP X c f Q w s:=⟨z,H,I,J,q⟩
 by_cases m:0<=i
 ·have e:i.toNat=j:=by
   rw[Qf m G]at d
   exact Ψ d
  exact item_listR pl.isList m (by omega) (by rw[e];simpa using l) fin g
 ·have e:(i+(D.toArray.size:Int)).toNat=j:=by
   rw[seqIndex_neg (by omega) F]at d
   rw[ϭ,←L]
   exact Ψ d
  exact NN (x:=w) pl.isList.typeIs Tn.lookup
   (wpAny_getItem_list_neg (Q:=λr M=>r=w/\EP X c f Q r M) pl.isList (by omega) (by rw[ϭ]<;>omega) (by omega) (by rw[e];simpa using l) ⟨Λ,fin⟩) g
theorem aH:uB X (qk X.K):=by
 intro value slice c s d H x y v u Q I e f h g
 obtain⟨p,xs,i,z,rfl,rfl,l,m,q⟩:=h
 cases e
 obtain⟨t,rfl⟩:=f
 obtain⟨F,r,pl,G⟩:=I.tuple l
 obtain⟨j,o,A,J,L,M⟩:=u0 m
 obtain⟨w,B,C⟩:=r.get A
 have D:=r.length
 have N:=lF
 have fin:EP X c d Q w s:=⟨z,H,I,C,q⟩
 exact NN (x:=w) pl.typeIs slot_tuple_getitem.lookup
  (getItem_tuple (j:=j) (Q:=λr E=>r=w/\EP X c d Q r E) pl (by omega) (by omega) (by rw[ϭ,←D];exact o) (by simpa using B) ⟨Λ,fin⟩) g
theorem sm(c:List Ρ)(n j:Nat)(u:Ρ):Š (·.setIfInBounds j u) {cls:=.type "list",data:=.seq c.toArray n}={cls:=.type "list",data:=.seq (c.set j u).toArray n}:=by
 simp[Š]
theorem τ.ρ{d:St}{H:Hp}{s:ϊ}{p:Ν}{xs:List V}(I:τ X ο d H s)(h:H p=Β (.ρ xs)):
  ∃(c:List Ρ)(n:Nat),υ xs c/\s.heap.get? p=Β {cls:=.type "list",data:=.seq c.toArray n}/\xs.length<=Χ:=by
 obtain⟨z,c,n,r,e⟩:=I.DW p _ h
 exact⟨c,n,r,e,z⟩
theorem τ.MX{d:St}{g c:List Ρ}(I:τ X ο d H s)(h:H p=Β (.ρ xs))
  (l:s.heap.get? p=Β {cls:=.type "list",data:=.seq g.toArray n}) (i:f {cls:=.type "list",data:=.seq g.toArray n}={cls:=.type "list",data:=.seq c.toArray n'}) (r:υ ys c) (m:ys.length<=Χ) (t:Nat):
  τ X ο d (π H p (.ρ ys)) {s with heap:=s.heap.update p f,toks:=t}:=by
 have e:(s.heap.update p f).get? p=Β {cls:=.type "list",data:=.seq c.toArray n'}:=by
  rw[ţ f l (by rw[i]<;>rfl),i]
 refine I.write (x:=p) (e:=p) (by rw[h];trivial) (.inl Λ) (λb u o q=>(Ş _ _ (ϛ o)).trans q) ⟨_,e⟩ ?_
 exact⟨m,c,n',r,e⟩
inductive PR(o:V)(i:V)(v:V)(H:Hp)(Q:Hp->Prop):Prop
 |mk (p xs k j)(_:o=.ref p)(_:i=.int k)(_:H p=Β (.ρ xs))(_:AB xs.length k=Β j)(_:Q (π H p (.ρ (xs.set j v))))
theorem iD:P2 X PR:=by
 intro c s B H o i v J K u Q I C D E h
 obtain⟨p,xs,k,j,rfl,rfl,l,F,q⟩:=h
 cases C
 obtain⟨t,rfl⟩:=D
 obtain⟨m,n,r,e,G⟩:=I.ρ l
 obtain⟨d,L,w,x⟩:=ui F
 have f:=r.length
 have M:=lF
 have y:=
  I.MX l e (sm m n j u) (r.set E j) (by rw[Ċ];exact G) s.toks
 by_cases A:0<=k
 ·have g:k.toNat=j:=by
   rw[Qf A x]at d
   exact Ψ d
  exact PySem.W.ki_setAt e A (by omega) (by rw[ϭ,←f];exact x) (by rw[g];exact⟨_,y,q⟩)
 ·have g:(k+(m.toArray.size:Int)).toNat=j:=by
   rw[seqIndex_neg (by omega) w]at d
   rw[ϭ,←f]
   exact Ψ d
  exact PySem.W.ki_setBack e (by omega) (by rw[ϭ,←f];exact w) (by omega) (by rw[g];exact⟨_,y,q⟩)
theorem oC(c d:Option Int)(n:Nat):(Ń c d Γ n).1=((HT.G6 n 0 c:Nat):Int)/\(Ń c d Γ n).2.1=((HT.G6 n n d:Nat):Int)/\(Ń c d Γ n).2.2=1:=by
 refine⟨?_,?_,Λ⟩
 ·cases c with
  |none=>simp[Ń,HT.G6]
  | some i =>
   simp only[Ń,HT.G6,Ő,show (1:Int) > 0 by decide,if_true]
   by_cases h:i<0
   ·simp only[h,if_true]<;>omega
   ·simp only[h,if_false]<;>omega
 ·cases d with
  |none=>simp[Ń,HT.G6]
  | some i =>
   simp only[Ń,HT.G6,Ő,show (1:Int) > 0 by decide,if_true]
   by_cases h:i<0
   ·simp only[h,if_true]<;>omega
   ·simp only[h,if_false]<;>omega
theorem m9(c:List Ρ)(d e:Option Int):slicePick c.toArray d e Γ=((c.drop (HT.G6 c.length 0 d)).take (HT.G6 c.length c.length e - HT.G6 c.length 0 d)).toArray:=by
 obtain⟨f,g,h⟩:=oC d e c.toArray.size
 unfold slicePick
 rw[f,g,h]
 simp only[sliceRange_one,pick_run,ϭ]<;>rfl
inductive Wx(K:ϣ)(x:V)(lo:Option Int)(hi:Option Int)(H:Hp)(Q:VK):Prop
 |mk (a xs)(_:x=.ref a)(_:DS K H a xs)(_:∀p,H p=Γ->Q (.ref p) (π H p (.ρ (gB xs lo hi))))
theorem eB:SlR X (Wx X.K):=by
 intro f s t H x v u w d e y Q I i j pl l h
 obtain⟨a,xs,rfl,m,q⟩:=h
 cases i
 obtain⟨z,r,g,p⟩:=I.list m
 have c:=r.length
 refine⟨"list",_,Tn.lookup,g.isList.typeIs,?_⟩
 refine wpAny_getItem_list_slice g.isList j pl l .none (by simp) ?_ (by rw[ϭ]<;>omega)
 rw[m9,←c]
 refine⟨.ref s.heap.objs.size,_,I.laid (t':=s.toks) (o:=.ρ (gB xs d e)) (λb A q=>ώ _ q) (Ξ _) ?_,Λ,q _ (I.DW.fresh (Ξ _))⟩
 exact⟨Î (qS xs d e) p,_,0,(r.drop (HT.G6 xs.length 0 d)).take (HT.G6 xs.length xs.length e - HT.G6 xs.length 0 d),Ϡ _ Λ⟩
noncomputable def gY:V->Bool
 |.Eg=>Δ
 |.bl _=>Δ
 |.int _=>Δ
 |.str _=>Δ
 |_=>Ε
noncomputable def BD:V->V->Bool
 |.Eg,.Eg=>Δ
 |.bl a,.bl b=>a == b
 |.bl a,.int b=>(if a then 1 else 0) == b
 |.int a,.bl b=>a == (if b then 1 else 0)
 |.int a,.int b=>a == b
 |.str a,.str b=>a == b
 |_,_=>Ε
theorem D5(e:RelV y u)(c:RelV x v)(g:gY y=Δ)(f:gY x=Δ):ã A s u v (BD y x):=by
 cases y with
 | Eg =>
  cases e
  cases x with
  |Eg=>cases c;exact ã.same _
  |bl b=>cases c;exact ã.none_bool b
  |int b=>obtain⟨t,rfl⟩:=c;exact ã.none_int b t
  |str b=>obtain⟨t,rfl⟩:=c;exact ã.none_str b t
  |_=>exact Κ (f) Ϝ
 | bl a =>
  cases e
  cases x with
  |Eg=>cases c;exact ã.bool_none a
  |bl b=>cases c;exact ã.bool_bool a b
  |int b=>obtain⟨t,rfl⟩:=c;exact ã.bool_int a b t
  |str b=>obtain⟨t,rfl⟩:=c;exact ã.bool_str a b t
  |_=>exact Κ (f) Ϝ
 | int a =>
  obtain⟨d,rfl⟩:=e
  cases x with
  |Eg=>cases c;exact ã.int_none a d
  |bl b=>cases c;exact ã.int_bool a d b
  |int b=>obtain⟨t,rfl⟩:=c;exact ã.int_int a d b t
  |str b=>obtain⟨t,rfl⟩:=c;exact D3 a d b t
  |_=>exact Κ (f) Ϝ
 | str a =>
  obtain⟨d,rfl⟩:=e
  cases x with
  |Eg=>cases c;exact ã.str_none a d
  |bl b=>cases c;exact ã.str_bool a d b
  |int b=>obtain⟨t,rfl⟩:=c;exact D0 a d b t
  |str b=>obtain⟨t,rfl⟩:=c;exact ã.str_str a d b t
  |_=>exact Κ (f) Ϝ
 |_=>exact Κ (g) Ϝ
noncomputable def sJ(x:V)(u:Ρ):Bool:=match u with
 |.none=>BD .Eg x
 |.bool b=>BD (.bl b) x
 |.int i _=>BD (.int i) x
 |.str z _=>BD (.str z) x
 |_=>Ε
theorem y8(r:RelV y u)(f:gY y=Δ):sJ x u=BD y x:=by
 cases y with
 |Eg=>cases r;rfl
 |bl b=>cases r;rfl
 |int i=>obtain⟨t,rfl⟩:=r;rfl
 |str z=>obtain⟨t,rfl⟩:=r;rfl
 |_=>exact Κ (f) Ϝ
theorem jk:∀{xs:List V}{us:List Ρ},υ xs us->xs.all gY=Δ->us.any (sJ x)=xs.any λy=>BD y x
 |_,_,.nil,_=>rfl
 | y:: xs,u:: us,.cons r t,f=>by
  rw[Rx,Ö]at f
  rw[cy,cy,y8 r f.1,jk t f.2]
theorem gn(d:RelV x v)(e:gY x=Δ):∀{xs:List V}{us:List Ρ},υ xs us->xs.all gY=Δ->∀u∈us,ã A s u v (sJ x u)
 |_,_,.nil,_=>λu c=>by cases c
 | y:: xs,u:: us,.cons r t,f=>λg c=>by
  rw[Rx,Ö]at f
  rcases Ϯ.mp c with rfl|c
  ·rw[y8 r f.1];exact D5 r d f.1 e
  ·exact gn d e t f.2 g c
noncomputable def B4(x:V)(xs:List V):Bool:=xs.any λy=>BD y x
inductive U8(K:ϣ)(neg:Bool)(x:V)(y:V)(H:Hp)(Q:VK):Prop
 |mk (p xs)(_:y=.ref p)(_:(DS K H p xs∨DY K H p xs)/\gY x=Δ/\xs.all gY=Δ/\Q (.bl (if neg then !B4 x xs else B4 x xs)) H)
theorem uV:fz X (compareOp .In) (U8 X.K Ε):=by
 intro f s m H x y v u Q I g j h
 obtain⟨p,xs,rfl,c,i,fs,q⟩:=h
 cases j
 rcases c with c|c
 ·obtain⟨d,r,pl,l⟩:=I.list c
  refine SeqAt.in_listAt (sJ x) pl.isList (λw e=>gn g i r fs w (by simpa using e)) ⟨.bl _,H,I,Λ,?_⟩
  rw[show d.toArray.any (sJ x)=d.any (sJ x) by simp,jk r fs]
  exact q
 ·obtain⟨d,r,pl,l⟩:=I.tuple c
  refine SeqAt.in_tupleAt (sJ x) pl (λw e=>gn g i r fs w (by simpa using e)) ⟨.bl _,H,I,Λ,?_⟩
  rw[show d.toArray.any (sJ x)=d.any (sJ x) by simp,jk r fs]
  exact q
theorem iR:fz X (compareOp .NotIn) (U8 X.K Δ):=by
 intro f s m H x y v u Q I g j h
 obtain⟨p,xs,rfl,c,i,fs,q⟩:=h
 cases j
 rcases c with c|c
 ·obtain⟨d,r,pl,l⟩:=I.list c
  refine SeqAt.notIn_listAt (sJ x) pl.isList (λw e=>gn g i r fs w (by simpa using e)) ⟨.bl _,H,I,Λ,?_⟩
  rw[show d.toArray.any (sJ x)=d.any (sJ x) by simp,jk r fs]
  exact q
 ·obtain⟨d,r,pl,l⟩:=I.tuple c
  refine SeqAt.notIn_tupleAt (sJ x) pl (λw e=>gn g i r fs w (by simpa using e)) ⟨.bl _,H,I,Λ,?_⟩
  rw[show d.toArray.any (sJ x)=d.any (sJ x) by simp,jk r fs]
  exact q
theorem aw:du X (.builtin "len") (λxs H Q=>∃p d,xs=[.ref p]/\(DS X.K H p d∨DY X.K H p d)/\Q (.int d.length) H):=by
 intro g s m H xs us Q I r h
 obtain⟨p,d,rfl,e,q⟩:=h
 obtain⟨u,rfl,i⟩:=kE r
 cases i
 have o:=lF
 rcases e with e|e
 ·obtain⟨j,f,pl,l⟩:=I.list e
  have c:=f.length
  exact Calls.call_len_list pl.isList (by simp only[ϭ]<;>omega) ⟨.int d.length,H,I.tok _,⟨s.toks+1,by rw[ϭ,c]⟩,q⟩
 ·obtain⟨j,f,pl,l⟩:=I.tuple e
  have c:=f.length
  exact len_tuple pl (by simp only[ϭ]<;>omega) ⟨.int d.length,H,I.tok _,⟨s.toks+1,by rw[ϭ,c]⟩,q⟩
theorem cf:du X (.type "list") (λxs H Q=>∃p f,xs=[.ref p]/\(DS X.K H p f∨DY X.K H p f)/\∀l,H l=Γ->Q (.ref l) (π H l (.ρ f))):=by
 intro j s D H xs us Q I r h
 obtain⟨p,f,rfl,m,q⟩:=h
 obtain⟨u,rfl,E⟩:=kE r
 cases E
 have fin:∀(d:List Ρ),υ f d->f.length<=Χ->∀(c:Ù)(g:Nat),(∀b B,s.heap.get? b=Β B->c.get? b=Β B)->
   c.get? s.heap.objs.size=Β {cls:=.type "list",dict:=Γ,data:=.seq d.toArray g,slots:=#[]}->EP X j D Q (.ref s.heap.objs.size) {s with heap:=c}:=λd i t c g v e =>
  ⟨.ref s.heap.objs.size,_,I.laid (t':=s.toks) v (Ξ _) (show Er X.prog X.w _ c _ (.ρ f) from ⟨t,d,g,i,e⟩),Λ,q _ (I.DW.fresh (Ξ _))⟩
 rcases m with m|m
 ·obtain⟨d,i,pl,t⟩:=I.list m
  have x:=i.length
  obtain⟨o,y,z,n,A⟩:=pl.isList
  exact call_list_seq p (.inl Λ) y z A (λc g v e=>fin d i t c g v e) (by simp only[ϭ]<;>omega)
 ·obtain⟨d,i,pl,t⟩:=I.tuple m
  have x:=i.length
  obtain⟨o,y,z,n,A⟩:=pl
  exact call_list_seq p (.inr Λ) y z A (λc g v e=>fin d i t c g v e) (by simp only[ϭ]<;>omega)
theorem aY:du X (.type "tuple") (λxs H Q=>∃p d,xs=[.ref p]/\((DS X.K H p d/\∀l,H l=Γ->Q (.ref l) (π H l (.tup d)))∨(DY X.K H p d/\Q (.ref p) H))):=by
 intro c s t H xs us Q I r h
 obtain⟨p,d,rfl,h⟩:=h
 obtain⟨u,rfl,z⟩:=kE r
 cases z
 rcases h with ⟨i,q⟩|⟨i,q⟩
 ·obtain⟨j,m,pl,v⟩:=I.list i
  have x:=m.length
  refine call_tuple_list pl.isList (λg A=>?_) (by simp only[ϭ]<;>omega)
  have y:=I.kept (t':=s.toks) A
  have B:=
   y.laid (t':=s.toks) (λb o e=>ώ _ e) (Ξ _) (show Er X.prog X.w _ _ _ (.tup d) from ⟨v,j,m,EZ.new _ _⟩)
  exact⟨.ref g.objs.size,_,B,Λ,q _ (y.DW.fresh (Ξ _))⟩
 ·obtain⟨j,m,pl,v⟩:=I.tuple i
  exact call_tuple_same pl ⟨.ref p,H,I,Λ,q⟩
def Wz(K:ϣ)(T:String)(x:V)(H:Hp):Prop:=match x with
 |.str _=>T="str"
 |.int _=>T="int"
 | .ref p=>(T="list"/\∃xs,DS K H p xs)∨(T="tuple"/\∃o,K.lookup p=Β o/\o.cls=.type "tuple"/\o.dict=Γ)∨
   (T="dict"/\((∃kvs,H p=Β (.dK kvs))∨∃kvs,H p=Β (.dT kvs)))∨(T="set"/\∃S n,H p=Β (.set S n))
 |_=>False
theorem vP{m:St}(I:τ X ο m H s)(r:RelV x v)(f:Wz X.K T x H):
  s.TypeIs v T/\∀a,v=.ref a->∃l,s.heap.get? a=Β l/\l.dict=Γ:=by
 cases x with
 | str z =>
  obtain⟨t,rfl⟩:=r
  cases (f)
  exact⟨typeIs_str s z t,λ_ e=>nomatch e⟩
 | int i =>
  obtain⟨t,rfl⟩:=r
  cases (f)
  exact⟨typeIs_int s i t,λ_ e=>nomatch e⟩
 | ref p =>
  cases r
  rcases f with ⟨rfl,xs,q⟩|⟨rfl,o,d,u,g⟩|⟨rfl,d⟩|⟨rfl,S,n,d⟩
  ·obtain⟨w,_,pl,_⟩:=I.list q
   refine⟨pl.isList.typeIs,λa e=>?_⟩
   cases e
   obtain⟨o,n,e,c,g,_⟩:=pl
   exact⟨o,e,g⟩
  ·refine⟨⟨o,I.FL p o d,u⟩,λa e=>?_⟩
   cases e
   exact⟨o,I.FL _ o d,g⟩
  ·have z:∃o,s.heap.get? p=Β o/\o.ExactDict:=by
    rcases d with ⟨h,d⟩|⟨h,d⟩
    ·obtain⟨_,_,_,_,o,_,_,e,ex,_⟩:=I.DW p _ d
     exact⟨o,e,ex⟩
    ·obtain⟨_,_,_,_,o,_,_,e,ex,_⟩:=I.DW p _ d
     exact⟨o,e,ex⟩
   obtain⟨o,e,ex⟩:=z
   refine⟨⟨o,e,ex.1⟩,λa j=>?_⟩
   cases j
   exact⟨o,e,ex.2.1⟩
  ·obtain⟨o,_,_,_,e,ex,_⟩:=I.DW p _ d
   refine⟨⟨o,e,ex.1⟩,λa j=>?_⟩
   cases j
   exact⟨o,e,ex.2.1⟩
 |_=>exact î f
def W0(K:ϣ)(T:String)(r:V->List V->Hp->VK->Prop)(to:TE):TE:=λσ H Q=>to σ H λx H1=>Wz K T x H1/\r x [] H1 Q
def tBM(K:ϣ)(T:String)(r:V->List V->Hp->VK->Prop)(to:TE)(t:TA):TE:=λσ H Q=>to σ H λx H1=>Wz K T x H1/\t σ H1 λxs H2=>r x xs H2 Q
variable {o e:Expr}{es:List Expr}{to:TE}{t:TA}{name:Str}{apos E9:Pos}{T id:String}{r:V->List V->Hp->VK->Prop}
theorem Cw(j:PlainAttrs T)(d:Slot T name id)(l:typeOf (.builtin id)=pure (.type "method_descriptor"))(m:U7 X id r)(p:PE X o to)
  (q:autoParam (ł o name X.env (eval o X.env)=eval o X.env) η) (u:autoParam ((apos.endLine == E9.line)=Δ) η):PE X (.Call (.Attribute o name apos) [] [] E9) (W0 X.K T r to):=by
 intro c s f H Q I h
 refine wpAny_Call_method0_late q u (bj (p c s f H _ I h) λv w y=>?_)
 obtain⟨x,z,g,i,A,B⟩:=y
 obtain⟨C,D⟩:=vP g i A
 exact⟨T,id,j,d,l,C,D,ģ Λ (PySem.evalArgs_none (m c w f z x [] v [] Q g i .nil B))⟩
theorem c8(m:PlainAttrs T)(d:Slot T name id)(p:typeOf (.builtin id)=pure (.type "method_descriptor"))(q:U7 X id r)(u:PE X o to)(w:PA X (e:: es) t)
  (y:autoParam (ł o name X.env (eval o X.env)=eval o X.env) η)
  (z:((ē E9 (Á (e:: es) X.env)).all (λx=>!x.1)&& (oa E9 (Ŝ [] X.env)).all (λx=>x.1.isSome)
   && decide ((e:: es).length+([]:List ot).length+(if ([]:List ot).isEmpty then 0 else 1)<30))=Δ:=by rfl)
  (A:autoParam ((apos.endLine == E9.line)=Δ) η) (B:autoParam (Á (e:: es) X.env=(Ε,eval e X.env):: Á es X.env) η) (C:autoParam ((ē E9 (Á es X.env)).any (·.1)=Ε) η):
  PE X (.Call (.Attribute o name apos) (e:: es) [] E9) (tBM X.K T r to t):=by
 intro c s f H Q I h
 refine N4 y z A Λ (bj (u c s f H _ I h) λv D g=>?_)
 obtain⟨x,E,i,j,F,G⟩:=g
 obtain⟨J,L⟩:=vP i j F
 refine⟨T,id,m,d,p,J,L,?_⟩
 have l:=w E9 c D f E _ i G
 rw[B]at l⊢
 refine ģ (by show(Ε||(ē E9 (Á es X.env)).any (·.1))=Ε;rw[C]<;>rfl) (Ŧ ?_)
 exact bj l λus M g=>by obtain⟨N,O,P,R,S⟩:=g;exact q c M f O x N v us Q P j R S
end
def W3(X:Cx)(id:String)(r:V->List V->Hp->VK->Prop):Prop:=
 ∀(ο:List (Ν×Obj))(s:ϊ)(σ:St)(H:Hp)(x:V)(xs:List V)(v:Ρ)(us:List Ρ)(Q:VK),τ X ο σ H s->RelV x v->υ xs us->r x xs H Q->
  ϫ (ϩ X.prog X.w) X.A (call (.builtin id) (v:: us)) (EP X ο σ Q) X.xe s
theorem υ.one:∀{x:V}{us:List Ρ},υ [x] us->∃u,us=[u]/\RelV x u:=by
 intro x us h
 cases h with
 |cons r t=>cases t;exact⟨_,Λ,r⟩
theorem υ.two:∀{x y:V}{us:List Ρ},υ [x,y] us->∃u v,us=[u,v]/\RelV x u/\RelV y v:=by
 intro x y us h
 cases h with
 | cons r t =>
  cases t with
  |cons q a=>cases a;exact⟨_,_,Λ,r,q⟩
theorem υ.eraseIdx:∀{xs:List V}{us:List Ρ}(i:Nat),υ xs us->υ (xs.eraseIdx i) (us.eraseIdx i)
 |_,_,_,.nil =>.nil
 |_,_,0,.cons _ t=>t
 |_,_,i+1,.cons r t =>.cons r (υ.eraseIdx i t)
theorem n0{a:Type}:∀(l:List a)(i:Nat),(l.eraseIdx i).length<=l.length
 |[],_=>Ξ _
 |_:: _,0=>O0 _
 |_:: r,i+1=>NO (n0 r i)
section
variable {X:Cx}{ο:List (Ν×Obj)}{σ:St}{H:Hp}{s:ϊ}{l b:Ν}{xs ys zs:List V}
theorem τ.MZ{a its':List Ρ}(I:τ X ο σ H s)(d:H l=Β (.ρ xs))
  (e:s.heap.get? l=Β {cls:=.type "list",data:=.seq a.toArray n}) (g:f a.toArray=its'.toArray) (h:υ ys its') (i:ys.length<=Χ):
  τ X ο σ (π H l (.ρ ys)) {s with heap:=s.heap.update l (Š f),toks:=t'}:=by
 have q:=PySem.IsL.update e f
 rw[g]at q
 refine I.write (x:=l) (e:=l) (by rw[d];exact trivial) (.inl Λ) (λo u j m=>(Ş s.heap (Š f) (ϛ j)).trans m) ⟨_,q⟩ ?_
 exact⟨i,its',_,h,q⟩
theorem τ.W4(I:τ X ο σ H s)(c:υ ys DV)(d:ys.length<=Χ):
  τ X ο σ (π H s.heap.objs.size (.ρ ys)) {s with heap:=s.heap.push {cls:=.type "list",data:=.seq DV.toArray},toks:=t'}:=
 I.laid (λ_ _ q=>ώ _ q) (Ξ _) ⟨d,DV,0,c,Ϡ _ Λ⟩
theorem τ.fresh(I:τ X ο σ H s):H s.heap.objs.size=Γ:=I.DW.fresh (Ξ _)
theorem τ.Iv(I:τ X ο σ H s)(c:H l=Β (.ρ xs)):xs.length<=Χ/\∃(a:List Ρ)(n:Nat),υ xs a/\xs.length=a.length/\s.heap.get? l=Β {cls:=.type "list",data:=.seq a.toArray n}:=by
 obtain⟨z,a,n,r,e⟩:=I.DW l _ c
 exact⟨z,a,n,r,r.length,e⟩
theorem ya(h:n<=Χ):ķ n=Ε:=by
 unfold ķ
 exact Η (by omega)
end
section
variable {X:Cx}
inductive zE(x:V)(vs:List V)(H:Hp)(Q:VK):Prop
 |mk (l xs y)(_:x=.ref l)(_:vs=[y])(_:H l=Β (.ρ xs))(_:xs.length<Χ)(_:Q .Eg (π H l (.ρ (xs++[y]))))
theorem bD:W3 X "list.append" zE:=by
 intro a s i H x j v us Q I d f h
 obtain⟨l,xs,y,rfl,rfl,b,m,q⟩:=h
 cases d
 obtain⟨u,rfl,g⟩:=f.one
 obtain⟨z,c,n,r,o,e⟩:=I.Iv b
 refine JG F.slot_list_append ⟨_,e,Λ⟩ F.entry_list_append (F.args_list_append_2 _ _) (PySem.list_append l c.toArray n u (by rw[ϭ];omega)) ⟨e,?_⟩
 refine⟨.Eg,_,I.MZ (its':=c++[u]) b e (by simp) (r.append (.cons g .nil)) ?_,Λ,q⟩
 rw[Υ,ϙ]
 omega
inductive zD(x:V)(vs:List V)(H:Hp)(Q:VK):Prop
 |mk (l b xs zs)(_:x=.ref l)(_:vs=[.ref b])(_:H l=Β (.ρ xs))(_:H b=Β (.ρ zs))(_:xs.length+zs.length<=Χ)(_:Q .Eg (π H l (.ρ (xs++zs))))
theorem eZ:W3 X "list.extend" zD:=by
 intro f s A H x B v us Q I i j h
 obtain⟨l,b,xs,C,rfl,rfl,g,m,D,q⟩:=h
 cases i
 obtain⟨u,rfl,o⟩:=j.one
 cases o
 obtain⟨z,DV,n,r,E,e⟩:=I.Iv g
 obtain⟨G,c,p,t,J,w⟩:=I.Iv m
 have d:DV.toArray.size+c.toArray.size<=Χ:=by rw[ϭ,ϭ];omega
 have y:¬(!DV.toArray.isEmpty&& ķ (DV.toArray.size+c.toArray.size))=Δ:=by
  rw[ya d,Bool.and_false]
  exact Ϝ
 refine JG F.slot_list_extend ⟨_,e,Λ⟩ F.entry_list_extend (F.args_list_extend_2 _ _)
  (AutoSeq1.list_extend_list_list_0 l DV.toArray n b c.toArray p y (by rw[ϭ];omega) (by omega)) ⟨e,w,?_⟩
 refine⟨.Eg,_,I.MZ (its':=DV++c) g e (by simp) (r.append t) ?_,Λ,q⟩
 rw[Υ]
 omega
inductive Cq(x:V)(vs:List V)(H:Hp)(Q:VK):Prop
 |mk (l xs i k y)(_:x=.ref l)(_:vs=[.int i])(_:H l=Β (.ρ xs))(_:-(2^63)<=i)(_:i<2^63)(_:r4 i xs.length=Β k)(_:xs[k]?=Β y)(_:Q y (π H l (.ρ (xs.eraseIdx k))))
theorem yb:W3 X "list.pop" Cq:=by
 intro b s D H x E v us Q I d f h
 obtain⟨l,xs,i,k,y,rfl,rfl,c,g,j,m,o,q⟩:=h
 cases d
 obtain⟨u,rfl,p⟩:=f.one
 obtain⟨t,rfl⟩:=p
 obtain⟨z,a,n,r,A,e⟩:=I.Iv c
 obtain⟨w,B,C⟩:=r.get o
 refine JG F.slot_list_pop ⟨_,e,Λ⟩ F.entry_list_pop (F.args_list_pop_2 _ _)
  (MeetsSeq.list_pop_at l a.toArray n i t k w (fitsIndex_both g j) (by rw[ϭ,←A];exact m) (by rw[←Array.getElem?_toList];exact B) (by rw[ϭ];omega)) ⟨e,?_⟩
 refine⟨y,_,I.MZ (its':=a.eraseIdx k) c e ?_ (r.eraseIdx k) ?_,C,q⟩
 ·show a.toArray.eraseIdxIfInBounds k=(a.eraseIdx k).toArray
  rw[List.eraseIdxIfInBounds_toArray]
 ·have:=n0 xs k
  omega
inductive W5(x:V)(y:V)(H:Hp)(Q:VK):Prop
 |mk (l b xs zs)(_:x=.ref l)(_:y=.ref b)(_:H l=Β (.ρ xs))(_:H b=Β (.ρ zs))(_:xs.length+zs.length<=Χ)(_:∀p,H p=Γ->Q (.ref p) (π H p (.ρ (xs++zs))))
theorem xA:fz X (binaryOp .Add) W5:=by
 intro a s t H x y v u Q I f g h
 obtain⟨l,b,xs,w,rfl,rfl,i,j,A,q⟩:=h
 cases f
 cases g
 obtain⟨z,c,n,r,B,e⟩:=I.Iv i
 obtain⟨C,d,D,m,E,o⟩:=I.Iv j
 refine PySem.P.add_list e o ?_ (by rw[ϭ,ϭ];omega)
 have p:c.toArray++d.toArray=(c++d).toArray:=by simp
 rw[p]
 exact⟨.ref _,_,I.W4 (t':=s.toks) (r.append m) (by rw[Υ];omega),Λ,q _ I.fresh⟩
end
section
variable {prog:Program}{w:Ϭ}{A:Ð}{E:Ρ->ϊ->Prop}{s:ϊ}
set_option maxRecDepth 100000 in
end
section
variable {X:Cx}
end
end L2
namespace Att
open PySem PySem.W PySem.Calls PyProof.Rows
theorem jT:∀(c:List Int)(d:List Ρ),WellAll P h d (c.map WData.int)->pD d c:=by
 intro c
 induction c with
 | nil =>
  intro d w
  rw[Js]at w
  cases w
  exact .nil
 | cons n c e =>
  intro d w
  rw[Ç]at w
  cases w with
  | cons a b =>
   cases a
   exact .cons _ _ (e _ b)
theorem uN{l:Tu}(o:l.most=Β n)
  (i:l.row.toRowW.claim.pre args=Δ) (p:WellAll P h vals args):
  ∃a j b,vals=[Æ a]/\args=[WData.list (b.map WData.int)]/\h.get? a=Β {cls:=.type "list",data:=.seq j.toArray}/\pD j b/\b.length<=n:=by
 have g:=(pre_splitW i).1
 have m:l.pre.holds [] {args:=args}=Δ:=(pre_splitW i).2
 obtain⟨d,r,rfl,s,t⟩:=hasAllW_cons g
 obtain rfl:=hasAllW_nil t
 obtain⟨xs,rfl,u⟩:=hasW_list s
 obtain⟨b,rfl⟩:=items_int u
 have c:b.length<=n:=by
  unfold Tu.pre at m
  have e:(WTm.not (.lt (.lit (.int (n:Int))) (.len (.arg 0)))).holds [] {args:=[.list (b.map .int)]}=Δ:=by
   have e:=(holds_andW m).1
   rw[o]at e
   exact e
  have f:=condW_of e (w_not (w_lt w_lit (w_len_list (w_arg Λ))))
  rw[Ο]at f
  refine Nat.le_of_not_lt λq=>?_
  have v:(n:Int)<((b.length:Nat):Int):=by omega
  first
   |(rw[Ζ v]at f;exact Κ f (by decide))
   |(simp at f;omega)
 cases p with
 | cons w x =>
  cases x
  cases w with
  |list y z=>exact⟨_,_,b,Λ,Λ,y,jT b _ z,c⟩
theorem uR(l:Tu)(args:List WData):l.row.toRowW.claim.post args (.bool Δ) args=Δ:=
 postW_of (r:=l.row.toRowW) (X:=(Δ == Δ))
  (show WShape.has [] (.bool Δ) .bool=Δ by first|rfl|decide|simp[WShape.has,WShape.arms,WShape.armsAll])
  (show(WTm.eq .res (.lit (.bool Δ))).value [] {args:=args,res:=Β (.bool Δ),after:=args}=Β (.bool (Δ == Δ)) from w_eq_bool (w_res Λ) w_lit) Λ
theorem HE{l:Tu}
  (B:l.most=Β n) (C:d.params.defaults=[])
  (call:∀(w:Ϭ)(c b:ϊ)(m u:Str->Option Ρ)(i:Ν)(o:Obj)(v p e:Ρ)(a:Ν)(h:List Ρ)(s:List Int),
   Ground q loose [] XP w c m u b.heap->YP w b.heap->
   b.heap.get? i=Β o->o.data=.func (docDef d.name d.params d.body d.scope v p e)->b.heap.CodeRec p d.name->m d.name=Β (.ref i)->
   b.heap.get? a=Β {cls:=.type "list",data:=.seq h.toArray}->pD h s->s.length<=n->b.gens=#[]->
   ō (ϩ l.prog w) nI (.call (.ref i) ⟨[.ref a],[]⟩) (λr t=>r=.ok (.ret (.bool Δ))/\OldK b.heap t.heap/\t.os=b.os/\ū t.gens) b):
  WalkO q loose XP YP l.row.toRowW d [] (λf h=>PySem.call f h):=by
 intro w c b m u G Y i o v p e dV kV D E F y x H args z as I A J K R
 obtain rfl:dV=.none:=Dflts.none y C
 obtain rfl:kV=.none:=Dflts.noKw y
 obtain⟨a,h,s,rfl,rfl,L,g,j⟩:=uN B I K
 refine enter_call (nF (call w c b m u i o v p e a h s G Y D (fd_plain E) F x L g j H) λr t M=>?_)
 obtain⟨rfl,N,O,P⟩:=M
 exact⟨.inl ⟨.bool Δ,.bool Δ,[],Λ,λ_=>rfl,.bool Δ,uR l _,λ_=>⟨š,λ_ Q=>(nomatch Q)⟩⟩,N,O,P⟩
section
variable {prog:Program}{w:Ϭ}{A:Ð}{E:Ρ->ϊ->Prop}{s:ϊ}{K:ϣ}
end
end Att
namespace L2
open PySem PySem.Spec PyProof.Rows
theorem mP:∀{a:List Ρ}{b:List Int},pD a b->υ (b.map V.int) a
 |_,_,.nil =>.nil
 |_,_,.cons n t h =>.cons ⟨t,Λ⟩ (mP h)
def DL(H:Hp):Prop:=∀b,H b=Γ∨∃o xs,H b=Β (.Fq o (.ρ xs))
theorem yn{K:ϣ}
  (D:K.In s₁.heap) (E:s₁.heap.Ns ϡ mg) (c:s₁.heap.Ns So mb) (A:∀x:Str,x≠ "__name__"->mb x=ě x) (Q:s₁.heap.NoLimit) (R:s₁.gens=#[])
  (t:s₁.heap.get? a=Β {cls:=.type "list",data:=.seq vs.toArray}) (G:pD vs ns) (I:ns.length<=Χ) (S:DZ k nI)
  (F:∀ν:Ù,K.In ν->ν.Ns ϡ mg->DQ P w K mg ν CX k fa fd [x] sp) (T:∀(s:ϊ)(u:Ρ),Jo s fd ⟨[u],[]⟩ [(x,u)])
  (U:∀H:Hp,DL H->DS K H a (ns.map V.int)->sp [.ref a] H (λv _=>v=.bl Δ) λ_ _ _=>False)
  (X:∀H e f,CX [] H s₁ (λ_ _ _=>False) e f->False):
  ō (ϩ P w) nI (.call (.ref fa) ⟨[.ref a],[]⟩) (λr f=>r=.ok (.ret (.bool Δ))/\OldK s₁.heap f.heap/\f.os=s₁.os/\ū f.gens) s₁:=by
 have J:=mP G
 have Y:=G.length
 have core:∀H:Hp,DL H->DS K H a (ns.map V.int)->Ft P w H s₁.heap->(∀b,H b≠Γ->b=a)->(H a≠Γ->K.lookup a=Γ)->
   ō (ϩ P w) nI (.call (.ref fa) ⟨[.ref a],[]⟩) (λr f=>r=.ok (.ret (.bool Δ))/\OldK s₁.heap f.heap/\f.os=s₁.os/\ū f.gens) s₁:=by
  intro H L Z M N hK
  have base_of:∀{b:Ν}{o:Obj},s₁.heap.get? b=Β o->H b=Γ->(pw s₁.heap H).get? b=Β o:=λe n=>yy e n
  have PL:∀{b:Ν}{o:Obj}{g:Array DictEntry}{i:Nat},s₁.heap.get? b=Β o->o.data=.dict g i->H b=Γ:=λ{b o g i} e d=>by
   cases q:H b with
   |none=>rfl
   | some u =>
    have B:=N b (by rw[q];simp)
    subst B
    rw[t]at e;cases e
    have d':=d
    cases d'
  have y:∀{b:Ν}{m:Str->Option Ρ},s₁.heap.Ns b m->(pw s₁.heap H).Ns b m:=λ{b m} ⟨o,g,i,e,d,r⟩=>⟨o,g,i,base_of e (PL e d),d,r⟩
  have j:=λb o e=>base_of (D b o e) (by
   cases q:H b with
   |none=>rfl
   | some u =>
    have B:=N b (by rw[q];simp)
    subst B
    rw[hK (by rw[q];simp)]at e;cases e)
  have hM:Mod K mg (pw s₁.heap H):=⟨j,y E,⟨mb,y c,A⟩,let ⟨mc,h1,h2⟩:=Q;⟨mc,y h1,h2⟩⟩
  have e0:Ir P w K mg (pw s₁.heap H) nI [] s₁ H:=⟨Λ,hM,λb o e=>Aq e,U6 (vp _ _),trivial,λb c=>Κ (show b∈([]:List Ν) from c) (by simp),M,.of_eq R⟩
  refine nF ((F _ j (y E)).run nI [] s₁ H ⟨[.ref a],[]⟩ [.ref a] [.ref a] _ _ S e0 (T s₁ (.ref a)) (.cons Λ .nil) (U H L Z)) λr f h=>?_
  cases r with
  |error e=>exact(X H e f h).elim
  | ok fl =>
   cases fl with
   |next=>exact î h
   |brk=>exact î h
   |cont=>exact î h
   | ret u =>
    obtain⟨v,H',os,l,un,W9,r',q⟩:=h
    have q':=q
    subst q'
    obtain rfl:u=Lf Δ:=r'
    refine⟨Λ,OldK.of_keep λb o e=>?_,os,l⟩
    cases q:H b with
    |none=>exact un.keep b o e q (by intro z;exact Κ (show b∈([]:List Ν) from z) (by simp)) (by simp)
    | some u =>
     rcases L b with z|⟨ob,xs,z⟩
     ·rw[q]at z;cases z
     ·have z2:=un.G5 b ob _ z
      obtain⟨O,_⟩:=M b _ z
      obtain⟨e2,_⟩:=W9 b _ z2
      rw[e]at O;cases O
      exact e2
 cases C:K.lookup a with
 | some o =>
  have e:=D a o C
  rw[t]at e
  cases e
  refine core (λ_=>Γ) (λ_ =>.inl Λ) (.inr ⟨_,vs.toArray,_,C,Λ,Λ,Λ,by rw[ϭ,Y];exact I,by simpa using J⟩) (λb u z=>by have p:=z;cases p) (λb z=>Κ Λ z) λz=>Κ Λ z
 | none =>
  refine core (λb=>if b=a then Β (.Fq {cls:=.type "list",data:=.seq vs.toArray} (.ρ (ns.map V.int))) else Γ) (λb=>?_) (.inl (.inr ⟨{cls:=.type "list",data:=.seq vs.toArray},Ι Λ⟩)) (λb u z=>?_) (λb z=>?_) λ_=>C
  ·by_cases c:b=a
   ·exact .inr ⟨_,_,Ι c⟩
   ·exact .inl (Θ c)
  ·by_cases c:b=a
   ·have p:=(Ι c).symm.trans z
    cases p
    subst c
    exact⟨t,by rw[Ο];exact I,vs,_,J,t⟩
   ·have p:=(Θ c).symm.trans z
    cases p
  ·by_cases c:b=a
   ·exact c
   ·exact Κ (Θ c) z
theorem Gz{l:PySem.W.OpenLaw}{K:Params->ϣ}{CX:Ϭ->uC}{sp:Ϭ->Sp}
  (D:l.most=Β n) (E:n<=Χ) (I:d.params.defaults=[]) (J:DZ k nI)
  (L:∀(w:Ϭ)(h:Ù),YP w h->(K w.params).In h)
  (F:∀(w:Ϭ)(j:Str->Option Ρ)(p:Ν)(h:Ù),(K w.params).In h->h.Ns ϡ j->j d.name=Β (.ref p)->
   ∃t:Ñ,(∀(s:ϊ)(u:Ρ),Jo s t ⟨[u],[]⟩ [(x,u)])/\
    ∀ν:Ù,(K w.params).In ν->ν.Ns ϡ j->DQ l.prog w (K w.params) j ν (CX w) k p t [x] (sp w))
  (M:∀(w:Ϭ)(H:Hp)(a:Ν)(r:List Int),r.length<=n->DL H->DS (K w.params) H a (r.map V.int)->sp w [.ref a] H (λv _=>v=.bl Δ) λ_ _ _=>False)
  (N:∀(w:Ϭ)(H:Hp)(s:ϊ)(e:Ρ)(y:ϊ),CX w [] H s (λ_ _ _=>False) e y->False):
  PySem.W.WalkO q loose XP YP l.row.toRowW d [] (λf A=>PySem.call f A):=by
 refine Att.HE D I λw B m j Z p o pm cd O a A r G Y ho hd Jm z P i c Q=>?_
 have C:=L w _ Y
 obtain⟨t,R,S⟩:=F w j p _ C G.T.g z
 exact yn C G.T.g G.T.b G.T.builtins G.T.nolimit Q P i (Î c E) J S R (λH U X=>M w H a r c U X) λH e y=>N w H m e y
noncomputable def aL(s:Ã)(j:Nat):Ã:=match s with
 |.ClassDef _ _ _ body _ _ _ _ _ _ _=>body.getD j (.Pass ⟨0,0,0,0⟩)
 |_ =>.Pass ⟨0,0,0,0⟩
noncomputable def c7(s:Ã):Arguments:=match s with
 |.FunctionDef _ a _ _ _ _ _ _ _ _=>a
 |_=>{posonlyargs:=[],args:=[],vararg:=Γ,kwonlyargs:=[],kw_defaults:=[],kwarg:=Γ,defaults:=[]}
noncomputable def aJ(s:Ã):List Ã:=match s with
 |.FunctionDef _ _ b _ _ _ _ _ _ _=>b
 |_=>[]
noncomputable def aj(s:Ã):Scope:=match s with
 |.FunctionDef _ _ _ _ _ _ sc _ _ _=>sc
 |_=>zQ0
abbrev aB:uC:=λ_ _ _ _ _ _=>False
abbrev E0:XK:=λ_ _ _=>False
theorem ao:gF aB X E0:=λ_ _ _ _ _ _ _ h=>h.elim
structure Et(K:ϣ)(x qual:Str)(st:Ã)(f:Ν)(fd:Ñ):Prop where
 ex:∃(oc:Ρ)(od:Option Ν)(kV doc pm:Ρ)(an:Option Ν)(cdv ct:Ρ)(IV:Array (Option Ρ)),
  fd=gy x qual (c7 st) (aJ st) (aj st) .none kV doc pm an cdv ct/\K.lookup f=Β ⟨oc,od,.func fd,IV⟩/\hF K cdv qual=Δ
 kp:ϳ K (.ref f)=Δ
section
variable {P:Program}{w:Ϭ}{K:ϣ}{mg:Str->Option Ρ}{ν:Ù}
theorem Et.ok{d:Ã}(F:Et K x qual d f fd)(S:ar N ps (aj d))
  (e:∀(b:Ρ)(A:Ð)(a:List Env)(s:ϊ)(H:Hp)(c:List V)(Q:VK)(E:XK),DZ k (A.deeper (ź qual (aj d) s.heap.objs.size f b))->sp c H Q E->
   ∃t,IT (sL aB P w K mg ν N qual (aj d) f b A a s H E).O3 (aJ d) t/\t {nx:=λ_ g=>Q .Eg g,rt:=Q} (start N c) H)(len:∀c H Q E,sp c H Q E->c.length=ps.length:=by intro _ _ _ _ h;repeat first|(subst_vars;rfl)|obtain⟨_,h⟩:=h):DQ P w K mg ν aB (k+1) f fd ps sp:=by
 obtain⟨o,p,kV,i,r,an,b,u,v,rfl,lk,j⟩:=F.ex
 refine BB lk j S len λA a s H c Q E l m=>?_
 obtain⟨t,h,q⟩:=e b A a s H c Q E l m
 exact⟨t,h.O3,q⟩
theorem Et.binds{c:Ã}(F:Et K x qual c f fd)
  (h:∀(kV a d:Ρ)(an:Option Ν)(b e:Ρ)(us:List Ρ),us.length=ps.length->Qy (gy x qual (c7 c) (aJ c) (aj c) .none kV a d an b e) ⟨us,[]⟩=pure (ps.zip us)):Binds K fd ps []:=by
 obtain⟨g,i,kV,a,d,an,b,e,j,rfl,lk,l⟩:=F.ex
 exact .all (h kV a d an b e)
theorem lQ{st:Ã}{kV b d a e:Ρ}(l:K.lookup f=Β ⟨oc,od,.func (gy x qual (c7 st) (aJ st) (aj st) .none kV b d an a e),IV⟩)
  (c:hF K a qual=Δ) (k:ϳ K (.ref f)=Δ):Et K x qual st f (gy x qual (c7 st) (aJ st) (aj st) .none kV b d an a e):=⟨⟨oc,od,kV,b,d,an,a,e,IV,Λ,l,c⟩,k⟩
end
theorem yw(a:DZ k A):A.units+1<í:=ă (Đ (by decide:1<=64) _) a.units
section
variable {X:Cx}
theorem pv(i:Nat)(a:autoParam (X.N[i]?=Β x) η)(b:Uv X.env.scope x:=by first|exact ύ Λ|exact ġ (ύ Λ)|exact ġ (ġ Λ))(c:autoParam ((x == ("__debug__":Str))=Ε) θ)
  (d:autoParam ((x == ("__classdict__":Str))=Ε) θ):PE X (.Name x pos) (jQ i):=Cu a b c d
end
theorem aG{A B:Prop}(h:B):if Ε=Δ then A else B:=by
 rw[Θ Ϝ]
 exact h
theorem aK{A B:Prop}(h:A):if Δ=Δ then A else B:=by
 rw[Ι Λ]
 exact h
theorem AC{c A B:Prop}[Decidable c](a:c->A)(b:¬c->B):if c then A else B:=by
 by_cases h:c
 ·rw[Ι h]
  exact a h
 ·rw[Θ h]
  exact b h
def DP(H H':Hp):Prop:=∀b o,H b=Β o->H' b=Β o
theorem DP.refl(H:Hp):DP H H:=λ_ _ h=>h
theorem DP.trans(a:DP H H1)(b:DP H1 H2):DP H H2:=λc o h=>b c o (a c o h)
theorem DP.free(e:DP H H')(h:H' l=Option.none):H l=Option.none:=by
 cases q:H l with
 |none=>rfl
 | some o =>
  rw[e l o q]at h
  cases h
theorem DP.seq{K:ϣ}(e:DP H H')(h:DS K H a xs):DS K H' a xs:=by
 rcases h with (h|⟨o,h⟩)|h
 ·exact .inl (.inl (e _ _ h))
 ·exact .inl (.inr ⟨o,e _ _ h⟩)
 ·exact .inr h
end L2
namespace Yd
open PySem
theorem sO(a b:Nat):ù (a:Int) (b:Int)=((a&&& b:Nat):Int):=by
 unfold ù
 simp
theorem dR(x:Int):ğ x= -x - 1:=by
 unfold ğ
 omega
theorem GY(a b:Nat):ň (a:Int) (b:Int)=((a|||b:Nat):Int):=by
 unfold ň
 have c:ğ (a:Int)= -(a:Int) - 1:=dR _
 have d:ğ (b:Int)= -(b:Int) - 1:=dR _
 unfold ù
 rw[c,d]
 have e:decide (0<= -(a:Int) - 1)=Ε:=Η (by omega)
 have f:decide (0<= -(b:Int) - 1)=Ε:=Η (by omega)
 rw[e,f]
 simp only[]
 have g:ğ (-(a:Int) - 1)=a:=by rw[dR];omega
 have h:ğ (-(b:Int) - 1)=b:=by rw[dR];omega
 rw[g,h]
 simp only[ϋ]
 rw[dR,dR]
 omega
noncomputable def Fj:List Nat->Nat->Nat
 |[],s=>s
 |n:: r,s=>Fj r (s|||2^n)
theorem FF(k:Nat):∀(l:List Nat)(s:Nat),(Fj l s).testBit k=(s.testBit k||decide (k∈l))
 |[],s=>by simp[Fj]
 | n:: r,s=>by
  unfold Fj
  rw[FF k r]
  rw[JJ,HI]
  by_cases h:n=k
  ·subst h;simp
  ·have:¬k=n:=λz=>h z.symm
   simp[h,this]
theorem Kf(l r:List Nat)(s:Nat):Fj (l++r) s=Fj r (Fj l s):=by
 induction l generalizing s with
 |nil=>rfl
 |cons n t a=>exact a _
noncomputable def mF(l:List Nat):Nat->Nat
 |0=>0
 |n+1=>if n∈l then mF l n+2^n else mF l n
theorem Ho(l:List Nat):∀n,mF l n<2^n
 |0=>by simp[mF]
 | n+1=>by
  have:=Ho l n
  unfold mF
  rw[Nat.pow_succ]
  split<;>omega
theorem qO(l:List Nat)(k:Nat):∀n,(mF l n).testBit k=decide (k<n/\k∈l)
 |0=>by simp[mF]
 | n+1=>by
  have b:=qO l k n
  have c:=Ho l n
  unfold mF
  by_cases a:n∈l
  ·rw[Ι a,Nat.add_comm]
   rcases Lh k n with h|h|h
   ·rw[Nat.testBit_two_pow_add_gt h,b]
    simp[h,eH h]
   ·subst h
    rw[Nat.testBit_two_pow_add_eq,hW c]
    simp[a]
   ·have d:2^n+mF l n<2^k:=by
     have:2^(n+1)<=2^k:=Ľ (by decide) h
     rw[Nat.pow_succ]at this
     omega
    rw[hW d]
    have:¬k<n+1:=by omega
    simp[this]
  ·rw[Θ a,b]
   by_cases h:k=n
   ·subst h;simp[a]
   ·have:k<n↔k<n+1:=by omega
    simp[this]
theorem Lk(h:∀k∈l,k<n):mF l n=Fj l 0:=by
 apply Nat.eq_of_testBit_eq
 intro k
 rw[qO,FF]
 by_cases a:k∈l
 ·simp[a,h k a]
 ·simp[a]
noncomputable def Iw(m b:Nat):List Nat:=(ό b).filter λk=>m.testBit k
theorem HF(h:m<2^b):k∈Iw m b↔m.testBit k=Δ:=by
 unfold Iw
 rw[Å,Ë]
 constructor
 ·exact λz=>z.2
 ·intro z
  refine⟨?_,z⟩
  by_cases a:k<b
  ·exact a
  ·have:m<2^k:=Ϥ h (Ľ (by decide) (by omega))
   rw[hW this]at z
   cases z
theorem Jn(m b:Nat):(Iw m b).Pairwise (· < ·):=ll _ Jq
theorem IW(m:Nat):m<2^(Ó (m:Int)):=by
 unfold Ó
 by_cases h:m=0
 ·subst h;simp
 ·have e:((m:Int) == 0)=Ε:=by simp[h]
  rw[e]
  simp only[à,if_false,Pq]
  exact Nat.lt_log2_self
theorem bits_le{m b:Nat}(h:m<2^b):Ó (m:Int)<=b:=by
 unfold Ó
 by_cases a:m=0
 ·subst a;simp
 ·have e:((m:Int) == 0)=Ε:=by simp[a]
  rw[e]
  simp only[à,if_false,Pq]
  have:=(Nat.log2_lt a).mpr h
  omega
theorem IX(m k:Nat):decide (ù ((m:Int) / 2^k) 1=1)=m.testBit k:=by
 have e:((m:Int) / 2^k)=((m / 2^k:Nat):Int):=by
  rw[Int.natCast_ediv,Ry]
  rfl
 rw[e,show (1:Int)=((1:Nat):Int) from Λ,sO,Nat.testBit_eq_decide_div_mod_eq]
 rw[Nat.and_one_is_mod]
 congr 1
 exact propext ⟨λz=>by exact_mod_cast z,λz=>by exact_mod_cast z⟩
end Yd
namespace L2
open PySem PySem.Spec PyProof.Rows
noncomputable def cQ(cells:List (Str×Ν)):List (Str×Ģ)->List (Str×Ν)->List (Str×Ν)
 |[],acc=>acc
 |(n,k):: r,acc=>if k == .free then cQ cells r ((n,(cells.lookup n).getD 0):: acc) else cQ cells r acc
theorem hG(h:∀y∈scope.names,y.2=.free->∃c,env.cells.lookup y.1=Β c):
  closureFor scope env=pure (cQ env.cells scope.names []):=by
 unfold closureFor
 have j:∀(b:List (Str×Ģ))(acc:List (Str×Ν)),(∀y∈b,y.2=.free->∃c,env.cells.lookup y.1=Β c)->
   (forIn b acc λ(x:Str×Ģ)(p:List (Str×Ν))=>(match x with
    | (name,kind)=>if (kind == ā)=Δ then do
      let c ← cellOf env name
      pure (œ ((name,c):: p))
     else pure (œ p):Sem (ForInStep (List (Str×Ν)))))=(pure (cQ env.cells b acc):Sem (List (Str×Ν))):=by
  intro b
  induction b with
  |nil=>intro acc _;rfl
  | cons y r q =>
   intro acc l
   obtain⟨n,k⟩:=y
   rw[S7]
   by_cases g:(k == ā)=Δ
   ·obtain⟨c,i⟩:=l (n,k) ϟ (by simpa using g)
    have s:cellOf env n=pure c:=by
     unfold cellOf
     simp only[]at i
     rw[i]
    simp only[g,if_true,s,pure_bind]
    rw[q _ λz o=>l z (ϧ _ o)]
    unfold cQ
    simp only[]at i
    rw[Ι g,i]
    conv=>rhs;unfold cQ
    rfl
   ·simp only[g,à,if_false,pure_bind]
    rw[q _ λz o=>l z (ϧ _ o)]
    conv=>rhs;unfold cQ
    rw[Θ g]
 exact(congrArg (λ(m:Sem (List (Str×Ν)))=>m >>=λz=>pure z) (j scope.names [] h)).trans (pure_bind _ _)
theorem eQ:∀(a:List (Str×Ģ))(acc:List (Str×Ν)),(∀y∈a,y.2=.free->∃c,cells.lookup y.1=Β c)->
  (∀c,acc.lookup x=Β c->cells.lookup x=Β c)->(cQ cells a acc).lookup x=Β c->cells.lookup x=Β c
 |[],acc,_,ha,e=>ha c e
 | (n,k):: r,acc,hn,ha,e=>by
  unfold cQ at e
  have d:=λz g=>hn z (ϧ _ g)
  split at e
  ·rename_i hk
   refine eQ r _ d (λh b=>?_) e
   rw[ð]at b
   split at b
   ·rename_i hx
    have i:x=n:=by simpa using hx
    subst i
    obtain⟨j,f⟩:=hn (x,k) ϟ (by simpa using hk)
    simp only[]at f
    rw[f]at b⊢
    exact b
   ·exact ha h b
  ·exact eQ r acc d ha e
theorem fO:∀(a:List (Str×Ģ))(acc:List (Str×Ν)),((x,ā)∈a∨∃c,acc.lookup x=Β c)->
  ∃c,(cQ cells a acc).lookup x=Β c
 | [],acc,h=>by
  rcases h with h|h
  ·cases h
  ·exact h
 | (n,k):: r,acc,h=>by
  unfold cQ
  split
  ·rename_i hk
   refine fO r _ ?_
   rcases h with h|⟨c,h⟩
   ·rcases Ϯ.mp h with h|h
    ·refine .inr ⟨(cells.lookup n).getD 0,?_⟩
     injection h with b d
     rw[ð,b]
     simp
    ·exact .inl h
   ·refine .inr ?_
    rw[ð]
    split
    ·exact⟨_,Λ⟩
    ·exact⟨c,h⟩
  ·rename_i hk
   refine fO r _ ?_
   rcases h with h|h
   ·rcases Ϯ.mp h with h|h
    ·injection h with b d
     subst d
     exact Κ Λ hk
    ·exact .inl h
   ·exact .inr h
theorem iK{b:Env}{x:Str}:∀{a:List (Str×Ģ)},a.lookup x=Β .free->
  (a.map λ(n,k)=>if (k == ā&& b.scope.kind == .function&& b.kindOf n == Β .cell) then (n,mu) else (n,k)).lookup x=Β .cell∨
  (a.map λ(n,k)=>if (k == ā&& b.scope.kind == .function&& b.kindOf n == Β .cell) then (n,mu) else (n,k)).lookup x=Β .free
 |[],h=>by simp at h
 | (n,k):: r,h=>by
  have d:=@iK b x r
  rw[Ç]
  cases c:x == n with
  | true =>
   rw[ð,c]at h
   cases h
   simp only[]
   split
   ·left;rw[ð,c]
   ·right;rw[ð,c]
  | false =>
   rw[ð,c]at h
   simp only[]
   split
   ·rw[ð,c];exact d h
   ·rw[ð,c];exact d h
theorem fZ{b:Env}{x:Str}{k:Ģ}(d:k=.cell∨k=.free):∀{a:List (Str×Ģ)},(∀y∈a,y.2≠.cell)->
  (a.map λ(n,k)=>if (k == ā&& b.scope.kind == .function&& b.kindOf n == Β .cell) then (n,mu) else (n,k)).lookup x=Β k->(x,ā)∈a
 |[],_,h=>by simp at h
 | (n,k'):: r,hc,h=>by
  have f:=@fZ b x k d r λy i=>hc y (ϧ _ i)
  rw[Ç]at h
  simp only[]at h
  cases c:x == n with
  | true =>
   have e:x=n:=by simpa using c
   subst e
   split at h
   ·rename_i q
    have j:k'=.free:=by
     have:=(Ö _ _▸q:_/\_).1
     have:=(Ö _ _▸this:_/\_).1
     simpa using this
    rw[j]
    exact ϟ
   ·rw[ð,c]at h
    have g:=Ψ h
    rcases d with z|z
    ·exact Κ (g.trans z) (hc (x,k') ϟ)
    ·rw[g,z];exact ϟ
  | false =>
   split at h
   ·rw[ð,c]at h;exact ϧ _ (f h)
   ·rw[ð,c]at h;exact ϧ _ (f h)
section
variable {prog:Program}{w:Ϭ}{A:Ð}{R:Result->ϊ->Prop}{s:ϊ}
abbrev om(ifs:List Expr)(env:Env):Sem Bool:=
 forIn ifs Δ λc r=>if r=Δ then do let ok ← isTrue c env (eval c env);pure (œ ok) else pure (œ r)
theorem qV(I:Nat->ϊ->Prop)
  (turn:∀n s,I n s->ϫ (ϩ prog w) A (pyNext it) (λr a=>match r with
   |none=>R (.ok .next) a
   | some v=>ϫ (ϩ prog w) A (Ň tg it v) (λ_ c=>ϫ (ϩ prog w) A (assign tg env v) (λ_ d =>
     ϫ (ϩ prog w) A (om ifs env) (λok b =>
      if ok=Δ then ϫ (ϩ prog w) A (eval elt env) (λx f =>
       ϫ (ϩ prog w) A (call (.builtin "list.append") [acc,x]) (λ_ g=>∃m,m<n/\I m g) (λ_ _=>False) f) (λ_ _=>False) b
      else ∃m,m<n/\I m b) (λ_ _=>False) d) (λ_ _=>False) c) (λ_ _=>False) a) (λ_ _=>False) s)
  (n:Nat) (h:I n s):ō (ϩ prog w) A (.compLoop (.ListComp elt [⟨tg,iter,ifs,0⟩] scope pos) 0 it acc env) R s:=by
 refine codeAny_loop Λ I (λn s l=>?_) n h
 have no:∀{o:Ρ->ϊ->Prop}(e:Ρ)(p:ϊ),False->o e p:=λ_ _ z=>z.elim
 show ϫ _ A (Sem.onRaise (compTurn (.ListComp elt [⟨tg,iter,ifs,0⟩] scope pos) 0 it acc env) λx=>do
  noteFrame x env
  theTreesLotGoes x) _ _ s
 refine wpAny_noted ?_
 rw[compTurn_list]
 refine Τ (KC (Τ (ò (turn n s l) (λr a i=>?_) no)))
 cases r with
 |none=>exact Ϛ i
 | some v =>
  refine Τ (ò i (λ_ c q=>?_) no)
  refine Τ (ò q (λ_ d t=>?_) no)
  refine Τ (ò t (λok b j=>?_) no)
  cases ok with
  |false=>exact Ϛ ⟨Λ,j⟩
  | true =>
   refine Τ (Τ (ò j (λx f u=>?_) no))
   exact Τ (ò u (λ_ g y=>Ϛ (Ϛ ⟨Λ,y⟩)) no)
end
def PY(X:Cx)(ifs:List Expr)(t:TT):Prop:=
 ∀(ο:List (Ν×Obj))(s:ϊ)(σ:St)(H:Hp)(Q:Bool->Hp->Prop),τ X ο σ H s->t σ H Q->ϫ (ϩ X.prog X.w) X.A (om ifs X.env) (TP X ο σ Q) X.xe s
def pR:TT:=λ_ H Q=>Q Δ H
theorem bX:PY X [] pR:=λ_ _ _ H _ I h=>Ϛ ⟨H,I,h⟩
theorem cX(h:PT X c t):PY X [c] t:=λa s d H Q I e=>by
 simp only[om,S7,List.forIn_nil,if_true]
 exact Τ (Τ (bj (h a s d H Q I e) λb g f=>Ϛ (Ϛ f)))
structure EV(N:List Str)(sc scope:Scope)(capN:List Str)(cap:List Nat):Prop where
 kind:scope.kind=.function
 Iy:∀y∈scope.names,y.2≠.cell
 loc:∀y∈scope.names,y.2=.local->scope.names.lookup y.1=Β .local
 free:∀y∈scope.names,y.2=.free->sc.names.lookup y.1=Β .cell∨sc.names.lookup y.1=Β .free
 len:cap.length=capN.length
 cap:∀p∈capN.zip cap,scope.names.lookup p.1=Β .free/\N[p.2]?=Β p.1
abbrev cG(X:Cx)(scope:Scope)(N:List Str)(C:Ν)(s:ϊ)(H:Hp)(fp:List Ν):Cx:=
 {X with N:=N,s₀:=s,H₀:=H,env:=compEnvC scope (cQ X.env.cells scope.names []) C X.env,outer:=X.stack,stack:=X.stack,ex:=fp,fn:=λ_=>Ε,pn:=[],xe:=λ_ _=>False}
noncomputable def jC(n:Nat)(cap:List Nat)(σ:St):St:=Ϫ n Γ++cap.map λj=>(σ[j]?).join
theorem qZ(n:Nat)(a:List Nat)(b:St):(jC n a b).length=n+a.length:=by simp[jC]
section
variable {X:Cx}{ο:List (Ν×Obj)}{σ:St}{H:Hp}{s:ϊ}{scope:Scope}{own capN:List Str}{cap:List Nat}{fp:List Ν}
theorem EV.Nb(B:EV X.N X.env.scope scope capN cap)(ok:X.Ok):∀y∈scope.names,y.2=.free->∃c,X.env.cells.lookup y.1=Β c:=λy a b=>ok.has y.1 (B.free y a b)
theorem EV.cell(B:EV X.N X.env.scope scope capN cap)(ok:X.Ok)(h:(cQ X.env.cells scope.names []).lookup x=Β c):X.env.cells.lookup x=Β c:=
 eQ scope.names [] (B.Nb ok) (λ_ e=>by cases e) h
theorem EV.locs(I:τ X ο σ H s)(B:EV X.N X.env.scope scope capN cap)(k:∀x c v,X.env.cells.lookup x=Β c->s.heap.IsCell c v->h'.IsCell c v)(C:Ν)(w:Str->Option Ρ):
  ∀(i:Nat)(x:Str)(v:V),(own++capN)[i]?=Β x->(jC own.length cap σ)[i]?=Β (Β v)->∃u,RelV v u/\Look (compEnvC scope (cQ X.env.cells scope.names []) C X.env) h' w x u:=by
 intro i x v y a
 have o:own.length<=i:=by
  by_cases q:own.length<=i
  ·exact q
  ·unfold jC at a
   rw[Ϙ (by simp;omega),ü,Ι (by omega)]at a
   cases a
 have g:capN[i - own.length]?=Β x:=by
  rwa [ø o]at y
 unfold jC at a
 rw[ø (by simpa using o),é,ϝ]at a
 cases h:cap[i - own.length]? with
 |none=>rw[h]at a;cases a
 | some j =>
  rw[h]at a
  have e:(σ[j]?).join=Β v:=Ψ a
  have l:σ[j]?=Β (Β v):=by
   cases q:σ[j]? with
   |none=>rw[q]at e;cases e
   |some u=>rw[q]at e;exact congrArg Β e
  have A:(x,j)∈capN.zip cap:=by
   refine List.mem_iff_getElem?.mpr ⟨i - own.length,?_⟩
   rw[zz]
   exact⟨g,h⟩
  obtain⟨p,D⟩:=B.cap (x,j) A
  have b:=PySem.mem_of_lookup p
  have r:=B.free _ b Λ
  obtain⟨m,J,E⟩:=I.loc
  obtain⟨u,F,lk⟩:=E j x v D l (r.elim (λz =>.inr (.inl z)) λz =>.inr (.inr z))
  refine⟨u,F,.inr ⟨iK p,?_⟩⟩
  rcases lk with ⟨q,_⟩|⟨_,c,t,G⟩
  ·have f:X.env.scope.names.lookup x=Β .local:=q
   rcases r with z|z
   ·rw[z]at f;cases f
   ·rw[z]at f;cases f
  ·obtain⟨K,d⟩:=fO (cells:=X.env.cells) (x:=x) scope.names [] (.inl b)
   have:=B.cell I.ok d
   rw[t]at this
   cases this
   exact⟨c,d,k x c _ t G⟩
theorem τ.blk{C:Ν}(I:τ X ο σ H s)(B:EV X.N X.env.scope scope capN cap)(f:s.heap.objs.size<=C)(k:∀b o,s.heap.get? b=Β o->h4.get? b=Β o)
  (l:h4.Ns C m0) (g:∀b∈fp,fR X ο H b) (m:∀b∈fp,b<s.heap.objs.size):
  τ (cG X scope (own++capN) C s H fp) [] (jC own.length cap σ) H {s with heap:=h4,toks:=tk}:=by
 have r:∀b∈fp,b∉ur X.stack:=λb a z=>by
  obtain⟨_,t,u,_⟩:=g b a
  rcases Ϯ.mp (I.Hj b z) with e|e
  ·exact t e
  ·exact u e
 have d:∀x,((relabel scope X.env).names.lookup x=Β .cell∨(relabel scope X.env).names.lookup x=Β .free)->(x,ā)∈scope.names:=λx h=>by
  rcases h with q|q
  ·exact fZ (.inl Λ) B.Iy q
  ·exact fZ (.inr Λ) B.Iy q
 refine⟨⟨I.ok.mod,B.kind,I.ok.glob,I.ok.blt,f,λx y c w A=>I.ok.inj x y c (B.cell I.ok w) (B.cell I.ok A),λx h=>fO scope.names [] (.inl (d x h)),λ_ _ z=>Κ z Ϝ,I.ok.hd,I.ok.frames,.inl Λ,
  λb a=>⟨Ê (Ϥ (m b a) f),λx c e=>(g b a).2.2.2.2.1 x c (B.cell I.ok e)⟩,I.bs,Î I.ok.Lc I.sz,λb o e a=>?_,λb a=>r b a,I.stack,I.IS⟩,
  rfl,I.bare,Un.kept k,⟨m0,l,λi x v D E _=>B.locs I (λ_ _ _ _ q=>q.keeps k) C m0 i x v D E⟩,λx c e=>?_,I.DW.fresh f,λx c e=>I.ED x c (B.cell I.ok e),λp F=>Κ (F) (by simp),I.DW.kept k,?_⟩
 ·rcases (g b a).2.2.2.1 with z|z
  ·exact I.ok.JY b o e z
  ·exact Κ (Ϥ (lt_size e) (Î I.ok.Lc z)) (Ĭ _)
 ·obtain⟨v,q⟩:=I.cell x c (B.cell I.ok e)
  exact⟨v,q.keeps k⟩
 ·show(jC own.length cap σ).length=(own++capN).length
  rw[qZ,Υ,B.len]
theorem τ.reset{a:St}(I:τ X ο σ H s)(B:EV X.N X.env.scope scope capN cap)(f:∀b∈fp,fR X ο H b)(J:τ (cG X scope (own++capN) C s H fp) HB a H' s'):
  τ (cG X scope (own++capN) C s H fp) HB (jC own.length cap σ) H' s':=by
 obtain⟨m,g,_⟩:=J.loc
 refine⟨J.ok,J.os,J.bare,J.ν,⟨m,g,λi x v h j _=>?_⟩,J.cell,J.free,J.ED,J.pin,J.DW,?_⟩
 ·refine B.locs I (λy c t d l=>?_) C m i x v h j
  obtain⟨o,p,q⟩:=l
  have r:=λz=>(f c z).2.2.2.2.1 y c d Λ
  obtain⟨u,e⟩:=J.ν.any p (I.ED y c d) r
  exact⟨_,e,q⟩
 ·show(jC own.length cap σ).length=(own++capN).length
  rw[qZ,Υ,B.len]
theorem τ.adopt(I:τ X ο σ H s)(g:H D=Γ)(h:X.s₀.heap.objs.size<=D)(i:D≠X.env.locals)(j:∀x c,X.env.cells.lookup x=Β c->c≠D)(l:∀p∈X.pn++ο,p.1≠D)
  (new:Er X.prog X.w (π H D o) s.heap D o):τ X ο σ (π H D o) s:=by
 have ne:∀b u,H b=Β u->b≠D:=λb u e=>ag e g
 refine⟨I.ok,I.os,I.bare,⟨I.ν.keep,I.ν.slot,λb a e n m=>?_,I.ν.there,λb xs e=>?_,λb a u e=>?_,λb ps e=>?_⟩,I.loc,I.cell,?_,λx c e=>?_,λp d=>?_,λb u e=>?_,I.len⟩
 ·rw[af (Ê (Ϥ (lt_size e) h))]
  exact I.ν.free b a e n m
 ·have q:=I.ν.GH b xs e
  rw[af (ne b _ q)];exact q
 ·have q:=I.ν.G5 b a u e
  rw[af (ne b _ q)];exact q
 ·obtain⟨more,q⟩:=I.ν.GI b ps e
  exact⟨more,by rw[af (ne b _ q)];exact q⟩
 ·rw[af (ϛ i)];exact I.free
 ·rw[af (j x c e)];exact I.ED x c e
 ·obtain⟨e,n,r⟩:=I.pin p d
  exact⟨e,by rw[af (l p d)];exact n,r⟩
 ·by_cases f:b=D
  ·subst f;rw[ac]at e;cases e;exact new
  ·rw[af f]at e
   exact(I.DW b u e).EU (λ_ _ _ q=>q) (λc q=>by rw[af (ne c _ q)];exact q) λc xs q=>by rw[af (ne c _ q)];exact q
end
def e9(J:It)(g:TG)(tt:TT)(te:TE)(σ0:St)(Q:VK)(H1:Hp):Prop:=∃W:Nat->Nat->List V->Hp->Prop,(∃m,W 0 m [] H1)/\∀i m acc H,W i m acc H->
 acc.length<Χ/\((J.stop i H/\∀D,H D=Γ->Q (.ref D) (π H D (.ρ acc)))∨(J.go i H/\∃N:List V->Hp->Prop,(∀E6 H',N E6 H'->∃m',m'< m/\W (i+1) m' E6 H')/\
  ∀x H',J.KG i H x H'->g x σ0 H' λσ2 H2=>tt σ2 H2 λb H3=>if b=Δ then te σ2 H3 λy H4=>N (acc++[y]) H4 else N acc H3))
def Bm(wi:TI)(g:TG)(tt:TT)(te:TE)(n:Nat)(cap:List Nat):TE:=λσ H Q=>wi σ H λJ H1=>e9 J g tt te (jC n cap σ) Q H1
section
variable {X:Cx}{tg iter elt:Expr}{ifs:List Expr}{scope:Scope}{pos:Pos}{wi:TI}{g:TG}{tt:TT}{te:TE}{own capN:List Str}{cap:List Nat}
abbrev pb(DV:List Ρ)(k:Nat):Obj:={cls:=.type "list",data:=.seq DV.toArray k}
theorem qT{M:St}{Q:VK}(B:EV X.N X.env.scope scope capN cap)(hc:X.calm=Δ)
  (d:∀(C:Ν)(s:ϊ)(H:Hp)(a:List Ν),PG (cG X scope (own++capN) C s H a) tg g/\PY (cG X scope (own++capN) C s H a) ifs tt/\PE (cG X scope (own++capN) C s H a) elt te)
  (I:τ X ο M H s) (T:pF X.prog X.w X.K tg J a it tn) (st:tn 0 s.heap) (O:∀b∈a,fR X ο H b) {W:Nat->Nat->List V->Hp->Prop} (w0:W 0 m0 [] H)
  (turn:∀i m acc H,W i m acc H->acc.length<Χ/\((J.stop i H/\∀D,H D=Γ->Q (.ref D) (π H D (.ρ acc)))∨(J.go i H/\∃N:List V->Hp->Prop,(∀E6 f,N E6 f->∃Y,Y<m/\W (i+1) Y E6 f)/\
   ∀x f,J.KG i H x f->g x (jC own.length cap M) f λσ2 j=>tt σ2 j λb H3=>if b=Δ then te σ2 H3 λy H4=>N (acc++[y]) H4 else N acc H3)))
  {RR:Ρ->Ν->Result->ϊ->Prop}
  (fin:∀(D C:Ν)(f:Hp)(s':ϊ),Q (.ref D) f->τ X ο M f s'->(∃m,s'.heap.Ns C m)->f C=Γ->C≠X.env.locals->X.s₀.heap.objs.size<=C->(∀x c,X.env.cells.lookup x=Β c->c≠C)->(∀p∈X.pn++ο,p.1≠C)->
   RR (.ref D) C (.ok .next) s'):
  ϫ (ϩ X.prog X.w) X.A (newList []) (λacc s3=>ϫ (ϩ X.prog X.w) X.A (newFunctionEnv scope X.env.globals (cQ X.env.cells scope.names []) [] X.env.qual Γ .none (Β X.env)) (λPZ s4 =>
   ō (ϩ X.prog X.w) X.A (.compStart (.ListComp elt [⟨tg,iter,ifs,0⟩] scope pos) 0 (.ref it) acc {PZ with scope:=relabel scope X.env}) (RR acc PZ.locals) s4) X.xe s3) X.xe s:=by
 refine m1 (wpAny_newFunctionEnv B.Iy (by intro y hy;simp at hy) (λZ O7 Mc=>?_) B.kind)
 dsimp only at O7 Mc⊢
 generalize Nc:s.heap.push {cls:=.type "list",dict:=Γ,data:=.seq ([]:List Ρ).toArray}=j at O7 Mc⊢
 have hCs:j.objs.size=s.heap.objs.size+1:=by rw[←Nc,size_push]
 have P:s.heap.objs.size<=j.objs.size:=by omega
 have Ll:∀b∈a,b<s.heap.objs.size:=λb d=>by
  obtain⟨o,e,_⟩:=T.obj 0 s.heap st b d
  exact lt_size e
 have R:=λb o e =>
  Mc.extBut b o (Ê (Ϥ (lt_size e) P)) (ώ _ (Nc▸ώ _ e))
 have UB:s.heap.objs.size≠j.objs.size:=by omega
 have Kg:=Mc.extBut _ _ UB (ώ _ (Nc▸Ϡ _ Λ))
 have I4:τ (cG X scope (own++capN) j.objs.size s H a) [] (jC own.length cap M) H {s with heap:=Z,toks:=s.toks+([]:List (Str×Ρ)).length}:=I.blk (own:=own) B P R O7 O Ll
 have WA:∀b∈a,b∉ur X.stack:=λb d z=>by
  obtain⟨_,f1,f2,_⟩:=O b d
  rcases Ϯ.mp (I.Hj b z) with e|e
  ·exact f1 e
  ·exact f2 e
 have Lm:∀b∈ur X.stack,b<s.heap.objs.size:=λb d=>by
  obtain⟨_,o,ho,_⟩:=I.stack.mem d
  exact lt_size ho
 have I0:∀x c,X.env.cells.lookup x=Β c->c<s.heap.objs.size:=λx c e=>by
  obtain⟨v,q⟩:=I.cell x c e
  exact q.lt
 have Md:∀(f:Hp)(h':Ù)(h:List Ρ)(k:Nat),f s.heap.objs.size=Γ->h'.get? s.heap.objs.size=Β (pb h k)->
   ∀p∈[(s.heap.objs.size,pb h k)],h'.get? p.1=Β p.2/\f p.1=Γ/\p.1≠(cG X scope (own++capN) j.objs.size s H a).env.locals/\p.1∉(cG X scope (own++capN) j.objs.size s H a).fs/\∀v,p.2.data≠.cell v:=λf h' h k hn he p l=>by
  have e:p=(s.heap.objs.size,pb h k):=by simpa using l
  subst e
  exact⟨he,hn,UB,λz=>Κ (Lm _ z) (Ĭ _),λv z=>by cases z⟩
 have fD:∀(f:Hp)(h:List Ρ)(k:Nat),(∀b∈a,f b=Γ)->∀b∈a,fR (cG X scope (own++capN) j.objs.size s H a) [(s.heap.objs.size,pb h k)] f b:=λf h k hn b d =>
  ⟨hn b d,Ê (Ϥ (Ll b d) P),WA b d,.inl d,λx c e=>(O b d).2.2.2.2.1 x c (B.cell I.ok e),λp l=>by
   have e:p=(s.heap.objs.size,pb h k):=by simpa using l
   subst e
   exact Ż (Ll b d)⟩
 have L:∀s3:ϊ,s3={s with heap:=Z,toks:=s.toks+([]:List (Str×Ρ)).length}->
   ō (ϩ X.prog X.w) X.A (.compLoop (.ListComp elt [⟨tg,iter,ifs,0⟩] scope pos) 0 (.ref it) (.ref s.heap.objs.size) (compEnvC scope (cQ X.env.cells scope.names []) j.objs.size X.env))
    (RR (.ref s.heap.objs.size) j.objs.size) s3:=by
  rintro s3 rfl
  refine qV (λn s'=>∃i acc h k f,τ (cG X scope (own++capN) j.objs.size s H a) [(s.heap.objs.size,pb h k)] (jC own.length cap M) f s'/\tn i s'.heap/\(∀b∈a,f b=Γ)/\υ acc h/\W i n acc f) ?_ m0
   ⟨0,[],[],0,H,I4.Fx (Md _ _ _ _ (I.DW.fresh (Ξ _)) Kg),T.keep 0 s.heap Z st λb _ o e=>R b o e,λb d=>(O b d).1,.nil,w0⟩
  rintro n s5 ⟨i,acc,h,k,S,I5,O4,U3,rv,w5⟩
  obtain⟨hsz,Qa⟩:=turn i n acc S w5
  obtain⟨hgt,KI,hte⟩:=d j.objs.size s H a
  rcases Qa with ⟨stop,q⟩|⟨go,N,hN,step⟩
  ·refine bj (T.done (cG X scope (own++capN) j.objs.size s H a) Λ Λ Λ hc i _ s5 _ S _ I5 (fD S h k U3) O4 stop) λr s6 F=>?_
   obtain⟨hr,U⟩:=F
   subst hr
   obtain⟨hD,Qb,_⟩:=U.pin (s.heap.objs.size,pb h k) (by simp)
   have J1:=I.Px (s':=s6) (ch:=a) U.os U.ν U.DW U.bare λb d=>by
    obtain⟨_,f1,_,f3,f4,f5⟩:=O b d
    exact⟨f3,f1,f4,f5⟩
   have J2:τ X ο M (π S s.heap.objs.size (.ρ acc)) s6:=J1.adopt Qb I.sz (Ż I.lt) (λx c e=>Ê (I0 x c e)) (λp l=>Ê (lt_size (I.pin p l).1)) ⟨JQ hsz,h,k,rv,hD⟩
   obtain⟨mC,Qc,_⟩:=U.loc
   refine fin _ _ _ s6 (q _ Qb) J2 ⟨mC,Qc⟩ (by rw[af (ϛ UB)];exact U.free) (Ż (Ϥ I.lt P)) (Î I.sz P) (λx c e=>Ê (Ϥ (I0 x c e) P)) λp l =>
    Ê (Ϥ (lt_size (I.pin p l).1) P)
  ·refine bj (T.item (cG X scope (own++capN) j.objs.size s H a) Λ Λ Λ hc i _ s5 _ S _ I5 (fD S h k U3) O4 go) λr s6 F=>?_
   obtain⟨u,hr,h6⟩:=F
   subst hr
   refine bj h6 λ_ s7 F=>?_
   obtain⟨x,H7,I7,r7,y7,WB,fr7⟩:=F
   have I7':=I7.pinned (fD H7 h k fr7) (T.obj _ _ WB)
   refine bj (hgt _ s7 _ H7 x u _ I7' r7 (step x H7 y7)) λ_ s8 F=>?_
   obtain⟨t,H8,I8,q8⟩:=F
   refine bj (KI _ s8 t H8 _ I8 q8) λb s9 F=>?_
   obtain⟨H9,I9,q9⟩:=F
   have itk:∀{f:Hp}{s':ϊ}{σ':St},τ (cG X scope (own++capN) j.objs.size s H a) (fH a s7.heap) σ' f s'->tn (i+1) s'.heap/\∀b∈a,f b=Γ:=λ{f s' σ'} K=>by
    refine⟨T.keep _ _ _ WB λb d o e=>(K.pin (b,o) (fI d e)).1,λb d=>?_⟩
    obtain⟨o,e,_⟩:=T.obj _ _ WB b d
    exact(K.pin (b,o) (fI d e)).2.1
   cases b with
   | false =>
    rw[Θ Ϝ]
    obtain⟨Y,hm,w9⟩:=hN acc H9 (by simpa using q9)
    have K9:=I9.Fx λp l=>I9.pin p (Ϩ _ (Ϩ _ l))
    obtain⟨t9,f9⟩:=itk K9
    exact⟨Y,hm,i+1,acc,h,k,H9,I.reset B O I9.FC,t9,f9,rv,w9⟩
   | true =>
    rw[Ι Λ]
    have q9':te t H9 λy H4=>N (acc++[y]) H4:=by simpa using q9
    refine bj (hte _ s9 t H9 _ I9 q9') λyv WC F=>?_
    obtain⟨y,KJ,WD,r10,q10⟩:=F
    obtain⟨hD,Qb,_⟩:=WD.pin (s.heap.objs.size,pb h k) (by simp)
    have hlen:=rv.length
    refine wpAny_list_append_plain ⟨k,hD⟩ (λh' Hl Nd=>?_) (by rw[ϭ];omega)
    obtain⟨k',hD'⟩:=Hl
    obtain⟨Y,hm,w10⟩:=hN (acc++[y]) KJ q10
    have K10:=WD.Fx λp l=>WD.pin p (Ϩ _ (Ϩ _ l))
    have K11:=K10.turned (t':=WC.toks) (it:=s.heap.objs.size) (λb o d e=>(Nd.2 b d).trans e) Qb UB (.inr (Ξ _))
     (λx c e=>Ê (I0 x c (B.cell I.ok e))) λp l=>by
      obtain⟨d,_⟩:=mZ (l)
      exact Ê (Ll p.1 d)
    obtain⟨t11,UC⟩:=itk K11
    refine⟨Y,hm,i+1,acc++[y],h++[yv],k',KJ,?_,t11,UC,rv.append (.cons r10 .nil),w10⟩
    refine I.reset B O (K11.Fx (Md _ _ _ _ Qb ?_))
    show h'.get? s.heap.objs.size=Β {cls:=.type "list",data:=.seq (h++[yv]).toArray k'}
    rw[show(h++[yv]).toArray=h.toArray.push yv by simp]
    exact hD'
 exact codeAny_compStart_list (L _ Λ) (T.self X.A 0 _ _ _ (T.keep 0 s.heap Z st λb _ o e=>R b o e) (L _ Λ))
theorem b5(B:EV X.N X.env.scope scope capN cap)(i:X.calm=Δ)(j:PI X tg iter wi)
  (d:∀(C:Ν)(s:ϊ)(H:Hp)(c:List Ν),PG (cG X scope (own++capN) C s H c) tg g/\PY (cG X scope (own++capN) C s H c) ifs tt/\PE (cG X scope (own++capN) C s H c) elt te)
  (l:autoParam (∀x,nD iter X.env x=pure x) ψ):PE X (.ListComp elt [⟨tg,iter,ifs,0⟩] scope pos) (Bm wi g tt te own.length cap):=by
 intro a s f H Q I h
 rw[eval_ListComp]
 refine KD (use:=Γ) Λ l (hG (B.Nb I.ok)) B.kind B.loc (bj (j a s f H _ I h) λv U m=>bj m λY Z p=>?_)
 obtain⟨it,c,tn,J,H2,e,r,T,t,u,W,⟨m0,y⟩,turn⟩:=p
 subst e
 refine qT (own:=own) B i d r T t u y turn (RR:=λacc C=>compPost (ϩ X.prog X.w) X.A X.xe Γ (EP X a f Q) acc C) λD C z E q F ⟨G,K⟩ L M O P R=>?_
 refine⟨G,K,λh' S=>⟨.ref D,z,?_,Λ,q⟩⟩
 exact F.turned (t':=E.toks) (it:=C) (λb o d e=>(S.2 b d).trans e) L M (.inr O) P R
theorem dB(B:EV X.N X.env.scope scope capN cap)(E:X.calm=Δ)(F:X.N.Nodup)(G:X.N[i]?=Β x)(r:X.env.scope.names.lookup x=Β .local)(K:PI X tg iter wi)
  (j:∀(C:Ν)(s:ϊ)(H:Hp)(f:List Ν),PG (cG X scope (own++capN) C s H f) tg g/\PY (cG X scope (own++capN) C s H f) ifs tt/\PE (cG X scope (own++capN) C s H f) elt te)
  (l:autoParam (ť (.ListComp elt [⟨tg,iter,ifs,0⟩] scope pos) (Β (.Name x px)) Qd.line X.env=pure Δ) η)
  (L:autoParam (∀x,nD iter X.env x=pure x) ψ):PS X (.Assign [.Name x px] (.ListComp elt [⟨tg,iter,ifs,0⟩] scope pos) Qd) (BR (Bm wi g tt te own.length cap) (cO i)):=by
 intro c s t H m I h
 rw[exec_Assign_Name_used _ _ _ _ l]
 refine Τ (KC (Τ ?_))
 show ϫ _ X.A (do
  let _ ← comprehension (.ListComp elt [⟨tg,iter,ifs,0⟩] scope pos) scope X.env _ (newList []) Ε (eval iter X.env) (Β (assign (.Name x px) X.env))) _ _ s
 refine Τ (ò (KD (use:=Β (assign (.Name x px) X.env)) (Q:=λ_ d=>SP X c m .next d) Λ L (hG (B.Nb I.ok)) B.kind B.loc
  (bj (K c s t H _ I h) λv s1 M=>bj M λU1 s2 O=>?_)) (λ_ d P=>Ϛ (Ϛ P)) λ_ _ e=>e)
 obtain⟨it,f,tn,J,H2,e,R,T,S,U,W,⟨m0,Y⟩,turn⟩:=O
 subst e
 refine qT (own:=own) (Q:=λx Z=>cO i x t Z m.nx) B E j R T S U Y turn (RR:=λacc C=>compPost (ϩ X.prog X.w) X.A X.xe (Β (assign (.Name x px) X.env)) (λ_ d=>SP X c m .next d) acc C) λD C H' d q J2 ⟨mC,Qc⟩ fC u n2 y n4=>?_
 refine Ta (mR J2 F G (.inl r) (show RelV (.ref D) (.ref D) from Λ) (λPK J3 DT=>?_) (.inr r))
 obtain⟨a,Mc,ha⟩:=DT
 have p:C≠a:=by
  rcases ha with z|z
  ·rw[z];exact u
  ·exact(y x a z).symm
 refine⟨mC,Qc.sameBut Mc p,λh' Nd=>⟨_,H',?_,q⟩⟩
 exact J3.turned (t':=PK.toks) (it:=C) (λb o j e=>(Nd.2 b j).trans e) fC u (.inr n2) y n4
end
mutual
inductive m8(K:ϣ)(H:Hp):V->ý->Prop
 |Eg:m8 K H .Eg .none
 |bl (b:Bool):m8 K H (.bl b) (.bool b)
 |int (i:Int):m8 K H (.int i) (.int i)
 |str (x:Str):m8 K H (.str x) (.str x)
 |ρ {a:Ν} {xs:List V} {ds:List ý}:DS K H a xs->m7 K H xs ds->m8 K H (.ref a) (.list ds)
 |tup {a:Ν} {xs:List V} {ds:List ý}:DY K H a xs->m7 K H xs ds->m8 K H (.ref a) (.tuple ds)
inductive m7(K:ϣ)(H:Hp):List V->List ý->Prop
 |nil:m7 K H [] []
 |cons {x:V} {d:ý} {xs:List V} {ds:List ý}:m8 K H x d->m7 K H xs ds->m7 K H (x:: xs) (d:: ds)
end
section
variable {X:Cx}{ο:List (Ν×Obj)}{σ:St}{H:Hp}{s:ϊ}
mutual
theorem τ.den(I:τ X ο σ H s):∀{x:V}{d:ý}{u:Ρ},m8 X.K H x d->RelV x u->∃as,Reads s.heap u d as
 |_,_,_,.Eg,r=>by cases r;exact⟨_,.none⟩
 |_,_,_,.bl b,r=>by cases r;exact⟨_,.bool b⟩
 |_,_,_,.int i,r=>by obtain⟨t,rfl⟩:=r;exact⟨_,.int i t⟩
 |_,_,_,.str x,r=>by obtain⟨t,rfl⟩:=r;exact⟨_,.str x t⟩
 | _,_,_,.ρ hq hd,r=>by
  cases r
  obtain⟨DV,rv,⟨o,n,e,hc,_,WE⟩,_⟩:=I.list hq
  obtain⟨as,q⟩:=I.Nf hd rv
  exact⟨_,.list e hc WE (by simpa using q)⟩
 | _,_,_,.tup hq hd,r=>by
  cases r
  obtain⟨DV,rv,⟨o,e,hc,n,WE⟩,_⟩:=I.tuple hq
  obtain⟨as,q⟩:=I.Nf hd rv
  exact⟨_,.tuple e hc WE (by simpa using q)⟩
theorem τ.Nf(I:τ X ο σ H s):∀{xs:List V}{ds:List ý}{us:List Ρ},m7 X.K H xs ds->υ xs us->∃as,ReadsAll s.heap us ds as
 |_,_,_,.nil,.nil=>⟨_,.nil⟩
 | _,_,_,.cons hd hr,.cons r rr=>by
  obtain⟨as,q⟩:=I.den hd r
  obtain⟨bs,q'⟩:=I.Nf hr rr
  exact⟨_,.cons q q'⟩
end
inductive Qe(K:ϣ)(x:V)(y:V)(H:Hp)(Q:VK):Prop
 |mk (da db)(_:m8 K H x da)(_:m8 K H y db)(_:Ļ da=Δ)(_:Ļ db=Δ)(_:Q (.bl (ę da db)) H)
inductive Cr(K:ϣ)(x:V)(y:V)(H:Hp)(Q:VK):Prop
 |mk (da db)(_:m8 K H x da)(_:m8 K H y db)(_:Ļ da=Δ)(_:Ļ db=Δ)(_:Q (.bl (!ę da db)) H)
end
section
variable {X:Cx}
theorem jw(b:X.A.units+64<í):fz X (compareOp .Eq) (Qe X.K):=by
 intro a s m H x y v u Q I c d h
 obtain⟨o,p,e,f,g,i,q⟩:=h
 obtain⟨as,j⟩:=I.den e c
 obtain⟨bs,l⟩:=I.den f d
 exact SeqAt.compareEq_shaped j l g i b ⟨.bl _,H,I,Λ,q⟩
theorem iq(b:X.A.units+64<í):fz X (compareOp .NotEq) (Cr X.K):=by
 intro a s m H x y v u Q I c d h
 obtain⟨o,p,e,f,g,i,q⟩:=h
 obtain⟨as,j⟩:=I.den e c
 obtain⟨bs,l⟩:=I.den f d
 exact SeqAt.compareNe_shaped j l g i b ⟨.bl _,H,I,Λ,q⟩
theorem nL{K:ϣ}:∀a:List Int,m7 K H (a.map V.int) (a.map ý.int)
 |[] =>.nil
 |n:: r =>.cons (.int n) (nL r)
theorem jc{K:ϣ}{b:List Int}(h:DS K H a (b.map V.int)):m8 K H (.ref a) (.list (b.map ý.int)):=.ρ h (nL b)
inductive WG(K:ϣ)(x:V)(y:V)(H:Hp)(Q:VK):Prop
 |mk (p q:Ν)(ns ms:List Int)(_:x=.ref p)(_:y=.ref q)(_:DS K H p (ns.map V.int))(_:DS K H q (ms.map V.int))(_:Q (.bl (decide (ns=ms))) H)
inductive WH(K:ϣ)(x:V)(y:V)(H:Hp)(Q:VK):Prop
 |mk (p q:Ν)(ns ms:List Int)(_:x=.ref p)(_:y=.ref q)(_:DS K H p (ns.map V.int))(_:DS K H q (ms.map V.int))(_:Q (.bl (!decide (ns=ms))) H)
theorem C2(b:X.A.units+64<í):fz X (compareOp .Eq) (WG X.K):=by
 intro a s c H x y v u Q I d e h
 obtain⟨p,q,f,g,rfl,rfl,i,j,q⟩:=h
 refine jw b a s c H _ _ v u Q I d e ⟨_,_,jc i,jc j,PySem.W.shaped_ints f,PySem.W.shaped_ints g,?_⟩
 simp only[ę,PySem.W.ked_eqvAll]
 exact q
theorem C1(b:X.A.units+64<í):fz X (compareOp .NotEq) (WH X.K):=by
 intro a s c H x y v u Q I d e h
 obtain⟨p,q,f,g,rfl,rfl,i,j,q⟩:=h
 refine iq b a s c H _ _ v u Q I d e ⟨_,_,jc i,jc j,PySem.W.shaped_ints f,PySem.W.shaped_ints g,?_⟩
 simp only[ę,PySem.W.ked_eqvAll]
 exact q
def WJ(K:ϣ):List V->Hp->VK->Prop:=λxs H Q =>
 (∃i,xs=[.int i,.ty "int"]/\Q (.bl Δ) H)∨(∃i,xs=[.int i,.ty "bool"]/\Q (.bl Ε) H)∨(∃p ys,xs=[.ref p,.ty "list"]/\DS K H p ys/\Q (.bl Δ) H)∨(∃p ys,xs=[.ref p,.ty "tuple"]/\DY K H p ys/\Q (.bl Δ) H)
theorem jf:du X (.builtin "isinstance") (WJ X.K):=by
 intro g s u H xs us Q I r h
 rcases h with ⟨i,rfl,q⟩|⟨i,rfl,q⟩|⟨p,j,rfl,d,q⟩|⟨p,j,rfl,d,q⟩
 ·cases r with
  | cons b a =>
   cases a with
   | cons a c =>
    cases c
    obtain⟨t,rfl⟩:=b
    cases a
    exact IsiPair.int_int ⟨.bl Δ,H,I,Λ,q⟩
 ·cases r with
  | cons b a =>
   cases a with
   | cons a c =>
    cases c
    obtain⟨t,rfl⟩:=b
    cases a
    exact IsiPair.int_bool ⟨.bl Ε,H,I.tok _,Λ,q⟩
 ·cases r with
  | cons b a =>
   cases a with
   | cons a c =>
    cases c
    cases b
    cases a
    obtain⟨l,m,⟨o,n,e,f,_⟩,_⟩:=I.list d
    exact IsiPair.list_list e f ⟨.bl Δ,H,I,Λ,q⟩
 ·cases r with
  | cons b a =>
   cases a with
   | cons a c =>
    cases c
    cases b
    cases a
    obtain⟨l,m,⟨o,e,f,_⟩,_⟩:=I.tuple d
    exact IsiPair.tuple_tuple e f ⟨.bl Δ,H,I,Λ,q⟩
theorem Au:U7 X "int.bit_length" (λx xs H Q=>∃i,x=.int i/\xs=[]/\Q (.int (Ó i:Nat)) H):=by
 intro a s d H x xs v us Q I b c h
 obtain⟨i,rfl,rfl,q⟩:=h
 obtain⟨t,rfl⟩:=b
 cases c
 exact call_int_bit_length ⟨.int _,H,I.tok _,⟨_,Λ⟩,q⟩
theorem τ.same{a:St}(I:τ X ο a H s)(k:∀b o,s.heap.get? b=Β o->s'.heap.get? b=Β o)(g:s'.gens=s.gens)(c:s'.os=s.os):τ X ο a H s':=by
 obtain⟨e,h,i,f,j⟩:=s'
 simp only at k g c
 subst g
 subst c
 have J:τ X ο a H {s with heap:=e,toks:=f}:=I.kept k
 exact⟨J.ok,J.os,J.bare,J.ν,J.loc,J.cell,J.free,J.ED,J.pin,J.DW,J.len⟩
theorem jh(D:X.calm=Δ):du X (.builtin "all") (λxs H Q=>∃(p:Ν)(bs:List Bool),xs=[.ref p]/\DS X.K H p (bs.map V.bl)/\Q (.bl (bs.all id)) H):=by
 intro f s E H xs us Q I r h
 obtain⟨p,bs,rfl,w,q⟩:=h
 obtain⟨u,rfl,F⟩:=kE r
 cases F
 obtain⟨d,j,pl,P⟩:=I.list w
 have c:=j.length
 rw[Ο]at c
 have G:p<s.heap.objs.size:=by obtain⟨o,n,e,_⟩:=pl;exact lt_size e
 have g:∀(i:Nat)(v:Ρ),d.toArray[i]?=Β v->v=Lf (bs.getD i Ε):=λi v l=>by
  have y:d[i]?=Β v:=by simpa using l
  have z:i<bs.length:=by rw[c];exact(gQ0 y)
  obtain⟨u,B,J⟩:=j.get (i:=i) (x:=.bl bs[i]) (by simp[z])
  rw[y]at B
  cases B
  rw[Ω,Μ z]
  exact J
 have m:X.A.in1.handled=Γ:=I.ok.hd D
 refine call_all_walkS (SV pl.isList ⟨s.heap.objs.size,[s.heap.objs.size,p],[s.heap.objs.size],λa b=>b=a,d.toArray.size,λi v=>d.toArray[i]?=Β v,_,λi=>bs.getD i Ε,Λ,
  (Walks.list m _ p (Ê G) d.toArray).toS,⟨⟨_,Ϡ _ Λ,Λ,Λ⟩,pl.isList.push _⟩,λi v R S T l L=>?_,λU t=>?_⟩)
 ·rw[g i v l]
  exact Ý L
 ·have Y:τ X f E H {s with heap:=s.heap.push {cls:=.type "list_iterator",data:=.fields #[.ref p,.int 0 0]}}:=I.kept (t':=s.toks) λb o e=>ώ _ e
  refine⟨.bl _,H,I.same (λb o e=>t.heap b o (λM=>?_) (ώ _ e)) t.gens t.os,Λ,?_⟩
  ·have N:b=s.heap.objs.size:=by simpa using M
   exact Κ (lt_size e) (by rw[N];exact Ĭ _)
  ·have e:((ό d.toArray.size).all λi=>bs.getD i Ε)=bs.all id:=by
    rw[ϭ,←c]
    clear g c w j q
    have:(ό bs.length).map (λi=>bs.getD i Ε)=bs:=by
     apply List.ext_getElem
     ·simp
     ·intro i Z O
      simp[O]
    conv=>rhs;rw[←this]
    rw[all_map]
    rfl
   rw[e]
   exact q
end
section
variable {M:Model}{A:Ð}{E:Ρ->ϊ->Prop}{s:ϊ}
end
section
variable {X:Cx}{ο:List (Ν×Obj)}{σ:St}{H:Hp}{s:ϊ}
end
section
variable {prog:Program}{w:Ϭ}{A:Ð}{E:Ρ->ϊ->Prop}{s:ϊ}{K:ϣ}{x C:Ν}{ox:Obj}{name:Str}{v:Ρ}
open PySem.W in
open PySem.W in
end
end L2
namespace PySem
section
variable {prog:Program}{w:Ϭ}{A:Ð}{E:Ρ->ϊ->Prop}{h:Ù}{g:Array JH}{d:Drawn}{t:Nat}{os:OsState}
variable {nm q:Str}{C N:Ν}{bs bm bmB:List Ρ}{WK:Bool}{sn:List Str}{sub:List Ρ}{ab:Bool}{col:Option Bool}{dd:Option Ν}{k0 k1 k2 k3 k5:Option Ρ}{B newId WL:String}
end
section
variable {M:Model}{A:Ð}{E:Ρ->ϊ->Prop}{env:Env}
variable {nm q:Str}{C N:Ν}{bs bm:List Ρ}{WK:Bool}{sn:List Str}{sub:List Ρ}{ab:Bool}{col:Option Bool}{dd:Option Ν}{k0 k1 k2 k3 k5:Option Ρ}{newId:String}
end
end PySem
namespace L2
open PySem PySem.Spec PyProof.Rows
section
variable {X:Cx}{C f:Ν}{x:Str}{p pos apos:Pos}{e:Expr}{es:List Expr}{t:TA}
end
section
variable {prog:Program}{w:Ϭ}{A:Ð}{E:Ρ->ϊ->Prop}{s:ϊ}{K:ϣ}{x C:Ν}{ox:Obj}{od:Option Obj}{name:Str}{v:Ρ}
open PySem.W in
open PySem.W in
end
section
variable {X:Cx}{ο:List (Ν×Obj)}{σ:St}{H:Hp}{s:ϊ}{ea:Ν}{oe:Obj}
end
section
variable {X:Cx}{o e value:Expr}{f:Str}{pos pos':Pos}{ta tv:TE}
end
section
variable {P:Program}{w:Ϭ}{K:ϣ}{mg:Str->Option Ρ}{ν:Ù}
end
section
variable {X:Cx}{k:Nat}{f C:Ν}{fd:Ñ}{ps:List Str}{sp:Sp}{Fv:List V}{ds:List Ρ}{x m:Str}{p pos apos:Pos}{e o:Expr}{es:List Expr}{ta:TE}{t:TA}
end
section
variable {X:Cx}{e:Expr}{t:St->Hp->VK->XK->Prop}{pos Hk:Pos}{n:Str}{i:Nat}
end
section
variable {M:Model}{A:Ð}{E:Ρ->ϊ->Prop}{s:ϊ}
end
end L2
namespace PySem
open Sem (wp)
open AutoSeq1 (wpAny_loadPart')
theorem fA(l:Ν)(a:Array Ρ)(n:Nat)(m:Option Ν)(o:Array (Option Ρ)):
  Meets (Builtin.«enumerate.__new__» ⟨[.type "enumerate",.ref l],[]⟩) (λ_ R s=>s.heap.get? l=Β {cls:=.type "tuple",dict:=m,data:=.seq a n,slots:=o}/\
   R (.ok (.ret (.ref (s.heap.push {cls:=.type "tuple_iterator",data:=.fields #[.ref l,.int 0 0]}).objs.size)))
    {s with heap:=(s.heap.push {cls:=.type "tuple_iterator",data:=.fields #[.ref l,.int 0 0]}).push {cls:=.type "enumerate",data:=.fields #[.none,.bool Ε,.ref s.heap.objs.size,Se 0,.none,.none]}}):=
 .of_wp λi w A R s h=>by
  obtain⟨p,g,d,q,r⟩:=s;obtain⟨b,h⟩:=h
  have j:=sub_enumerate
  have e:Ù.IsTuple (ϊ.heap ⟨p,g,d,q,r⟩) l a:=⟨_,b,Λ,n,Λ⟩
  wp_walk using Ů b
  refine wpAny_stack_any λt=>Ϛ ?_
  split
  ·rename_i c _ _ _ _ _
   cases (c == Ρ.type "enumerate")
   ·wp_walk using Ů b,Ŕ e
    exact⟨_,Λ,h⟩
   ·wp_walk using Ů b,Ŕ e
    exact⟨_,Λ,h⟩
  ·wp_walk using Ů b,Ŕ e
   exact⟨_,Λ,h⟩
section
variable {prog:Program}{w:Ϭ}{A:Ð}{E:Ρ->ϊ->Prop}{s:ϊ}
theorem fB(m:s.heap.IsTuple l items)
  (h:∀a,N7 a (s.heap.objs.size+1) s.heap.objs.size 0 .none->a.IsTupleIter s.heap.objs.size l 0->a.objs.size=s.heap.objs.size+2->
   (∀b o,s.heap.get? b=Β o->a.get? b=Β o)->Q (.ref (s.heap.objs.size+1)) {s with heap:=a}):
  ϫ (ϩ prog w) A (call (.type "enumerate") [.ref l]) Q E s:=by
 obtain⟨⟨c,p,q,r⟩,t,d,n,e⟩:=m
 replace d:c=.type "tuple":=d
 replace e:q=.seq items n:=e
 subst d e
 refine callType_new F.called_enumerate (by decide) (F.typeCall_enumerate_1 _) (F.newCall_enumerate_1 _) (λf=>F.args_object_init_2 f _) F.entry_enumerate_new
  (fA l items n p r) ⟨t,?_⟩
 have g:(s.heap.push {cls:=.type "tuple_iterator",data:=.fields #[.ref l,.int 0 0]}).objs.size=s.heap.objs.size+1:=size_push ..
 rw[g]
 have j:N7 ((s.heap.push {cls:=.type "tuple_iterator",data:=.fields #[.ref l,.int 0 0]}).push
   {cls:=.type "enumerate",data:=.fields #[.none,.bool Ε,.ref s.heap.objs.size,Se 0,.none,.none]}) (s.heap.objs.size+1) s.heap.objs.size 0 .none:=by
  have:=Ϡ (s.heap.push {cls:=.type "tuple_iterator",data:=.fields #[.ref l,.int 0 0]})
   (o:={cls:=.type "enumerate",data:=.fields #[.none,.bool Ε,.ref s.heap.objs.size,Se 0,.none,.none]}) Λ
  rw[g]at this;exact this
 refine⟨⟨_,j,Λ⟩,h _ j ⟨_,ώ _ (Ϡ _ Λ),Λ,Λ⟩ (by rw[size_push,g]) λb o x=>ώ _ (ώ _ x)⟩
theorem gP(a:s.heap.IsTupleIter it l i)
  (f:s.heap.IsTuple l items) (g:items[i]?=Β x)
  (h:∀d,d.IsTupleIter it l (i+1)->Ħ it s.heap d->Q x {s with heap:=d}):
  ϫ (ϩ prog w) A (þ (.ref it)) Q E s:=by
 obtain⟨o,c,j,b⟩:=id a
 obtain⟨q,m,_,r,p⟩:=f
 unfold þ
 refine Τ (LS (name:=Str.ofString "__next__") a.typeIs Ē
  (Ĺ Ē a.typeIs E1 ?_ (ub _)))
 show ϫ _ _ (field (.ref it) 0 >>=_) _ _ s
 refine Τ (A4 c b (x:=.ref l) Λ ?_)
 rw[Θ (show ¬((Æ l == Į)=Δ) from Ϝ)]
 refine Τ (A4 c b (x:=.int i 0) Λ ?_)
 refine Τ (ŷ m p ?_)
 simp only[ϋ,g]
 refine Τ (wpAny_setField c b (by simp) (Ϛ ⟨x,Λ,Ϛ (h _ ?_ (oD ..))⟩))
 exact⟨_,ţ _ c (Obj.isFreed_of_fields (N6 b _)),(Obj.cls_mapFields ..).trans j,by
  rw[N6 b];simp[Se]⟩
theorem ia(g:A.handled=Γ)
  (b:s.heap.IsTupleIter it l i) (j:s.heap.IsTuple l items) (p:items[i]?=Γ)
  (q:∀c e,Ù.ExtBut it s.heap c->(∃o,c.get? e=Β o/\o.cls=.type "StopIteration")->E (.ref e) {s with heap:=c}):
  ϫ (ϩ prog w) A (þ (.ref it)) Q E s:=by
 obtain⟨o,d,u,f⟩:=id b
 obtain⟨v,r,_,y,t⟩:=j
 unfold þ
 refine Τ (LS (name:=Str.ofString "__next__") b.typeIs Ē
  (Ĺ Ē b.typeIs E1 ?_ (ub _)))
 show ϫ _ _ (field (.ref it) 0 >>=_) _ _ s
 refine Τ (A4 d f (x:=.ref l) Λ ?_)
 rw[Θ (show ¬((Æ l == Į)=Δ) from Ϝ)]
 refine Τ (A4 d f (x:=.int i 0) Λ ?_)
 refine Τ (ŷ r t ?_)
 simp only[ϋ,p]
 refine Τ (JD (Τ (wpAny_setField d f (by simp) ?_)))
 refine Τ ?_
 simp only[newExc,newTuple]
 refine Τ (m1 ?_ (by size_fits))
 refine Τ (m:=firstArgMember _ _) (wpAny_of_eq (a:=Į) (by first|rfl|(simp only[firstArgMember];rfl)) ?_)
 refine m1 ?_ (by size_fits)
 simp only[raiseNew]
 refine Τ (wpAny_handled ?_)
 first|rw[show A.in1.handled=Γ from g]|rw[g]
 refine Τ (Ϛ (wpAny_throw ?_))
 exact q _ _ (((oD ..).extBut.push _).push _) ⟨_,Ϡ _ Λ,Λ⟩
end
theorem gU(g:A.handled=Γ)(it l:Ν)(j:l≠it)(a:Array Ρ):
  Draws prog w A it [it,l] a.size (λi v=>a[i]?=Β v) (λi h=>h.IsTupleIter it l i/\h.IsTuple l a) where
 live:=λ_ _ b=>let ⟨o,ho,_⟩:=b.1;⟨o,ho⟩
 frame:=λ_ _ _ b c=>⟨b.1.at λo e=>c it (by simp) o e,let ⟨o,ho,r⟩:=b.2;⟨o,c l (by simp) o ho,r⟩⟩
 item:=λi s Q E d b m=>by
  refine gP b.1 b.2 (x:=a[i]) (by simp[d]) λp q f=>?_
  exact m _ p s.toks (by simp[d]) ⟨q,let ⟨o,ho,r⟩:=b.2;⟨o,f.extBut l o j ho,r⟩⟩ f
 done:=λs Q E b t=>ia g b.1 b.2 (by simp) t
end PySem
namespace L2
open PySem PySem.Spec PyProof.Rows
section
variable {X:Cx}{ο:List (Ν×Obj)}{σ:St}{H:Hp}{s:ϊ}
theorem τ.Nh{a b p:Ν}(I:τ X ο σ H s)(x:fR X ο H a)(y:fR X ο H b)(A:s.heap.objs.size<=p)
  (k:∀c o,c≠a->c≠b->s.heap.get? c=Β o->h'.get? c=Β o) (M:∃o,h'.get? a=Β o) (N:∃o,h'.get? b=Β o) (E:xs.length<=Χ) (r:υ xs us) (F:EZ h' p us.toArray):
  τ X ο σ (π H p (.tup xs)) {s with heap:=h',toks:=t'}:=by
 have G:=I.DW.fresh A
 have h:∀c u,H c=Β u->c≠p:=λc u q z=>by rw[z,G]at q;cases q
 have lt:∀c o,s.heap.get? c=Β o->c≠p:=λc o q=>Ê (Ϥ (lt_size q) A)
 have ne:∀c,c∉[a,b]->c≠a/\c≠b:=λc g=>by simpa using g
 refine I.call (g':=s.gens) (d':=s.drawn) (ch:=[a,b]) ⟨λc o e n J f=>k c o (ne c f).1 (ne c f).2 e,λc o e n J f=>⟨o.slots,k c o (ne c f).1 (ne c f).2 e⟩,λc o e n f=>by rw[af (lt c o e)];exact n,
  λc o e f=>⟨o,k c o (ne c f).1 (ne c f).2 e⟩,λc K q=>by rw[af (h c _ q)];exact q,λc o u q=>by rw[af (h c _ q)];exact q,λc ps q=>⟨#[],by rw[af (h c _ q),q];simp⟩⟩ (λc u q=>?_) I.bare λc g=>?_
 ·by_cases g:c=p
  ·subst g
   rw[ac]at q
   cases q
   exact⟨E,us,r,F⟩
  ·rw[af g]at q
   refine(I.DW c u q).EU (λd v i z=>?_) (λd z=>by rw[af (h d _ z)];exact z) λd K z=>by rw[af (h d _ z)];exact z
   have C:∀e,H e=Γ->d≠e:=λe D w=>by
    rcases i with rfl|i
    ·rw[w,D]at q;cases q
    ·rw[w,D]at i;cases i
   exact k d v (C a x.1) (C b y.1) z
 ·have L:c=a∨c=b:=by simpa using g
  rcases L with rfl|rfl
  ·obtain⟨_,j,_,l,m,t⟩:=x;exact⟨l,j,m,t⟩
  ·obtain⟨_,j,_,l,m,t⟩:=y;exact⟨l,j,m,t⟩
theorem τ.IY(I:τ X ο σ H s)(p:fR X ο H a)(r:fR X ο H b)
  (k:∀c o,c≠a->c≠b->s.heap.get? c=Β o->h'.get? c=Β o):τ X ο σ H {s with heap:=h',toks:=t'}:=by
 have ne:∀c,c∉[a,b]->c≠a/\c≠b:=λc h=>by simpa using h
 refine I.call (g':=s.gens) (d':=s.drawn) (ch:=[a,b]) ⟨λc o e n A f=>k c o (ne c f).1 (ne c f).2 e,λc o e n A f=>⟨o.slots,k c o (ne c f).1 (ne c f).2 e⟩,λc o e n f=>n,
  λc o e f=>⟨o,k c o (ne c f).1 (ne c f).2 e⟩,λc B q=>q,λc o u q=>q,λc ps q=>⟨#[],by rw[q];simp⟩⟩ (λc u q=>?_) I.bare λc h=>?_
 ·refine(I.DW c u q).EU (λd v g z=>?_) (λd z=>z) λd B z=>z
  have x:∀e,H e=Γ->d≠e:=λe y w=>by
   rcases g with rfl|g
   ·rw[w,y]at q;cases q
   ·rw[w,y]at g;cases g
  exact k d v (x a p.1) (x b r.1) z
 ·have C:c=a∨c=b:=by simpa using h
  rcases C with rfl|rfl
  ·obtain⟨_,i,_,j,l,m⟩:=p;exact⟨j,i,l,m⟩
  ·obtain⟨_,i,_,j,l,m⟩:=r;exact⟨j,i,l,m⟩
theorem nH{n i:Nat}{xs:List V}
  (D:Draws X.prog X.w X.A.in1 it fp n P Sx) (I:τ X ο σ H s) (m:N7 s.heap e it i a) (t:Sx i s.heap) (J:i<n) (K:e≠it) (d:e∉fp) (L:fR X ο H e) (M:fR X ο H it)
  (N:∀v,P i v->∃x,xs[i]?=Β x/\RelV x v):
  ϫ (ϩ X.prog X.w) X.A (pyNext (.ref e)) (λr O=>∃u,r=Β u/\ϫ (ϩ X.prog X.w) X.A (Ň (.Tuple elts kk pos) (.ref e) u) (λ_ g=>∃p x,xs[i]?=Β x/\H p=Γ/\u=.ref p/\
   τ X ο σ (π H p (.tup [.int i,x])) g/\(∃a,N7 g.heap e it ((i+1:Nat):Int) a)/\Sx (i+1) g.heap/\p≠e/\p≠it) E O) E s:=by
 refine wpAny_pyNext_enum_itemD D m t J K d λx h' h R S T U Y Z=>⟨_,Λ,?_⟩
 refine wpAny_letOwnedTupleGo_enum S λB C j=>?_
 obtain⟨y,hy,ry⟩:=N x R
 have f:=lt_size m
 have l:it<s.heap.objs.size:=by obtain⟨_,z⟩:=D.live _ _ t;exact lt_size z
 have F:=D.frame _ _ _ T λb hb o z=>(j.2 b λq=>d (q▸hb)).trans z
 refine⟨s.heap.objs.size,y,hy,I.DW.fresh (Ξ _),Λ,?_,⟨x,by simpa using C⟩,F,Ż f,Ż l⟩
 refine τ.Nh (s:=s) (h':=B) (t':=h+1) I L M (Ξ _) (λc o G Mf z=>(j.2 c G).trans (Z c o G Mf z)) ⟨_,C⟩ (let ⟨o,z⟩:=D.live _ _ F;⟨o,z⟩) (by show 2<=Χ;decide) (us:=[.int i h,x]) (.cons ⟨h,Λ⟩ (.cons ry .nil)) ?_
 exact⟨_,(j.2 _ (Ż f)).trans U,⟨Λ,_,Λ⟩,Λ⟩
end
noncomputable def DN(sq:Hp->List V->Prop):It:=
 ⟨λi H=>∃xs x,sq H xs/\xs[i]?=Β x,λi H v H'=>∃p,H p=Γ/\v=.ref p/\∀xs,sq H xs->∃x,xs[i]?=Β x/\H'=π H p (.tup [.int i,x]),λi H=>∃xs,sq H xs/\xs.length=i⟩
theorem rB{K:ϣ}(a e it:Ν)(Ex:e≠it):pF P w K (.Tuple elts kk pos) (DN λH=>DS K H a) [e,it] e (λi h=>(∃f,N7 h e it (i:Int) f)/\h.IsListIter it a i) where
 mem:=by simp
 obj:=λi h j b N=>by
  obtain⟨⟨f,g⟩,o,l,c,d⟩:=j
  have O:b=e∨b=it:=by simpa using N
  rcases O with rfl|rfl
  ·exact⟨_,g,λv z=>by have z':=z;cases z'⟩
  ·exact⟨o,l,λv z=>by rw[d]at z;cases z⟩
 keep:=λi h h' j k=>by
  obtain⟨⟨f,g⟩,m⟩:=j
  exact⟨⟨f,k e (by simp) _ g⟩,m.at λo z=>k it (by simp) o z⟩
 item:=by
  intro X Q R S T i C s σ H E I t j U
  subst Q R S
  obtain⟨xs,x,J,L⟩:=U
  obtain⟨B,M,p,hz⟩:=I.list J
  obtain⟨⟨f,g⟩,m⟩:=j
  have Y:i<B.toArray.size:=by
   have:=(gQ0 L)
   have l2:=M.length
   simp;omega
  have UE:e≠a:=by
   rintro rfl
   obtain⟨o,l,D,_⟩:=p.isList
   rw[g]at l;cases l
   injection D with z;exact Κ z (by decide)
  have Z:a≠it:=by
   rintro rfl
   obtain⟨o,l,D,_⟩:=p.isList
   obtain⟨o2,F,G,_⟩:=m
   rw[l]at F;cases F;rw[D]at G
   injection G with z;exact Κ z (by decide)
  refine bj (nH (xs:=xs) (Draws.list (A:=X.A.in1) (I.ok.hd T) it a Z B.toArray) I g ⟨m,p.isList⟩ Y Ex (by simp only[Ϯ,É,or_false,not_or];exact⟨Ex,UE⟩) (t e (by simp)) (t it (by simp)) λv hv=>?_) λr s1 ⟨u,hr,h1⟩=>⟨u,hr,bj h1 λ_ s2 ⟨q,y,hy,WO,hu,I2,JI,Ip,n1,n2⟩=>?_⟩
  ·obtain⟨u,hu,ru⟩:=M.get L
   have e1:B[i]?=Β v:=by simpa using hv
   rw[hu]at e1;cases e1
   exact⟨x,L,ru⟩
  ·refine⟨.ref q,_,I2,hu,⟨q,WO,Λ,λzs HH=>⟨y,by rw[I.FA HH J];exact hy,Λ⟩⟩,⟨JI,Ip.1⟩,λb N=>?_⟩
   have O:b=e∨b=it:=by simpa using N
   rcases O with rfl|rfl
   ·rw[af (ϛ n1)];exact(t b (by simp)).1
   ·rw[af (ϛ n2)];exact(t b (by simp)).1
 done:=by
  intro X Q R S T i C s σ H E I t j U
  subst Q R S
  obtain⟨xs,J,L⟩:=U
  obtain⟨B,M,p,hz⟩:=I.list J
  obtain⟨⟨f,g⟩,m⟩:=j
  have Y:i=B.toArray.size:=by have l2:=M.length;simp;omega
  have Z:a≠it:=by
   rintro rfl
   obtain⟨o,l,D,_⟩:=p.isList
   obtain⟨o2,F,G,_⟩:=m
   rw[l]at F;cases F;rw[D]at G
   injection G with z;exact Κ z (by decide)
  refine N3 (Draws.list (A:=X.A.in1) (I.ok.hd T) it a Z B.toArray) g (by rw[←Y];exact⟨m,p.isList⟩) λh' F1=>⟨Λ,?_⟩
  exact I.IY (t':=s.toks) (t e (by simp)) (t it (by simp)) λc o h1 h2 z=>F1 c o h2 z
 self:=λ_ _ _ _ _ j h=>by
  obtain⟨⟨f,g⟩,_⟩:=j
  exact ś g h
theorem rA{K:ϣ}(a e it:Ν)(Ex:e≠it):pF P w K (.Tuple elts kk pos) (DN λH=>DY K H a) [e,it] e (λi h=>(∃f,N7 h e it (i:Int) f)/\h.IsTupleIter it a i) where
 mem:=by simp
 obj:=λi h j b N=>by
  obtain⟨⟨f,g⟩,o,l,c,d⟩:=j
  have O:b=e∨b=it:=by simpa using N
  rcases O with rfl|rfl
  ·exact⟨_,g,λv z=>by have z':=z;cases z'⟩
  ·exact⟨o,l,λv z=>by rw[d]at z;cases z⟩
 keep:=λi h h' j k=>by
  obtain⟨⟨f,g⟩,t⟩:=j
  exact⟨⟨f,k e (by simp) _ g⟩,t.at λo z=>k it (by simp) o z⟩
 item:=by
  intro X Q R S T i C s σ H E I B j U
  subst Q R S
  obtain⟨xs,x,J,L⟩:=U
  obtain⟨m,M,p,hz⟩:=I.tuple J
  have pt:=p
  obtain⟨⟨f,g⟩,t⟩:=j
  have Y:i<m.toArray.size:=by
   have:=(gQ0 L)
   have l2:=M.length
   simp;omega
  have UE:e≠a:=by
   rintro rfl
   obtain⟨o,l,D,_⟩:=pt
   rw[g]at l;cases l
   injection D with z;exact Κ z (by decide)
  have Z:a≠it:=by
   rintro rfl
   obtain⟨o,l,D,_⟩:=pt
   obtain⟨o2,F,G,_⟩:=t
   rw[l]at F;cases F;rw[D]at G
   injection G with z;exact Κ z (by decide)
  refine bj (nH (xs:=xs) (gU (A:=X.A.in1) (I.ok.hd T) it a Z m.toArray) I g ⟨t,pt⟩ Y Ex (by simp only[Ϯ,É,or_false,not_or];exact⟨Ex,UE⟩) (B e (by simp)) (B it (by simp)) λv hv=>?_) λr s1 ⟨u,hr,h1⟩=>⟨u,hr,bj h1 λ_ s2 ⟨q,y,hy,WO,hu,I2,JI,Ip,n1,n2⟩=>?_⟩
  ·obtain⟨u,hu,ru⟩:=M.get L
   have e1:m[i]?=Β v:=by simpa using hv
   rw[hu]at e1;cases e1
   exact⟨x,L,ru⟩
  ·refine⟨.ref q,_,I2,hu,⟨q,WO,Λ,λzs HH=>⟨y,by rw[I.GU HH J];exact hy,Λ⟩⟩,⟨JI,Ip.1⟩,λb N=>?_⟩
   have O:b=e∨b=it:=by simpa using N
   rcases O with rfl|rfl
   ·rw[af (ϛ n1)];exact(B b (by simp)).1
   ·rw[af (ϛ n2)];exact(B b (by simp)).1
 done:=by
  intro X Q R S T i C s σ H E I B j U
  subst Q R S
  obtain⟨xs,J,L⟩:=U
  obtain⟨m,M,p,hz⟩:=I.tuple J
  have pt:=p
  obtain⟨⟨f,g⟩,t⟩:=j
  have Y:i=m.toArray.size:=by have l2:=M.length;simp;omega
  have Z:a≠it:=by
   rintro rfl
   obtain⟨o,l,D,_⟩:=pt
   obtain⟨o2,F,G,_⟩:=t
   rw[l]at F;cases F;rw[D]at G
   injection G with z;exact Κ z (by decide)
  refine N3 (gU (A:=X.A.in1) (I.ok.hd T) it a Z m.toArray) g (by rw[←Y];exact⟨t,pt⟩) λh' F1=>⟨Λ,?_⟩
  exact I.IY (t':=s.toks) (B e (by simp)) (B it (by simp)) λc o h1 h2 z=>F1 c o h2 z
 self:=λ_ _ _ _ _ j h=>by
  obtain⟨⟨f,g⟩,_⟩:=j
  exact ś g h
section
variable {X:Cx}{elts:List Expr}{kk:Nat}{Hk p pos:Pos}{a:Expr}{ta:TE}
def WQ(K:ϣ)(t:TA):TI:=λσ H R=>t σ H λvs H1=>∃a,vs=[.ref a]/\(∃xs,DS K H1 a xs)/\R (DN λH=>DS K H a) H1
def WR(K:ϣ)(t:TA):TI:=λσ H R=>t σ H λvs H1=>∃a,vs=[.ref a]/\(∃xs,DY K H1 a xs)/\R (DN λH=>DY K H a) H1
theorem lj(w:Gl X "enumerate")(x:X.mg "enumerate"=Γ)(y:PA X [a] t)(z:autoParam (Á [a] X.env=[(Ε,eval a X.env)]) η):PI X (.Tuple elts kk Hk) (.Call (.Name "enumerate" p) [a] [] pos) (WQ X.K t):=by
 intro c s m H R I h
 refine TR (fK I w x boot_enumerate (Ô (bj (y pos c s m H _ I h) λus d A=>?_) z Λ))
 obtain⟨O,o,i,B,C⟩:=A
 obtain⟨l,e,⟨xs,D⟩,q⟩:=C
 subst e
 cases B with
 | cons r E =>
  cases E
  cases r
  obtain⟨P,Q,F,S⟩:=i.list D
  refine call_enumerate_list F.isList λu v j G J=>?_
  have L:=i.kept (t':=d.toks) J
  refine ś (s:={d with heap:=u}) v ?_
  refine⟨_,_,_,_,o,Λ,L,rB l _ d.heap.objs.size (Nat.succ_ne_self _),⟨⟨_,v⟩,j⟩,λb M=>?_,q⟩
  have N:b=d.heap.objs.size+1∨b=d.heap.objs.size:=by simpa using M
  have g:d.heap.objs.size<=b:=by
   rcases N with e|e
   ·rw[e];exact O0 _
   ·rw[e];exact Ξ _
  exact i.Im g (i.DW.fresh g)
theorem iQ(w:Gl X "enumerate")(x:X.mg "enumerate"=Γ)(y:PA X [a] t)(z:autoParam (Á [a] X.env=[(Ε,eval a X.env)]) η):PI X (.Tuple elts kk Hk) (.Call (.Name "enumerate" p) [a] [] pos) (WR X.K t):=by
 intro c s m H R I h
 refine TR (fK I w x boot_enumerate (Ô (bj (y pos c s m H _ I h) λus d A=>?_) z Λ))
 obtain⟨P,o,i,B,C⟩:=A
 obtain⟨l,e,⟨xs,D⟩,q⟩:=C
 subst e
 cases B with
 | cons r E =>
  cases E
  cases r
  obtain⟨F,Q,G,S⟩:=i.tuple D
  refine fB (G) λu v j J L=>?_
  have M:=i.kept (t':=d.toks) L
  refine ś (s:={d with heap:=u}) v ?_
  refine⟨_,_,_,_,o,Λ,M,rA l _ d.heap.objs.size (Nat.succ_ne_self _),⟨⟨_,v⟩,j⟩,λb N=>?_,q⟩
  have O:b=d.heap.objs.size+1∨b=d.heap.objs.size:=by simpa using N
  have g:d.heap.objs.size<=b:=by
   rcases O with e|e
   ·rw[e];exact O0 _
   ·rw[e];exact Ξ _
  exact i.Im g (i.DW.fresh g)
end
theorem gx{g:TG}{j:TS}{D:pH}(b:Nat->St->Hp->Prop)(r:b 0 a H)(s:∀i a H,i<=xs.length->b i a H->sq H xs)
  (t:∀i x p a H,xs[i]?=Β x->b i a H->H p=Γ->g (.ref p) a (π H p (.tup [.int i,x])) λc h=>j {D with nx:=b (i+1),ct:=b (i+1),bk:=D.nx} c h) (u:∀a H,b xs.length a H->D.nx a H):
  ∃W:Nat->Nat->St->Hp->Prop,(∃m,W 0 m a H)/\∀i m a H,W i m a H->
   ((DN sq).stop i H/\D.nx a H)∨((DN sq).go i H/\∃N:St->Hp->Prop,(∀d f,N d f->∃l,l<m/\W (i+1) l d f)/\∀x f,(DN sq).KG i H x f->g x a f λc h=>j {D with nx:=N,ct:=N,bk:=D.nx} c h):=by
 refine⟨λi m a H=>m=xs.length - i/\i<=xs.length/\b i a H,⟨xs.length,by simp,Ϧ _,r⟩,?_⟩
 rintro i m a H ⟨rfl,v,p⟩
 have q:=s i a H v p
 by_cases o:i<xs.length
 ·refine .inr ⟨⟨xs,xs[i],q,by simp[o]⟩,b (i+1),λd f w=>⟨xs.length - (i+1),by omega,Λ,o,w⟩,λx f y=>?_⟩
  obtain⟨z,A,rfl,B⟩:=y
  obtain⟨C,E,e⟩:=B xs q
  subst e
  exact t i C z a H E p A
 ·have e:i=xs.length:=by omega
  subst e
  exact .inl ⟨⟨xs,q,Λ⟩,u a H p⟩
def GF(d:ý)(m:Nat):Prop:=d.canLay0=Δ/\d.depth<=m
theorem GF.shaped(h:GF d m)(a:m<=64):Ļ d=Δ:=by
 unfold Ļ
 rw[h.1,Ζ (Î h.2 a)];rfl
theorem fF(i:Int):GF (.int i) 0:=⟨by simp[Ţ],by simp[ŵ]⟩
theorem oE:∀{ds:List ý},(∀d∈ds,GF d m)->Ŷ ds=Δ/\Ś ds<=m
 |[],_=>⟨by simp[Ŷ],by simp[Ś]⟩
 | d:: r,h=>by
  obtain⟨a,b⟩:=oE (ds:=r) λz f=>h z (ϧ _ f)
  obtain⟨c,e⟩:=h d ϟ
  exact⟨by simp[Ŷ,c,a],by simp only[Ś];omega⟩
theorem iC(h:∀d∈ds,GF d m):GF (.list ds) (m+1):=by
 obtain⟨a,b⟩:=oE h
 exact⟨by simp[Ţ,a],by simp only[ŵ];omega⟩
theorem eU(h:∀d∈ds,GF d m):GF (.tuple ds) (m+1):=by
 obtain⟨a,b⟩:=oE h
 exact⟨by simp[Ţ,a],by simp only[ŵ];omega⟩
theorem WS{K:ϣ}(a:m8 K H x d)(b:m8 K H y d)(s:GF d 64)(q:Q (.bl Ε) H):Cr K x y H Q:=
 ⟨d,d,a,b,s.shaped (Ξ _),s.shaped (Ξ _),by rw[oo d s.1];exact q⟩
theorem Qg{K:ϣ}(a:m8 K H x d)(b:m8 K H y d)(s:GF d 64)(q:Q (.bl Δ) H):Qe K x y H Q:=
 ⟨d,d,a,b,s.shaped (Ξ _),s.shaped (Ξ _),by rw[oo d s.1];exact q⟩
theorem GF.le(h:GF d m)(l:m<=n):GF d n:=⟨h.1,Î h.2 l⟩
end L2
namespace L2
open PySem
theorem jd(p:Nat->Bool)(f:Nat->V)(z:n<Χ)
  (q:∀(i:Nat)(acc:List V)(N:List V->Hp->Prop),i<n->N (if p i then acc++[f i] else acc) H->g (.int (lo+i)) σ0 H λc a=>tt c a λb d=>if b=Δ then te c d λy r=>N (acc++[y]) r else N acc d)
  (s:∀D,H D=Γ->Q (.ref D) (π H D (.ρ (((ό n).filter p).map f)))):
  e9 (Bh lo n) g tt te σ0 Q H:=by
 refine⟨λi m acc j=>m=n - i/\i<=n/\j=H/\acc=((ό i).filter p).map f,⟨n,by simp,Ϧ _,Λ,Λ⟩,?_⟩
 rintro i m acc j ⟨rfl,A,rfl,rfl⟩
 have t:(((ό i).filter p).map f).length<Χ:=by
  rw[Ο]
  have:=Ò p (ό i)
  rw[å]at this
  omega
 refine⟨t,?_⟩
 by_cases l:i<n
 ·refine .inr ⟨l,λh a=>a=j/\h=((ό (i+1)).filter p).map f,λh a u=>by obtain⟨v,w⟩:=u;exact⟨n - (i+1),by omega,Λ,l,v,w⟩,λx a y=>?_⟩
  obtain⟨e,y⟩:=y
  subst e y
  refine q i _ (λh d=>d=a/\h=((ό (i+1)).filter p).map f) l ⟨Λ,?_⟩
  rw[ĩ,ÿ]
  cases o:p i with
  |true=>simp[o]
  |false=>simp[o]
 ·have e:i=n:=by omega
  subst e
  exact .inl ⟨Ξ _,s⟩
theorem je(p:V->Bool)(f:V->V)(C:xs.length<Χ)(l:DS K H a xs)
  (v:∀(x:V)(acc:List V)(N:List V->Hp->Prop),x∈xs->N (if p x then acc++[f x] else acc) H->g x σ0 H λd c=>tt d c λb h=>if b=Δ then te d h λy w=>N (acc++[y]) w else N acc h)
  (z:∀D,H D=Γ->Q (.ref D) (π H D (.ρ ((xs.filter p).map f)))):
  e9 (yY K a) g tt te σ0 Q H:=by
 refine⟨λi m acc o=>m=xs.length - i/\i<=xs.length/\o=H/\acc=((xs.take i).filter p).map f,⟨xs.length,by simp,Ϧ _,Λ,Λ⟩,?_⟩
 rintro i m acc o ⟨rfl,E,rfl,rfl⟩
 have A:(((xs.take i).filter p).map f).length<Χ:=by
  rw[Ο]
  have q:=Ò p (xs.take i)
  have r:=Ą i xs
  omega
 refine⟨A,?_⟩
 by_cases s:i<xs.length
 ·refine .inr ⟨⟨xs,xs[i],l,by simp[s]⟩,λj c=>c=o/\j=((xs.take (i+1)).filter p).map f,λj c B=>by obtain⟨q,r⟩:=B;exact⟨xs.length - (i+1),by omega,Λ,s,q,r⟩,λx c y=>?_⟩
  obtain⟨e,y⟩:=y
  subst e
  have t:=y xs l
  refine v x _ (λj h=>h=c/\j=((xs.take (i+1)).filter p).map f) (Ϗ t) ⟨Λ,?_⟩
  rw[ß,t,ÿ]
  cases u:p x with
  |true=>simp[u]
  |false=>simp[u]
 ·have e:i=xs.length:=by omega
  subst e
  rw[Þ]
  exact .inl ⟨⟨xs,l,Ξ _⟩,z⟩
theorem kB(k:Int):∀a:List Int,B4 (.int k) (a.map V.int)=decide (k∈a)
 |[]=>by simp[B4]
 | n:: r=>by
  have b:=kB k r
  unfold B4 at b⊢
  rw[Ç,cy,b]
  show((n == k)||decide (k∈r))=decide (k∈n:: r)
  by_cases h:k=n
  ·subst h;simp
  ·have c:¬n=k:=λz=>h z.symm
   simp[h,c]
theorem gN:∀a:List Int,(a.map V.int).all gY=Δ
 |[]=>rfl
 |n:: r=>by rw[Ç,Rx,gN r];rfl
open PySem.Spec PyProof.Rows
section
open PySem.W
variable {prog:Program}{w:Ϭ}{A:Ð}{E:Ρ->ϊ->Prop}{s:ϊ}{K:ϣ}{x C:Ν}{name:Str}{v:Ρ}
end
section
variable {X:Cx}{o e value:Expr}{f:Str}{pos pos':Pos}{ta tv:TE}
end
end L2
namespace L2
open PySem
noncomputable def uk:Option Int->Ρ->Bool
 |none,v=>v == .none
 |some k,v=>Ā k v
noncomputable def zK:Option Int->Int
 |none=>4238894112
 |some k=>hashInt k
theorem cp(h:uk k v=Δ):(k=Γ/\v=.none)∨∃i t,k=Β i/\v=.int i t:=by
 cases k with
 |none=>exact .inl ⟨Λ,eq_of_beq h⟩
 |some i=>obtain⟨t,e⟩:=MG h;exact .inr ⟨i,t,Λ,e⟩
section
variable {prog:Program}{w:Ϭ}{A:Ð}{E:Ρ->ϊ->Prop}{s:ϊ}
theorem vt(h:Q 4238894112 {s with toks:=s.toks+1}):ϫ (ϩ prog w) A (pyHash .none) Q E s:=by
 have a:s.TypeIs .none "NoneType":=rfl
 unfold pyHash
 have c:[Į].any Ρ.onHeap=Ε:=rfl
 refine Τ ?_
 rw[cRoomFor,Θ (by rw[c];exact Ϝ)];refine Ϛ ?_
 refine Τ (ú a ļ.lookup ?_)
 rw[Θ (by rw[beq_builtin_none];exact Ϝ)]
 refine Τ (ú a ļ.lookup ?_)
 refine Τ (ų a ļ (Ĺ ļ a F.entry_NoneType_hash
  (wpAny_ret_mkInt ?_) (F.args_NoneType_hash_1 _)))
 exact Ϛ h
theorem D4(c:uk a u=Δ)(d:uk b v=Δ)(h:Q (decide (a=b)) s):ϫ (ϩ prog w) A (PySem.eqBool u v) Q E s:=by
 rcases cp c with ⟨rfl,rfl⟩|⟨i,t,rfl,rfl⟩<;>rcases cp d with ⟨rfl,rfl⟩|⟨j,f,rfl,rfl⟩
 ·unfold eqBool
  refine ľ ?_
  refine wpAny_ite_split (λ_=>Τ (JD (Ϛ (by simpa using h)))) (λn=>Κ Λ n)
 ·exact PySem.SeqAt.EqAt.none_int j f prog w E Q (by simpa using h)
 ·exact PySem.SeqAt.EqAt.int_none i t prog w E Q (by simpa using h)
 ·refine rz ?_
  have e:(i == j)=decide (Β i=Β j):=by
   by_cases q:i=j
   ·simp[q]
   ·simp[q]
  rw[e];exact h
end
noncomputable def c4(prog:Program)(w:Ϭ):KeyKind prog w (Option Int) where
 is:=uk
 hash:=zK
 inj:=λv a b ha hb=>by
  rcases cp ha with ⟨rfl,rfl⟩|⟨i,t,rfl,rfl⟩<;>rcases cp hb with ⟨rfl,e⟩|⟨j,t',rfl,e⟩
  ·rfl
  ·cases e
  ·cases e
  ·cases e;rfl
 byValue:=λk v h=>by
  rcases cp h with ⟨_,rfl⟩|⟨i,t,_,rfl⟩<;>rfl
 pyHash:=λ{A E s k v Q} hv h=>by
  rcases cp hv with ⟨rfl,rfl⟩|⟨i,t,rfl,rfl⟩
  ·exact vt h
  ·exact wpAny_pyHash_int h
 eqBool:=λhu hv h=>D4 hu hv h
 «strs»:=λk x t v h=>by
  rcases cp h with ⟨_,e⟩|⟨i,t,_,e⟩<;>cases e
open PySem.Spec PyProof.Rows
abbrev cC:=List (Option Int)
noncomputable def si:Option Int->V
 |none =>.Eg
 |some i =>.int i
abbrev Ent:=cC×Ν×V
abbrev m5(p:Ent)(q:cC×Ν×Ρ):Prop:=p.1=q.1/\p.2.1=q.2.1/\RelV p.2.2 q.2.2
def DO(P:Program)(w:Ϭ)(a:Ν)(kvs:List Ent):Ù->Prop:=λh=>kvs.length<=Χ/\(a == Û)=Ε/\∃xs,Paired m5 kvs xs/\
 ∃o es ep,h.get? a=Β o/\o.ExactDict/\o.data=.dict es ep/\es.toList=xs.map (Sl (Ī (c4 P w)))/\(xs.map (·.1)).Nodup
noncomputable def rn(P:Program)(w:Ϭ)(a:Ν)(kvs:List Ent):HO:=.ext (DO P w a kvs)
def EE(P:Program)(w:Ϭ)(H:Hp)(a:Ν)(kvs:List Ent):Prop:=H a=Β (rn P w a kvs)/\∀x∈kvs,H x.2.1=Β (.tup (x.1.map si))
theorem EE.same(h:EE P w H a kvs)(s:DP H H'):EE P w H' a kvs:=⟨s _ _ h.1,λx b=>s _ _ (h.2 x b)⟩
noncomputable def dM(kvs:List Ent)(k:cC):Option V:=(kvs.find? λx=>decide (x.1=k)).map (·.2.2)
noncomputable def uQ(k:cC)(v:V)(x:Ent):Ent:=if x.1=k then (x.1,x.2.1,v) else x
noncomputable def js(kvs:List Ent)(k:cC)(b:Ν)(v:V):List Ent:=if (dM kvs k).isSome then kvs.map (uQ k v) else kvs++[(k,b,v)]
theorem kF:dM [] k=Γ:=rfl
theorem cS:dM (x:: kvs) k=if x.1=k then Β x.2.2 else dM kvs k:=by
 unfold dM
 rw[õ]
 by_cases h:x.1=k
 ·rw[Ζ h,Ι h];rfl
 ·rw[Η h,Θ h]
theorem vO:dM (a.map (uQ k v)) k'=if k'=k then (dM a k).map (λ_=>v) else dM a k':=by
 induction a with
 |nil=>rw[Js,kF,kF];split<;>rfl
 | cons x a c =>
  rw[Ç,cS,c,cS,cS]
  unfold uQ
  by_cases h:x.1=k<;>by_cases b:k'=k
  ·have:x.1=k':=h.trans b.symm
   simp[h,b]
  ·have:¬x.1=k':=λz=>b (z.symm.trans h)
   rw[Ι h,Θ b,Θ this,Θ this,Θ b]
  ·subst b
   simp[h]
  ·simp[h,b]
theorem pN(h:dM a k=Γ):dM (a++[(k,b,v)]) k'=if k'=k then Β v else dM a k':=by
 induction a with
 | nil =>
  rw[ic,cS,kF]
  by_cases e:k'=k
  ·rw[Ι e,Ι e.symm]
  ·rw[Θ e,Θ (ϛ e)]
 | cons x a d =>
  rw[cS]at h
  by_cases c:x.1=k
  ·rw[Ι c]at h;cases h
  ·rw[Θ c]at h
   rw[List.cons_append,cS,d h,cS]
   by_cases e:k'=k
   ·subst e;rw[Θ c,Ι Λ,Ι Λ]
   ·rw[Θ e,Θ e]
theorem vN:dM (js kvs k b v) k'=if k'=k then Β v else dM kvs k':=by
 unfold js
 cases h:dM kvs k with
 |none=>rw[Θ (by simp)];exact pN h
 | some u =>
  rw[Ι (by simp),vO,h];rfl
theorem jG:(js kvs k b v).length<=kvs.length+1:=by
 unfold js
 split
 ·rw[Ο];omega
 ·rw[Υ];exact Ξ _
theorem uP{F:cC->Ν->Prop}(h:∀x∈kvs,F x.1 x.2.1)(d:F k b):∀x∈js kvs k b v,F x.1 x.2.1:=by
 intro x a
 unfold js at a
 split at a
 ·obtain⟨y,c,rfl⟩:=Õ.mp a
  unfold uQ
  split
  ·exact h y c
  ·exact h y c
 ·rcases Ϣ.mp a with q|q
  ·exact h x q
  ·rw[Φ.mp q];exact d
theorem p8(r:Paired m5 kvs xs)(k:cC):ET (dM kvs k) ((Ÿ xs k).map (·.2)):=by
 induction r with
 |nil=>exact À
 | @cons p q _ _ h1 _ ih =>
  rw[cS]
  unfold Ÿ at ih⊢
  rw[õ]
  by_cases e:p.1=k
  ·rw[Ι e,Ζ (h1.1.symm.trans e)];exact h1.2.2
  ·rw[Θ e,Η (λz=>e (h1.1.trans z))];exact ih
theorem eD(r:ET o u):o.isSome=u.isSome:=by
 cases o<;>cases u<;>first|rfl|exact r.elim
theorem uO(h:ET o u)(a:RelV d r):RelV (o.getD d) (u.getD r):=by
 cases o<;>cases u<;>first|exact a|exact h|exact h.elim
theorem AN(r:Paired m5 kvs xs)(a:RelV v u):Paired m5 (kvs.map (uQ k v)) (xs.map (Tp k u)):=by
 induction r with
 |nil=>exact .nil
 | @cons p q _ _ h1 _ ih =>
  refine .cons ?_ ih
  unfold uQ Tp
  by_cases e:p.1=k
  ·rw[Ι e,Ι (h1.1.symm.trans e)];exact⟨h1.1,h1.2.1,a⟩
  ·rw[Θ e,Θ (λz=>e (h1.1.trans z))];exact h1
theorem y9(r:Paired m5 kvs xs)(h:m5 p q):Paired m5 (kvs++[p]) (xs++[q]):=by
 induction r with
 |nil=>exact .cons h .nil
 |cons a _ b=>exact .cons a b
theorem AM(r:Paired m5 kvs xs)(a:RelV v u):Paired m5 (js kvs k b v) (Ik xs k b u):=by
 have h:=eD (p8 r k)
 rw[è]at h
 unfold js Ik
 rw[h]
 split
 ·exact AN r a
 ·exact y9 r ⟨Λ,Λ,a⟩
section
variable {P:Program}{w:Ϭ}{H:Hp}{h:Ù}{a b:Ν}{kvs:List Ent}{k:cC}
theorem jv:∀{k:cC}{us:List Ρ},υ (k.map si) us->ItemsAre (c4 P w) k us
 |[],_,.nil =>.nil
 |none:: _,_,.cons r t =>.cons (by have e:=r;subst e;rfl) (jv t)
 |some i:: _,_,.cons r t =>.cons (by obtain⟨c,e⟩:=(r);subst e;exact beq_self_eq_true i) (jv t)
theorem kj(ok:Ft P w H h)(e:H b=Β (.tup (k.map si))):(Ī (c4 P w)).is h k b:=by
 obtain⟨_,c,r,o,d,⟨f,n,g⟩,_⟩:=ok _ _ e
 exact⟨o,c.toArray,n,d,f,g,jv r⟩
theorem kC(ok:Ft P w H h)(e:EE P w H a kvs):kvs.length<=Χ/\(a == Û)=Ε/\∃xs,Paired m5 kvs xs/\h.DictOfH (Ī (c4 P w)) a xs:=by
 obtain⟨e,g⟩:=e
 obtain⟨⟨z,i,xs,r,o,j,l,d,m,s,t,u⟩,_⟩:=ok _ _ e
 refine⟨z,i,xs,r,o,j,l,d,m,s,t,?_,u⟩
 have all:∀{kvs:List Ent}{xs:List (cC×Ν×Ρ)},Paired m5 kvs xs->(∀x∈kvs,H x.2.1=Β (.tup (x.1.map si)))->∀x∈xs,(Ī (c4 P w)).is h x.1 x.2.1:=by
  intro kvs xs r
  induction r with
  |nil=>intro _ x c;cases c
  | @cons p q _ _ d _ ih =>
   intro f x c
   rcases Ϯ.mp c with rfl|c
   ·have:=f p ϟ
    rw[d.1,d.2.1]at this
    exact kj ok this
   ·exact ih (λy v=>f y (ϧ _ v)) x c
 exact all r g
theorem nK(d e:Ù)(p:DO P w a kvs d)(f:∀o,d.get? a=Β o->e.get? a=Β o):DO P w a kvs e:=by
 obtain⟨z,g,xs,r,o,i,j,q,c⟩:=p
 exact⟨z,g,xs,r,o,i,j,f _ q,c⟩
theorem yF(c:Û<h.objs.size):Er P w H (h.push {cls:=.type "dict",data:=.dict #[]}) h.objs.size (rn P w h.objs.size []):=
 ⟨⟨Ϧ _,beq_eq_false_iff_ne.mpr (ϛ (Ê c)),[],.nil,_,#[],0,Ϡ _ Λ,⟨Λ,Λ,Λ⟩,Λ,Λ,ä⟩,⟨_,Ϡ _ Λ⟩,λ_ _=>nK _ _⟩
end
def Be(P:Program)(w:Ϭ)(H:Hp)(a:Ν)(y:V)(r:Option V):Prop:=∃kvs k b,EE P w H a kvs/\y=.ref b/\H b=Β (.tup (k.map si))/\r=dM kvs k
section
variable {X:Cx}{ο:List (Ν×Obj)}{σ:St}{H:Hp}{s:ϊ}{a b:Ν}{y v d:V}{u r:Ρ}{o:Option V}{A:Ð}{E:Ρ->ϊ->Prop}
theorem yL(I:τ X ο σ H s):Û<s.heap.objs.size:=
 U5 (by decide) ((I.mod.glob.keeps I.bk).lt)
theorem WT(i:A.units+1<í)(I:τ X ο σ H s)(g:Be X.prog X.w H a y o)(j:RelV y u)(h:∀f,τ X ο σ H f->Q (.bool o.isSome) f):
  ϫ (ϩ X.prog X.w) A (compareOp .In u (.ref a)) Q E s:=by
 obtain⟨l,k,b,e,rfl,m,rfl⟩:=g
 cases (j)
 obtain⟨_,p,xs,c,t⟩:=kC I.DW e
 refine wpAny_in_heap (ó i) (kj I.DW m) p t ?_
 have q:=eD (p8 c k)
 rw[è]at q
 rw[←q]
 exact h _ (I.tok _)
theorem CQ(l:A.units+1<í)(I:τ X ο σ H s)(g:Be X.prog X.w H a y o)(m:RelV y u)(rd:RelV d r)(h:∀f i,τ X ο σ H i->RelV (o.getD d) f->Q f i):
  ϫ (ϩ X.prog X.w) A (call (.builtin "dict.get") [.ref a,u,r]) Q E s:=by
 obtain⟨p,k,b,e,rfl,q,rfl⟩:=g
 cases (m)
 obtain⟨_,t,xs,c,j⟩:=kC I.DW e
 exact call_meetsIn PySem.F.slot_dict_get j.typeIs PySem.F.entry_dict_get (PySem.F.args_dict_get_3 _ _ _) (meetsH_dict_get_default (Ī (c4 X.prog X.w)) a b t r)
  ⟨ó l,k,xs,kj I.DW q,j,h _ _ (I.tok _) (uO (p8 c k) rd)⟩
theorem Qh(j:A.units+1<í)(I:τ X ο σ H s)(e:EE X.prog X.w H a kvs)(l:H b=Β (.tup (k.map si)))(m:kvs.length<Χ)(p:RelV v r)
  (h:∀i,τ X ο σ (π H a (rn X.prog X.w a (js kvs k b v))) i->Q () i):ϫ (ϩ X.prog X.w) A (setItem (.ref a) (.ref b) r) Q E s:=by
 obtain⟨z,t,xs,f,B⟩:=kC I.DW e
 have C:xs.length<=Χ:=by rw[←Paired.length f];exact z
 have D:(js kvs k b v).length<=Χ:=Î jG m
 refine gi (hsz:=C) (ó j) (kj I.DW l) B λR F G=>h _ ?_
 obtain⟨q,J,K,g,L,M,N,_,O⟩:=F
 exact I.write (x:=a) (e:=a) (by rw[e.1];exact À) (.inl Λ) (λc q P z=>(G.2 c P).trans z) ⟨q,g⟩
  ⟨⟨D,t,_,AM f p,q,J,K,g,L,M,N,O⟩,⟨q,g⟩,λ_ _=>nK _ _⟩
theorem v5(I:τ X ο σ H s)(e:EE X.prog X.w H a kvs):s.TypeIs (.ref a) "dict"/\∀b,Æ a=.ref b->∃c,s.heap.get? b=Β c/\c.dict=Γ:=by
 obtain⟨_,_,xs,_,f⟩:=kC I.DW e
 refine⟨f.typeIs,λb q=>?_⟩
 cases q
 obtain⟨c,_,_,g,h,_⟩:=f
 exact⟨c,g,h.2.1⟩
end
def Bj(P:Program)(w:Ϭ):TE:=λ_ H Q=>∀p,H p=Γ->Q (.ref p) (π H p (rn P w p []))
inductive Uan(P:Program)(w:Ϭ)(Q:VK)(y:V)(x:V)(H2:Hp):Prop
 |mk (a o)(_:x=.ref a)(_:Be P w H2 a y o)(_:Q (.bl o.isSome) H2)
def WU(P:Program)(w:Ϭ)(ty td:TE):TE:=λσ H Q=>ty σ H λy H1=>td σ H1 λx H2=>Uan P w Q y x H2
inductive Uao(P:Program)(w:Ϭ)(D:pH)(σ:St)(v:V)(x:V)(y:V)(H3:Hp):Prop
 |mk (a kvs k b)(_:x=.ref a)(_:EE P w H3 a kvs)(_:y=.ref b)(_:H3 b=Β (.tup (k.map si)))(_:kvs.length<Χ)(_:D.nx σ (π H3 a (rn P w a (js kvs k b v))))
def Qi(P:Program)(w:Ϭ)(td ty tv:TE):TS:=λD σ H=>tv σ H λv H1=>td σ H1 λx H2=>ty σ H2 λy H3=>Uao P w D σ v x y H3
inductive Uap(P:Program)(w:Ϭ)(t:TA)(σ:St)(Q:VK)(x:V)(H1:Hp):Prop
 |mk (a kvs)(_:x=.ref a)(_:EE P w H1 a kvs)(_:t σ H1 λxs H2=>∃y z o,xs=[y,z]/\Be P w H2 a y o/\Q (o.getD z) H2)
def BM(P:Program)(w:Ϭ)(td:TE)(t:TA):TE:=λσ H Q=>td σ H λx H1=>Uap P w t σ Q x H1
section
variable {X:Cx}{o i e f value:Expr}{pos pos' apos E9:Pos}{td ty tv tx:TE}
theorem zI:PE X (.Dict [] [] pos) (Bj X.prog X.w):=λb s c H Q I h =>
 wpAny_Dict_empty ⟨.ref s.heap.objs.size,_,I.laid (a:=s.heap.objs.size) (o:=rn X.prog X.w s.heap.objs.size []) (t':=s.toks) (λ_ _ q=>ώ _ q) (Ξ _) (yF (yL I)),Λ,h _ (I.DW.fresh (Ξ _))⟩
theorem Cy(d:X.A.units+1<í)(j:PE X i ty)(l:PE X o td):PC X .In i o (WU X.prog X.w ty td):=by
 intro b s c H Q I h
 refine bj (j b s c H _ I h) λG m ⟨y,p,q,r,t⟩=>bj (l b m c p _ q t) λu J v=>?_
 obtain⟨x,z,B,C,a,D,ex,g,E⟩:=v
 subst ex
 obtain rfl:u=Æ a:=C
 exact WT d B g r λK F=>⟨.bl D.isSome,z,F,Λ,E⟩
theorem zG(g:X.A.units+1<í)(j:PE X o td)(l:PE X i ty)(m:PE X value tv)(p:ť value (Β (.Subscript o i pos')) pos.line X.env=pure Ε):
  PS X (.Assign [.Subscript o i pos'] value pos) (Qi X.prog X.w td ty tv):=by
 intro c s d H D I h
 refine ũ (bj (m c s d H _ I h) λr q ⟨v,t,z,B,C⟩=>bj (j c q d t _ z C) λu E ⟨x,F,G,J,K⟩=>bj (l c E d F _ G K) λL Y M=>?_) p
 obtain⟨y,Z,N,O,a,P,k,b,ex,e,Q,R,S,T⟩:=M
 subst ex Q
 obtain rfl:u=Æ a:=J
 obtain rfl:L=Æ b:=O
 exact Qh g N e R S B λs4 U=>⟨d,_,U,T⟩
theorem xt(q:X.A.units+1<í)(r:PE X o td)(u:PA X (e:: es) t)
  (B:autoParam (ł o "get" X.env (eval o X.env)=eval o X.env) η)
  (C:autoParam (((ē E9 (Á (e:: es) X.env)).all (λx=>!x.1)&& (oa E9 (Ŝ [] X.env)).all (λx=>x.1.isSome)&& decide ((e:: es).length+([]:List ot).length+(if ([]:List ot).isEmpty then 0 else 1)<30))=Δ) η)
  (D:autoParam ((apos.endLine == E9.line)=Δ) η) (E:autoParam (Á (e:: es) X.env=(Ε,eval e X.env):: Á es X.env) η) (G:autoParam ((ē E9 (Á es X.env)).any (·.1)=Ε) η):
  PE X (.Call (.Attribute o "get" apos) (e:: es) [] E9) (BM X.prog X.w td t):=by
 intro b s l H Q I h
 refine N4 B C D Λ (bj (r b s l H _ I h) λv J d=>?_)
 obtain⟨x,K,m,L,a,M,ex,N,O⟩:=d
 subst ex
 obtain rfl:v=Æ a:=L
 obtain⟨P,R⟩:=v5 m N
 refine⟨"dict","dict.get",PySem.F.plainAttrs_dict,PySem.F.slot_dict_get,PySem.F.type_dict_get,P,R,?_⟩
 have p:=u E9 b J l K _ m O
 rw[E]at p⊢
 refine ģ (by show(Ε||(ē E9 (Á es X.env)).any (·.1))=Ε;rw[G]<;>rfl) (Ŧ ?_)
 refine bj p λus s2 d=>?_
 obtain⟨vs,S,T,c,y,z,ov,j,g,U⟩:=d
 subst j
 cases c with
 | cons Y c=>cases c with
  | cons Z c=>cases c with
   |nil=>exact CQ q T g Y Z λw' s4 I4 Iu=>⟨_,S,I4,Iu,U⟩
end
structure BI(K:ϣ)(C:Ν)(m:Str)(f:Ν):Prop where
 reads:PySem.W.readsIn K C (.type "type")=Δ
 found:PySem.W.findCls K (.ref C) (.type "type") m=Β (.val (.ref f))
 spec:PySem.W.specialIn K (.ref C) "__getattribute__"=Β (Β (.builtin "type.__getattribute__"))
 kp:ϳ K (.ref f)=Δ
def BQ(C:Ν)(sp:Sp)(Fv:List V)(E:XK)(ta:TE)(t:TA):TE:=λσ H Q=>ta σ H λx H1=>x=.ref C/\t σ H1 λvs H2=>sp (vs++Fv) H2 Q E
section
variable {X:Cx}{CX:uC}{k:Nat}{f C:Ν}{fd:Ñ}{ps:List Str}{sp:Sp}{Fv:List V}{ds:List Ρ}{E:XK}{x m:Str}{p pos apos:Pos}{e o:Expr}{es:List Expr}{ta:TE}{t:TA}
theorem xw(j:PE X o ta)(b:BI X.K C m f)(F:DQ X.prog X.w X.K X.mg X.ν CX k f fd ps sp)(l:DZ k X.A)(v:Binds X.K fd ps ds)(y:υ Fv ds)(z:gF CX X E)(B:PA X (e:: es) t)
  (D:autoParam (Á (e:: es) X.env=(Ε,eval e X.env):: Á es X.env) η) (G:autoParam ((ē pos (Á es X.env)).any (·.1)=Ε) η)
  (J:eval (.Call (.Attribute o m apos) (e:: es) [] pos) X.env=(do
   let d ← eval o X.env
   Il apos.atName
   let (f,first) ← c0 [d] (getMethod d m pl)
   callWith pos f first (ē pos (Á (e:: es) X.env)) (oa pos (Ŝ [] X.env))):=by rfl):
  PE X (.Call (.Attribute o m apos) (e:: es) [] pos) (BQ C sp Fv E ta t):=by
 intro a s g H Q I h
 refine PySem.W.methodCall_KW (pl:=pl) (bj (j a s g H _ I h) λu P L=>?_) J
 obtain⟨x,M,c,N,ex,q⟩:=L
 subst ex
 obtain rfl:u=Æ C:=N
 refine PySem.W.method_cls c.FL b.spec (PySem.W.cls_value c.FL b.reads b.found Λ ?_)
 refine PySem.W.callWith_K (first:=[]) (h₀:=X.ν) I.ok.mod.KA b.kp (bj (B pos a _ g M _ (c.tok _) q) λus R ⟨S,T,i,r,O⟩=>⟨i.FL,?_⟩) D G
 exact oJ F l v y z i r O
end
section
variable {X:Cx}
end
section
variable {X:Cx}{tg:Expr}
inductive WV(x:V)(vs:List V)(H:Hp)(Q:VK):Prop
 |mk (l:Ν)(ns:List Int)(k:Int)(_:x=.ref l)(_:vs=[.int k])(_:H l=Β (.ρ (ns.map V.int)))(_:k∈ns)(_:ns.length<=100000)(_:Q (.int (ns.idxOf k:Nat)) H)
theorem nh:U7 X "list.index" WV:=by
 intro C s σ H x vs v us Q I L M h
 obtain⟨l,a,k,rfl,rfl,N,O,D,q⟩:=h
 cases L
 obtain⟨u,rfl,P⟩:=M.one
 obtain⟨t,rfl⟩:=P
 obtain⟨z,b,n,r,hl,e⟩:=I.Iv N
 have hi:=lL r
 have g:b.length=a.length:=by rw[←r.length,Ο]
 have o:=Ĵ O
 have d:∀m (c:m<b.toArray.size),∃t,b.toArray[m]=Ŗ (a[m]'(by simpa [g] using c)) t:=λm c=>by
  have A:m<b.length:=by simpa using c
  have R:(a.map V.int)[m]?=Β (V.int (a[m]'(by omega))):=by simp[show m<a.length by omega]
  obtain⟨w',G,S⟩:=r.get R
  obtain⟨f,rfl⟩:=S
  refine⟨f,?_⟩
  have:b[m]?=Β b[m]:=Μ A
  rw[this]at G
  simpa using Ψ G
 let T:Ρ->Bool:=λy=>Ā k y
 refine JG slot_list_index ⟨_,e,Λ⟩ PySem.F.entry_list_index (PySem.F.args_list_index_2 _ _)
  (SeqAt.list_indexAt l b.toArray n Γ #[] (.int k t) T (a.idxOf k) (by simpa [g] using o) (by omega) ?_ ?_) ⟨e,λy U=>?_,?_⟩
 ·obtain⟨f,j⟩:=d (a.idxOf k) (by simpa [g] using o)
  show Ā k (b.toArray[a.idxOf k]'(by simpa [g] using o))=Δ
  rw[j,Ly]
  simp[Ā]
 ·intro m c Y
  obtain⟨f,j⟩:=d m c
  show Ā k b.toArray[m]=Ε
  rw[j]
  have J:a[m]'(by simpa [g] using c)≠k:=λz=>by
   have:=List.not_of_lt_findIdx (p:=λx=>x == k) (xs:=a) (i:=m) Y
   rw[z]at this
   simp at this
  simp only[Ā,beq_eq_false_iff_ne,ne_eq]
  first|exact J|exact λz=>J z.symm
 ·have c:y∈b:=by simpa using U
  obtain⟨m,A,Z⟩:=ô c
  obtain⟨f,j⟩:=d m (by simpa using A)
  have ey:y=Ŗ (a[m]'(by omega)) f:=by rw[←Z];simpa using j
  subst ey
  intro K w E Q' B
  refine rz ?_
  have:(a[m]'(by omega) == k)=Ā k (Ŗ (a[m]'(by omega)) f):=by simp[Ā,Bool.beq_comm]
  rw[this]
  exact B
 ·exact⟨.int (a.idxOf k:Nat),H,I.tok _,⟨_,Λ⟩,q⟩
inductive Qj(K:ϣ)(xs:List V)(H:Hp)(Q:VK):Prop
 |mk (v:V)(t:Ρ)(c:String)(b:Bool)(_:xs=[v,.ty c])(_:jE K H v t)(_:Ğ K t (.type c)=Β b)(_:Q (.bl b) H)
theorem jg:du X (.builtin "isinstance") (Qj X.K):=by
 intro d s j H xs us Q I r h
 obtain⟨v,t,c,b,rfl,e,f,q⟩:=h
 cases r with
 | cons g a=>cases a with
  | cons a i =>
   cases i
   cases a
   exact vn I g e f λl=>⟨.bl b,H,I.tok _,Λ,q⟩
end
section
variable {κ:Type}[DecidableEq κ]
noncomputable def cU(kvs:List (κ×V))(k:κ):Option V:=(kvs.find? λkv=>decide (kv.1=k)).map (·.2)
noncomputable def eV(kvs:List (κ×V))(k:κ)(v:V):List (κ×V):=
 if (kvs.any λkv=>decide (kv.1=k))=Δ then kvs.map (λkv=>if kv.1=k then (kv.1,v) else kv) else kvs++[(k,v)]
theorem fV{k:κ}(e:p.1=k):cU (p:: r) k=Β p.2:=by simp[cU,õ,e]
theorem fW{k:κ}(e:¬p.1=k):cU (p:: r) k=cU r k:=by simp[cU,õ,e]
theorem i7(k:κ):∀a:List (κ×V),(a.any λb=>decide (b.1=k))=(cU a k).isSome
 |[]=>rfl
 | p:: r=>by
  rw[cy]
  by_cases e:p.1=k
  ·simp only[fV e,Ζ e,Bool.true_or,Option.isSome_some]
  ·rw[fW e,Η e,Hm];exact i7 k r
theorem gp(a:List (κ×V))(k:κ)(v:V):(eV a k v).length<=a.length+1:=by
 unfold eV
 split
 ·rw[Ο];omega
 ·rw[Υ,Ė,List.length_nil];omega
theorem ql{k:κ}(v:V)(h:cU kvs k=Γ):eV kvs k v=kvs++[(k,v)]:=by
 unfold eV
 rw[i7,h]
 exact Θ (by decide)
theorem ET.EW(r:ET o u):o.isSome=u.isSome:=by
 cases o with
 | none=>cases u with
  |none=>rfl
  |some _=>exact(r).elim
 | some _=>cases u with
  |none=>exact(r).elim
  |some _=>rfl
theorem KV.val(r:KV kvs vs)(k:κ):ET (cU kvs k) (n7 vs k):=by
 unfold KV at r
 induction r with
 |nil=>exact À
 | @cons p q ps qs h t ih =>
  obtain⟨c,d⟩:=h
  by_cases e:p.1=k
  ·have a:=c.symm.trans e
   have b:n7 (q:: qs) k=Β q.2:=by simp[n7,õ,a]
   rw[fV e,b];exact d
  ·have a:¬q.1=k:=λz=>e (c.trans z)
   have b:n7 (q:: qs) k=n7 qs k:=by simp[n7,õ,a]
   rw[fW e,b];exact ih
theorem KV.any(r:KV kvs vs)(k:κ):(kvs.any λa=>decide (a.1=k))=vs.any λa=>decide (a.1=k):=by
 unfold KV at r
 induction r with
 |nil=>rfl
 |cons h t b=>rw[cy,cy,b,h.1]
theorem KV.Nk(r:KV kvs vs)(k:κ)(c:RelV y u):
  KV (kvs.map λa=>if a.1=k then (a.1,y) else a) (vs.map λa=>if a.1=k then (a.1,u) else a):=by
 unfold KV at r⊢
 induction r with
 |nil=>exact .nil
 | @cons p q ps qs h t ih =>
  rw[Ç,Ç]
  refine .cons ?_ ih
  obtain⟨b,d⟩:=h
  by_cases e:p.1=k
  ·rw[Ι e,Ι (b.symm.trans e)];exact⟨b,c⟩
  ·rw[Θ e,Θ (λz=>e (b.trans z))];exact⟨b,d⟩
theorem KV.put(r:KV kvs vs)(k:κ)(a:RelV y u):KV (eV kvs k y) (stored vs k u):=by
 unfold eV stored
 rw[r.any k]
 by_cases e:(vs.any λb=>decide (b.1=k))=Δ
 ·rw[Ι e,Ι e];exact r.Nk k a
 ·rw[Θ e,Θ e];exact Paired.snoc r ⟨Λ,a⟩
theorem KV.keys{a:List (κ×Ρ)}(r:KV kvs a):kvs.map (·.1)=a.map (·.1):=by
 unfold KV at r
 induction r with
 |nil=>rfl
 |cons h t b=>rw[Ç,Ç,b,h.1]
theorem KV.length{a:List (κ×Ρ)}(r:KV kvs a):kvs.length=a.length:=Paired.length r
end
theorem n8(r:RelV (kV k) u):(bA P w).is k u=Δ:=by
 cases k with
 |inl i=>obtain⟨t,e⟩:=(r);subst e;exact qz P w i t
 |inr x=>obtain⟨t,e⟩:=(r);subst e;exact qy P w x t
theorem n9:∀{ks:List Key}{us:List Ρ},υ (ks.map kV) us->ItemsAre (bA P w) ks us
 |[],_,r=>by rw[Js]at r;cases r;exact .nil
 | k:: ks,_,r=>by
  rw[Ç]at r
  cases r with
  |cons h t=>exact .cons (n8 h) (n9 t)
abbrev KT(H:Hp):List (List Key×V)->List (List Key×Ν×Ρ)->Prop:=Paired λp q=>p.1=q.1/\H q.2.1=Β (.tup (p.1.map kV))/\RelV p.2 q.2.2
theorem KT.val(r:KT H kvs xs)(k:List Key):ET (cU kvs k) ((Ÿ xs k).map (·.2)):=by
 induction r with
 |nil=>exact À
 | @cons p q ps qs h t ih =>
  obtain⟨c,_,d⟩:=h
  by_cases e:p.1=k
  ·have a:=c.symm.trans e
   have b:Ÿ (q:: qs) k=Β q.2:=by simp[Ÿ,õ,a]
   rw[fV e,b];exact d
  ·have a:¬q.1=k:=λz=>e (c.trans z)
   have b:Ÿ (q:: qs) k=Ÿ qs k:=by simp[Ÿ,õ,a]
   rw[fW e,b];exact ih
theorem KT.Nk(r:KT H kvs xs)(k:List Key)(d:RelV y u):
  KT H (kvs.map λb=>if b.1=k then (b.1,y) else b) (xs.map (Tp k u)):=by
 induction r with
 |nil=>exact .nil
 | @cons p q ps qs h t ih =>
  rw[Ç,Ç]
  refine .cons ?_ ih
  obtain⟨a,c,f⟩:=h
  unfold Tp
  by_cases e:p.1=k
  ·rw[Ι e,Ι (a.symm.trans e)];exact⟨a,c,d⟩
  ·rw[Θ e,Θ (λz=>e (a.trans z))];exact⟨a,c,f⟩
theorem KT.put(r:KT H kvs xs)(k:List Key)(c:H b=Β (.tup (k.map kV)))(a:RelV y u):
  KT H (eV kvs k y) (Ik xs k b u):=by
 have e:(kvs.any λd=>decide (d.1=k))=(Ÿ xs k).isSome:=by
  rw[i7,(r.val k).EW,è]
 unfold eV Ik
 rw[e]
 by_cases q:(Ÿ xs k).isSome=Δ
 ·rw[Ι q,Ι q];exact r.Nk k a
 ·rw[Θ q,Θ q];exact Paired.snoc r ⟨Λ,c,a⟩
theorem KT.keeps(r:KT H kvs xs)(c:∀b a,H b=Β (.tup a)->H' b=Β (.tup a)):KT H' kvs xs:=
 Paired.MS r λ_ _ z=>⟨z.1,c _ _ z.2.1,z.2.2⟩
section
variable {P:Program}{w:Ϭ}{H:Hp}{h:Ù}{a:Ν}
theorem B1(ok:Ft P w H h)(e:Rd H a u):Er P w H h a u:=e.ok ok
theorem jP(ok:Ft P w H h)(e:Rd H a (.dK kvs)):kvs.length<=Χ/\(a == Û)=Ε/\∃b,KV kvs b/\h.DictOf (bA P w) a b:=
 show Er P w H h a (.dK kvs) from B1 ok e
theorem yC(ok:Ft P w H h)(e:H a=Β (.dK kvs)):kvs.length<=Χ/\(a == Û)=Ε/\∃b,KV kvs b/\h.DictOf (bA P w) a b:=jP ok (.inl e)
theorem lI(ok:Ft P w H h)(e:H a=Β (.tup (ks.map kV))):(Ī (bA P w)).is h ks a:=by
 obtain⟨_,b,r,o,c,⟨d,n,f⟩,_⟩:=(ok a _ e)
 exact⟨o,b.toArray,n,c,d,f,by simpa using n9 r⟩
theorem nJ(ok:Ft P w H h)(e:Rd H a (.dT kvs)):kvs.length<=Χ/\(a == Û)=Ε/\
  ∃xs,KT H kvs xs/\h.DictOfH (Ī (bA P w)) a xs:=by
 obtain⟨z,y,xs,r,o,c,d,f,g,i,j,s⟩:=(B1 ok e)
 refine⟨z,y,xs,r,o,c,d,f,g,i,j,λx b=>?_,s⟩
 have all:∀{l:List (List Key×V)}{m:List (List Key×Ν×Ρ)},KT H l m->∀x∈m,(Ī (bA P w)).is h x.1 x.2.1:=by
  intro l m q
  induction q with
  |nil=>intro x b;exact nomatch b
  | @cons p q ps qs hq t ih =>
   intro x b
   rcases Ϯ.mp b with e|b
   ·subst e
    exact lI ok (by rw[←hq.1];exact hq.2.1)
   ·exact ih x b
 exact all r x b
theorem Qk(ok:Ft P w H h)(e:H a=Β (.dT kvs)):kvs.length<=Χ/\(a == Û)=Ε/\
  ∃xs,KT H kvs xs/\h.DictOfH (Ī (bA P w)) a xs:=nJ ok (.inl e)
end
def F2(H:Hp)(a:Ν)(y:V)(r:Option V):Prop:=
 (∃kvs k,Rd H a (.dK kvs)/\y=kV k/\r=cU kvs k)∨∃kvs k b,Rd H a (.dT kvs)/\y=.ref b/\H b=Β (.tup (k.map kV))/\r=cU kvs k
def IB(H:Hp)(a:Ν)(y v:V)(H':Hp):Prop:=
 (∃kvs k,H a=Β (.dK kvs)/\y=kV k/\kvs.length<Χ/\H'=π H a (.dK (eV kvs k v)))∨
 ∃kvs k b,H a=Β (.dT kvs)/\y=.ref b/\H b=Β (.tup (k.map kV))/\kvs.length<Χ/\H'=π H a (.dT (eV kvs k v))
theorem F2.k{k:Key}(e:H a=Β (.dK kvs)):F2 H a (kV k) (cU kvs k):=.inl ⟨kvs,k,.inl e,Λ,Λ⟩
theorem IB.k{k:Key}(e:H a=Β (.dK kvs))(b:kvs.length<Χ):IB H a (kV k) v (π H a (.dK (eV kvs k v))):=.inl ⟨kvs,k,e,Λ,b,Λ⟩
section
variable {X:Cx}{ο:List (Ν×Obj)}{σ:St}{H:Hp}{s:ϊ}{a:Ν}{y v:V}{u r:Ρ}{o:Option V}{A:Ð}{E:Ρ->ϊ->Prop}
theorem τ.big(I:τ X ο σ H s):Û<s.heap.objs.size:=by
 have h:=(I.mod.glob.keeps I.bk).lt
 exact U5 (by decide) h
theorem v8(B:A.units+1<í)(I:τ X ο σ H s)(g:F2 H a y (Β v))(t:RelV y u)(h:∀d x,τ X ο σ H x->RelV v d->Q d x):
  ϫ (ϩ X.prog X.w) A (getItem (.ref a) u) Q E s:=by
 rcases g with ⟨f,k,e,i,l⟩|⟨f,k,b,e,i,C,l⟩
 ·subst i
  obtain⟨z,D,F,c,j⟩:=jP I.DW e
  obtain⟨d,m,q⟩:=ET.some_of (v:=v) (o:=n7 F k) (by rw[l];exact c.val k)
  exact wpAny_getItem_of (n8 t) j.mapOf m (h d _ (I.tok _) q)
 ·subst i
  cases (t)
  obtain⟨z,D,xs,c,j⟩:=nJ I.DW e
  obtain⟨d,m,q⟩:=ET.some_of (v:=v) (o:=(Ÿ xs k).map (·.2)) (by rw[l];exact c.val k)
  obtain⟨p,G,J⟩:=Option.map_eq_some_iff.mp m
  refine wpAny_getItem_heap (ó B) (lI I.DW C) j G ?_
  rw[J]
  exact h d _ (I.tok _) q
theorem WW(t:A.units+1<í)(I:τ X ο σ H s)(g:F2 H a y o)(m:RelV y u)(h:∀p,τ X ο σ H p->Q (.bool o.isSome) p):
  ϫ (ϩ X.prog X.w) A (compareOp .In u (.ref a)) Q E s:=by
 rcases g with ⟨d,k,e,f,l⟩|⟨d,k,b,e,f,x,l⟩
 ·subst f
  obtain⟨z,i,B,c,j⟩:=jP I.DW e
  refine wpAny_in_of (n8 m) i j.mapOf ?_
  rw[←(c.val k).EW,←l]
  exact h _ (I.tok _)
 ·subst f
  cases (m)
  obtain⟨z,i,xs,c,j⟩:=nJ I.DW e
  refine wpAny_in_heap (ó t) (lI I.DW x) i j ?_
  have q:=(c.val k).EW
  rw[è]at q
  rw[←q,←l]
  exact h _ (I.tok _)
theorem AO(t:A.units+1<í)(I:τ X ο σ H s)(g:F2 H a y o)(m:RelV y u)(h:∀p,τ X ο σ H p->Q (.bool (!o.isSome)) p):
  ϫ (ϩ X.prog X.w) A (compareOp .NotIn u (.ref a)) Q E s:=by
 rcases g with ⟨d,k,e,f,l⟩|⟨d,k,b,e,f,x,l⟩
 ·subst f
  obtain⟨z,i,B,c,j⟩:=jP I.DW e
  refine wpAny_notIn_of (n8 m) i j.mapOf ?_
  rw[←(c.val k).EW,←l]
  exact h _ (I.tok _)
 ·subst f
  cases (m)
  obtain⟨z,i,xs,c,j⟩:=nJ I.DW e
  refine wpAny_notIn_heap (ó t) (lI I.DW x) i j ?_
  have q:=(c.val k).EW
  rw[è]at q
  rw[←q,←l]
  exact h _ (I.tok _)
theorem pA(I:τ X ο σ H s)(d:Pp (H a))(f:Ħ a s.heap h')(g:∃q,h'.get? a=Β q)(new:Er X.prog X.w (π H a ob) h' a ob):
  τ X ο σ (π H a ob) {s with heap:=h',toks:=t'}:=
 I.write (x:=a) (e:=a) d (.inl Λ) (λb q h z=>(f.2 b h).trans z) g new
theorem yD(z:kvs.length<=Χ)(c:(a == Û)=Ε)(b:KV kvs vs)(d:h'.DictOf (bA P w) a vs):
  Er P w H' h' a (.dK kvs):=⟨z,c,vs,b,d⟩
theorem v7(N:A.units+1<í)(I:τ X ο σ H s)(g:IB H a y v H')(F:RelV y u)(G:RelV v r)(h:∀J,τ X ο σ H' J->Q () J):
  ϫ (ϩ X.prog X.w) A (setItem (.ref a) u r) Q E s:=by
 rcases g with ⟨d,k,e,m,l,p⟩|⟨d,k,b,e,m,K,l,p⟩
 ·subst m p
  obtain⟨z,t,O,f,x⟩:=yC I.DW e
  have B:O.length<=Χ:=by rw[←f.length];exact z
  have C:(eV d k v).length<=Χ:=by have:=gp d k v;omega
  refine wpAny_setItem_pairs (hsz:=B) (n8 F) x λL i D=>h _ ?_
  have P:∃q,L.get? a=Β q:=let ⟨q,_,_,j,_⟩:=i;⟨q,j⟩
  exact pA I (by rw[e];exact À) D P (yD C t (f.put k G) i)
 ·subst m p
  cases (F)
  obtain⟨z,t,xs,f,x⟩:=Qk I.DW e
  have B:xs.length<=Χ:=by rw[←Paired.length f];exact z
  have C:(eV d k v).length<=Χ:=by have:=gp d k v;omega
  refine gi (hsz:=B) (ó N) (lI I.DW K) x λL i D=>h _ ?_
  obtain⟨q,R,S,j,T,U,Y,_,Z⟩:=i
  refine pA I (by rw[e];exact À) D ⟨q,j⟩ ⟨C,t,_,(f.put k K G).keeps λc ys M=>?_,q,R,S,j,T,U,Y,Z⟩
  rw[af (aT M e (λz=>nomatch z))]
  exact M
end
section
variable {X:Cx}{ο:List (Ν×Obj)}{σ:St}{H:Hp}{s:ϊ}{a:Ν}{kvs:List (Key×V)}{k:Key}{u:Ρ}{A:Ð}{E:Ρ->ϊ->Prop}
theorem Ql(I:τ X ο σ H s)(e:Rd H a (.dK kvs))(h:∀t c,τ X ο σ H c->Q (.int kvs.length t) c):ϫ (ϩ X.prog X.w) A (call (.builtin "len") [.ref a]) Q E s:=by
 obtain⟨z,d,g,b,f⟩:=jP I.DW e
 refine call_len_dict d f (by rw[←b.length];rw[ϗ]at z;omega) ?_
 rw[←b.length]
 exact h _ _ (I.tok _)
end
def Qm(i:Expr):Prop:=∀ov iv,A6 i Ε ov iv=operate [ov,iv] (getItem ov iv)
theorem zi{T j:String}
  (l:JE (.type T) "__getitem__"=pure (Β (.builtin j))) (m:Qm slice)
  (h:ϫ (ϩ prog w) A (eval value env) (λo c=>ϫ (ϩ prog w) A (eval slice env) (λi a=>a.TypeIs o T/\ϫ (ϩ prog w) A (getItem o i) Q E a) E c) E s):
  ϫ (ϩ prog w) A (eval (.Subscript value slice pos) env) Q E s:=by
 refine S1 (ò h (λo c e=>ò e (λi a b=>?_) λ_ _ x=>x) λ_ _ x=>x)
 obtain⟨g,b⟩:=b
 unfold subscriptTail
 refine Τ ?_
 rw[getitemInPython_of_ne g.not_modules]
 refine Τ (ú g l ?_)
 have fin:ϫ (ϩ prog w) A (A6 slice Ε o i) (λr d=>ϫ (ϩ prog w) A (letTemporaryGo value o r >>=λ_=>pure r) Q E d) E a:=by
  rw[m o i]
  exact wpAny_operating (ò b (λr d f=>Τ (wpAny_letTemporaryGo (Ϛ f))) λ_ _ x=>x)
 first
  |exact Ϛ (Τ fin)
  |exact Τ (Ϛ (Τ fin))
  |exact Τ fin
theorem qP{f:St}(I:τ X ο f H s)(g:F2 H a y o):s.TypeIs (.ref a) "dict":=by
 rcases g with ⟨c,k,e,_,_⟩|⟨c,k,b,e,_,_,_⟩
 ·obtain⟨_,_,h,_,d⟩:=jP I.DW e
  exact d.typeIs
 ·obtain⟨_,_,xs,_,d⟩:=nJ I.DW e
  exact d.typeIs
inductive Uaq(Q:VK)(x:V)(y:V)(H2:Hp):Prop
 |mk (a v)(_:x=.ref a)(_:F2 H2 a y (Β v))(_:Q v H2)
def Qn(td ty:TE):TE:=λσ H Q=>td σ H λx H1=>ty σ H1 λy H2=>Uaq Q x y H2
inductive Uar(Q:VK)(y:V)(x:V)(H2:Hp):Prop
 |mk (a o)(_:x=.ref a)(_:F2 H2 a y o)(_:Q (.bl o.isSome) H2)
def WX(ty td:TE):TE:=λσ H Q=>ty σ H λy H1=>td σ H1 λx H2=>Uar Q y x H2
inductive Uas(Q:VK)(y:V)(x:V)(H2:Hp):Prop
 |mk (a o)(_:x=.ref a)(_:F2 H2 a y o)(_:Q (.bl (!o.isSome)) H2)
def zh(ty td:TE):TE:=λσ H Q=>ty σ H λy H1=>td σ H1 λx H2=>Uas Q y x H2
inductive Uat(D:pH)(σ:St)(v:V)(x:V)(y:V)(H3:Hp):Prop
 |mk (a H4)(_:x=.ref a)(_:IB H3 a y v H4)(_:D.nx σ H4)
def Qo(td ty tv:TE):TS:=λD σ H=>tv σ H λv H1=>td σ H1 λx H2=>ty σ H2 λy H3=>Uat D σ v x y H3
section
variable {X:Cx}{o i e value:Expr}{pos pos' Hk:Pos}{td ty tv:TE}
theorem tM(f:X.A.units+1<í)(j:PE X o td)(l:PE X i ty)(m:Qm i):PE X (.Subscript o i pos) (Qn td ty):=by
 intro b s c H Q I h
 refine zi PySem.F.slot_dict_getitem.lookup m (bj (j b s c H _ I h) λu p ⟨x,q,r,t,w⟩=>bj (l b p c q _ r w) λJ K z=>?_)
 obtain⟨y,B,d,C,a,v,ex,g,D⟩:=z
 subst ex
 obtain rfl:u=Æ a:=t
 exact⟨qP d g,v8 f d g C λL M E G=>⟨v,B,E,G,D⟩⟩
theorem Cz(d:X.A.units+1<í)(f:PE X i ty)(j:PE X o td):PC X .In i o (WX ty td):=by
 intro b s c H Q I h
 refine bj (f b s c H _ I h) λE l ⟨y,m,p,q,r⟩=>bj (j b l c m _ p r) λu F t=>?_
 obtain⟨x,v,w,z,a,B,ex,g,C⟩:=t
 subst ex
 obtain rfl:u=Æ a:=z
 exact WW d w g q λG D=>⟨.bl B.isSome,v,D,Λ,C⟩
theorem gJ(d:X.A.units+1<í)(f:PE X i ty)(j:PE X o td):PC X .NotIn i o (zh ty td):=by
 intro b s c H Q I h
 refine bj (f b s c H _ I h) λD l ⟨y,m,p,q,r⟩=>bj (j b l c m _ p r) λu E t=>?_
 obtain⟨x,v,w,z,a,ov,ex,g,B⟩:=t
 subst ex
 obtain rfl:u=Æ a:=z
 exact AO d w g q λG C=>⟨.bl (!ov.isSome),v,C,Λ,B⟩
theorem oM(d:X.A.units+1<í)(f:PE X o td)(j:PE X i ty)(l:PE X value tv)(m:ť value (Β (.Subscript o i pos')) pos.line X.env=pure Ε):
  PS X (.Assign [.Subscript o i pos'] value pos) (Qo td ty tv):=by
 intro b s c H D I h
 refine ũ (bj (l b s c H _ I h) λr p ⟨v,q,t,w,z⟩=>bj (f b p c q _ t z) λu B ⟨x,C,E,F,G⟩=>bj (j b B c C _ E G) λP Q J=>?_) m
 obtain⟨y,R,K,L,a,M,ex,g,N⟩:=J
 subst ex
 obtain rfl:u=Æ a:=F
 exact v7 d K g L w λS O=>⟨c,M,O,N⟩
end
theorem yE(h:Ù)(a:Û<h.objs.size):Er P w H (h.push {cls:=.type "dict",data:=.dict #[]}) h.objs.size (.dK []):=
 ⟨Ϧ _,beq_eq_false_iff_ne.mpr (ϛ (Ê a)),[],.nil,Ù.DictOf.new h⟩
def BO:TE:=λ_ H Q=>∀p,H p=Γ->Q (.ref p) (π H p (.dK []))
section
variable {X:Cx}{pos:Pos}
theorem lm:PE X (.Dict [] [] pos) BO:=λb s c H Q I h =>
 wpAny_Dict_empty ⟨.ref s.heap.objs.size,_,I.laid (a:=s.heap.objs.size) (o:=.dK []) (t':=s.toks) (λ_ _ q=>ώ _ q) (Ξ _) (yE s.heap I.big),Λ,h _ (I.DW.fresh (Ξ _))⟩
end
def vW:List (TE×TE)->St->Hp->(List (V×V)->Hp->Prop)->Prop
 |[],_,H,Q=>Q [] H
 |(tk,tv):: r,σ,H,Q=>tk σ H λx H1=>tv σ H1 λy H2=>vW r σ H2 λps H3=>Q ((x,y):: ps) H3
abbrev VV:List (V×V)->List (Ρ×Ρ)->Prop:=Paired λp q=>RelV p.1 q.1/\RelV p.2 q.2
def WY(X:Cx)(pos:Pos)(keys:List (Option Expr))(values:List Expr)(UG:List (TE×TE)):Prop:=
 ∀(ο:List (Ν×Obj))(s:ϊ)(σ:St)(H:Hp)(Q:List (V×V)->Hp->Prop),τ X ο σ H s->vW UG σ H Q->
  ϫ (ϩ X.prog X.w) X.A (evalPairs (pairTrees keys values X.env pos)) (λvs s'=>∃ps H',τ X ο σ H' s'/\VV ps vs/\Q ps H') X.xe s
theorem zH:WY X pos [] [] []:=λa s b H Q I h=>pairTrees_nil_walk ⟨[],H,I,.nil,h⟩
theorem xp(d:PE X k tk)(e:PE X v tv)(f:WY X pos ks vs UG):
  WY X pos (Β k:: ks) (v:: vs) ((tk,tv):: UG):=λa s b H Q I h =>
 pairTrees_cons_walk (bj (d a s b H _ I h) λu g ⟨x,i,j,l,m⟩=>bj (e a g b i _ j m) λC o ⟨y,p,q,r,t⟩ =>
  bj (f a o b p _ q t) λD E w=>by obtain⟨ps,z,A,c,B⟩:=w;exact⟨(x,y):: ps,z,A,.cons ⟨l,r⟩ c,B⟩)
structure M2(X:Cx)(o:Expr)(m:Str)(apos:Pos)(e f:Expr)(E9:Pos):Prop where
 ν:ł o m X.env (eval o X.env)=eval o X.env
 E4:((ē E9 (Á [e,f] X.env)).all (λx=>!x.1)&& (oa E9 (Ŝ [] X.env)).all (λx=>x.1.isSome)
  && decide (([e,f]:List Expr).length+([]:List ot).length+(if ([]:List ot).isEmpty then 0 else 1)<30))=Δ
 line:(apos.endLine == E9.line)=Δ
 trees:ē E9 (Á [e,f] X.env)=[(Ε,eval e X.env),(Ε,eval f X.env)]
def IsD(H:Hp)(a:Ν):Prop:=(∃kvs,Rd H a (.dK kvs))∨∃kvs,Rd H a (.dT kvs)
theorem Dr{l:St}(I:τ X ο l H s)(d:IsD H a):
  s.TypeIs (.ref a) "dict"/\(∀b,Æ a=.ref b->∃c,s.heap.get? b=Β c/\c.dict=Γ)/\(a == Û)=Ε:=by
 rcases d with ⟨g,e⟩|⟨g,e⟩
 ·obtain⟨_,h,m,_,f⟩:=jP I.DW e
  refine⟨f.typeIs,λb q=>?_,h⟩
  cases q
  obtain⟨c,_,_,i,j,_⟩:=f
  exact⟨c,i,j.2.1⟩
 ·obtain⟨_,h,xs,_,f⟩:=nJ I.DW e
  refine⟨f.typeIs,λb q=>?_,h⟩
  cases q
  obtain⟨c,_,_,i,j,_⟩:=f
  exact⟨c,i,j.2.1⟩
section
variable {X:Cx}{ο:List (Ν×Obj)}{σ:St}{H:Hp}{s:ϊ}{a:Ν}{y d:V}{u r:Ρ}{o:Option V}{A:Ð}{E:Ρ->ϊ->Prop}
end
section
variable {X:Cx}{o e f:Expr}{apos E9:Pos}{td ty tx:TE}
end
section
variable {X:Cx}{ο:List (Ν×Obj)}{σ:St}{H:Hp}{s:ϊ}{a:Ν}{kvs:List (Key×V)}{A:Ð}{E:Ρ->ϊ->Prop}
end
section
variable {X:Cx}{ο:List (Ν×Obj)}{σ:St}{H:Hp}{s:ϊ}{a:Ν}{y:V}{u:Ρ}{A:Ð}{E:Ρ->ϊ->Prop}
end
section
variable {X:Cx}
theorem vC:du X (.builtin "len") (λxs H Q=>∃a b,xs=[V.ref a]/\H a=Β (.dK b)/\Q (.int b.length) H):=by
 intro c s g H xs us Q I r h
 obtain⟨a,b,rfl,d,q⟩:=h
 obtain⟨u,rfl,e⟩:=kE r
 cases e
 exact Ql I (.inl d) λt i f=>⟨.int b.length,H,f,⟨t,Λ⟩,q⟩
end
section
variable {κ:Type}[DecidableEq κ]
end
theorem ue(h:(bA P w).is k u=Δ):RelV (kV k) u:=by
 rcases bS (h) with ⟨i,t,rfl,rfl⟩|⟨x,t,rfl,rfl⟩
 ·exact⟨t,Λ⟩
 ·exact⟨t,Λ⟩
def DcO(P:Program)(w:Ϭ)(o:Obj)(kvs:List (Key×V))(ep:Nat):Prop:=∃vs es,KV kvs vs/\o.ExactDict/\o.data=.dict es ep/\KeysOf (bA P w) es/\Pairs (bA P w) es.toList vs/\(vs.map (·.1)).Nodup
noncomputable def O8(a:Ν)(o:Obj)(kvs:List (Key×V)):It:=
 ⟨λi H=>H a=Β (.Fq o (.dK kvs))/\i<kvs.length,λi H x H'=>H'=H/\∃k,(kvs.map (·.1))[i]?=Β k/\x=kV k,λi H=>H a=Β (.Fq o (.dK kvs))/\i=kvs.length⟩
theorem τ.Mg{b:St}(I:τ X ο b H s)(c:H a=Β (.Fq o u)):s.heap.get? a=Β o:=(I.DW a _ c).1
theorem uG{K:ϣ}(a it:Ν)(o:Obj)(m:List (Key×V))(t:Nat)(hD:DcO P w o m t):pF P w K tg (O8 a o m) [it] it (λi h=>h.IsKeyIter it a i m.length t) where
 mem:=by simp
 obj:=λi h f b p=>by
  have e:b=it:=by simpa using p
  subst e
  obtain⟨q,e,c,d⟩:=f
  exact⟨q,e,λv z=>by rw[d]at z;cases z⟩
 keep:=λi h u f k=>by
  obtain⟨q,e,c,d⟩:=f
  exact⟨q,k it (by simp) q e,c,d⟩
 item:=by
  intro X A B C hc i j s σ H E I x f D
  subst A B C
  obtain⟨F,hi⟩:=D
  obtain⟨l,G,g,J,L,M,N,O⟩:=hD
  obtain⟨Q,R,f2,S,T,U⟩:=x it (by simp)
  have y:=g.length
  have hv:l[i]?=Β (l[i]'(by omega)):=Μ (by omega)
  have f:s.heap.IsKeyIter it a i l.length t:=by rw[←y];exact f
  refine wpAny_pyNext_dict_item (knd:=bA X.prog X.w) (k:=(l[i]'(by omega)).1) (v:=(l[i]'(by omega)).2) f ⟨o,G,I.Mg F,J,L,M,N,O⟩ hv λY u hk Z sb=>?_
  rw[←y]at Z
  have I1:=I.turned (t':=s.toks) (λb o p e=>(sb.2 b p).trans e) Q R S T U
  obtain⟨q,e,c,d⟩:=id Z
  exact⟨Y,Λ,uq (s:={s with heap:=u}) e c d (by decide) ⟨_,H,I1,ue hk,⟨Λ,_,by rw[g.keys,ϝ,hv];rfl,Λ⟩,Z,λb p=>(x b p).1⟩⟩
 done:=by
  intro X A B C hc i j s σ H E I x f D
  subst A B C
  obtain⟨F,rfl⟩:=D
  obtain⟨l,G,g,J,L,M,N,O⟩:=hD
  obtain⟨Q,R,f2,S,T,U⟩:=x it (by simp)
  have y:=g.length
  have f:s.heap.IsKeyIter it a l.length l.length t:=by rw[←y];exact f
  exact wpAny_pyNext_dict_end (knd:=bA X.prog X.w) (I.ok.hd hc) f ⟨o,G,I.Mg F,J,L,M,N,O⟩ (Í (Ξ _)) λu eb=>⟨Λ,I.turned (t':=s.toks) (λb o p e=>eb b o p e) Q R S T U⟩
 self:=λ_ _ _ _ _ f h=>wpAny_pyIter_keyiter f h
theorem oh:∀{xs:List V}{us:List Ρ},xs.length=us.length->(∀(i:Nat)(x:V)(u:Ρ),xs[i]?=Β x->us[i]?=Β u->RelV x u)->υ xs us:=by
 intro xs;induction xs with
 |nil=>intro us a h;cases us with|nil=>exact .nil|cons=>cases a
 |cons x xs b=>intro us a h;cases us with|nil=>cases a|cons u us=>exact .cons (h 0 x u rfl rfl) (b (by simpa using a) λi x u c d=>h (i+1) x u c d)
section
variable {X:Cx}{tg:Expr}
inductive Uau(R:It->Hp->Prop)(x:V)(H1:Hp):Prop
 |mk (a kvs)(_:x=.ref a)(_:H1 a=Β (.dK kvs))(_:∀o,R (O8 a o kvs) (π H1 a (.Fq o (.dK kvs))))
def Qp(tl:TE):TI:=λσ H R=>tl σ H λx H1=>Uau R x H1
theorem oO(J:PE X l tl):PI X tg l (Qp tl):=by
 intro c s B H R I h
 refine bj (J c s B H _ I h) λv d K=>?_
 obtain⟨x,L,C,M,N⟩:=K
 obtain⟨a,g,e,D,q⟩:=N
 subst e
 cases M
 obtain⟨z,E,F,f,o,j,G,i,m,p,r,t,y⟩:=yC C.DW D
 have A:τ X c B (π L a (.Fq o (.dK g))) d:=C.write (x:=a) (e:=a) (h':=d.heap) (t':=d.toks) (by rw[D];trivial) (.inl Λ) (λb u _ q=>q) ⟨_,i⟩ ⟨i,z,E,F,f,o,j,G,i,m,p,r,t,y⟩
 refine wpAny_pyIter_dict (knd:=bA X.prog X.w) E ⟨o,j,i,m,p,r,t,y⟩ ?_
 refine⟨d.heap.objs.size,[d.heap.objs.size],_,_,_,Λ,A.kept (t':=d.toks) λb o e=>ώ _ e,uG a _ o g G ⟨F,j,f,m,p,r,t,y⟩,⟨_,Ϡ _ Λ,Λ,by rw[f.length];rfl⟩,λb O=>?_,q o⟩
 have e:b=d.heap.objs.size:=by simpa using O
 subst e
 exact A.Im (Ξ _) (A.DW.fresh (Ξ _))
theorem y6{g:TG}{l:TS}{D:pH}(c:Nat->St->Hp->Prop)(t:c 0 b H)(u:∀i b H,i<=kvs.length->c i b H->H a=Β (.Fq o (.dK kvs)))
  (v:∀i k b H,(kvs.map (·.1))[i]?=Β k->c i b H->g (kV k) b H λd j=>l {D with nx:=c (i+1),ct:=c (i+1),bk:=D.nx} d j) (w:∀b H,c kvs.length b H->D.nx b H):
  ∃W:Nat->Nat->St->Hp->Prop,(∃m,W 0 m b H)/\∀i m b H,W i m b H->
   ((O8 a o kvs).stop i H/\D.nx b H)∨((O8 a o kvs).go i H/\∃N:St->Hp->Prop,(∀f h,N f h->∃r,r<m/\W (i+1) r f h)/\∀x h,(O8 a o kvs).KG i H x h->g x b h λd j=>l {D with nx:=N,ct:=N,bk:=D.nx} d j):=by
 refine⟨λi m b H=>m=kvs.length - i/\i<=kvs.length/\c i b H,⟨kvs.length,by simp,Ϧ _,t⟩,?_⟩
 rintro i m b H ⟨rfl,z,p⟩
 have q:=u i b H z p
 by_cases s:i<kvs.length
 ·refine .inr ⟨⟨q,s⟩,c (i+1),λf h A=>⟨kvs.length - (i+1),by omega,Λ,s,A⟩,λx h y=>?_⟩
  obtain⟨e,k,B,ex⟩:=y
  subst e ex
  exact v i k b _ B p
 ·have e:i=kvs.length:=by omega
  subst e
  exact .inl ⟨⟨q,Λ⟩,w b H p⟩
theorem lW(B:X.calm=Δ):du X (.type "list") (λxs H Q=>∃a kvs,xs=[.ref a]/\Rd H a (.dK kvs)/\∀l,H l=Γ->Q (.ref l) (π H l (.ρ (kvs.map λp=>kV p.1)))):=by
 intro v s σ H xs us Q I r h
 obtain⟨a,kvs,rfl,C,q⟩:=h
 obtain⟨u,rfl,D⟩:=r.one
 cases D
 obtain⟨z,E,A,e,o,F,ep,G,J,K,L,M,N⟩:=jP I.DW C
 have O:s.heap.DictAt (bA X.prog X.w) a A ep:=⟨o,F,G,J,K,L,M,N⟩
 refine PySem.W.kdl_call (PySem.W.kdl_dict (knd:=bA X.prog X.w) (kvs:=A) (ep:=ep) E) (I.ok.hd B) O (by rw[←e.length];exact z) λh' P acc c keep R it=>?_
 have S:υ (kvs.map λp=>kV p.1) acc.toList:=by
  refine oh (by rw[Ο,e.length];exact it.1.symm) λi x u g T=>?_
  obtain⟨k,y,U,t⟩:=it.2 i u (by simpa using T)
  have f:(kvs.map (·.1))[i]?=Β k:=by rw[e.keys,ϝ,U];rfl
  have Y:x=kV k:=by
   rw[ϝ]at g f
   cases j:kvs[i]? with
   |none=>rw[j]at f;cases f
   | some p =>
    rw[j]at g f
    have f:p.1=k:=Ψ f
    have g:kV p.1=x:=Ψ g
    rw[←g,f]
  rw[Y]
  exact ue t
 refine⟨.ref _,_,I.laid (a:=s.heap.objs.size) (o:=.ρ (kvs.map λp=>kV p.1)) (t':=P) (λb q Z=>keep b q Z) (Ξ _) ⟨by rw[Ο];exact z,acc.toList,c,S,by simpa using R⟩,Λ,q _ (I.DW.fresh (Ξ _))⟩
end
noncomputable def jU(p:Ν)(j:Int):HO:=.ext λh=>∃t u v,IsRange h p 0 j 1 t u v
section
variable {X:Cx}
theorem qY:du X (.type "range") (λxs H Q=>∃j:Int,xs=[.int j]/\∀p,H p=Γ->Q (.ref p) (π H p (jU p j))):=by
 intro b s f H xs us Q I r h
 obtain⟨j,rfl,q⟩:=h
 obtain⟨u,rfl,c⟩:=r.one
 obtain⟨t,rfl⟩:=c
 refine call_range_1 ⟨.ref s.heap.objs.size,_,I.laid (a:=s.heap.objs.size) (o:=jU s.heap.objs.size j) (t':=s.toks+1+1) (λ_ _ q=>ώ _ q) (Ξ _) ?_,Λ,q _ (I.DW.fresh (Ξ _))⟩
 exact⟨⟨_,_,_,IsRange.new ..⟩,⟨_,Ϡ _ Λ⟩,λg i ⟨t,u,v,e⟩ d=>⟨t,u,v,d _ e⟩⟩
theorem hZ(g:X.calm=Δ):du X (.type "list") (λxs H Q=>∃(p:Ν)(n:Nat),xs=[.ref p]/\H p=Β (jU p (n:Int))/\n<=10000/\∀l,H l=Γ->Q (.ref l) (π H l (.ρ ((ό n).map λk:Nat=>V.int (k:Int))))):=by
 intro f s D H xs us Q I r h
 obtain⟨p,n,rfl,j,E,q⟩:=h
 obtain⟨u,rfl,m⟩:=r.one
 cases m
 obtain⟨⟨t,u,v,w⟩,_⟩:=I.DW _ _ j
 refine call_list_range (n:=n) (I.ok.hd g) w (small_one (by omega) (by omega) (by omega) (by omega)) (by rw[rangeSize_one];split<;>omega) (by omega) λF e acc c keep y it=>?_
 have z:υ ((ό n).map λk:Nat=>V.int (k:Int)) acc.toList:=by
  refine oh (by rw[Ο,å];exact it.1.symm) λi x u d A=>?_
  obtain⟨e,rfl⟩:=it.2 i u (by simpa using A)
  have B:i<n:=by
   have:=(gQ0 d)
   simpa using this
  rw[ϝ,Ų B]at d
  have d:=Ψ d
  subst d
  exact⟨e,by rw[Int.mul_one,ĥ]⟩
 refine⟨.ref _,_,I.laid (a:=s.heap.objs.size) (o:=.ρ ((ό n).map λk:Nat=>V.int (k:Int))) (t':=e) (λb q C=>keep b q C) (Ξ _) ⟨by rw[Ο,å,ϗ];omega,acc.toList,c,z,by simpa using y⟩,Λ,q _ (I.DW.fresh (Ξ _))⟩
end
end L2
namespace L2
open PySem
section
variable {X:Cx}
inductive Qq(t:TS)(D:pH)(σ:St)(H:Hp):Prop
 |mk (G7:St->Hp->Prop)(_:t {D with nx:=G7} σ H)(_:∀σ' H',G7 σ' H'->D.nx σ' H')
theorem kg(h:PS X st t):PS X st (Qq t):=λa s c H D I ⟨g,q,k⟩ =>
 bj (h a s c H _ I q) λf i z=>by
  cases f with
  |next=>obtain⟨b,d,e,p⟩:=z;exact⟨b,d,e,k _ _ p⟩
  |brk=>exact z
  |cont=>exact z
  |ret u=>exact z
inductive BL(t:TE)(σ:St)(H:Hp)(Q:VK):Prop
 |mk (G7:V->Hp->Prop)(_:t σ H G7)(_:∀v H',G7 v H'->Q v H')
theorem oQ(h:PE X e t):PE X e (BL t):=λa s c H Q I ⟨g,q,k⟩ =>
 bj (h a s c H _ I q) λu i d=>by obtain⟨v,b,f,r,p⟩:=d;exact⟨v,b,f,r,k v b p⟩
inductive BK(t:TT)(σ:St)(H:Hp)(Q:Bool->Hp->Prop):Prop
 |mk (G7:Bool->Hp->Prop)(_:t σ H G7)(_:∀b H',G7 b H'->Q b H')
theorem fG(h:PT X e t):PT X e (BK t):=λa s d H Q I ⟨i,q,k⟩ =>
 bj (h a s d H _ I q) λb j f=>by obtain⟨c,g,p⟩:=f;exact⟨c,g,k b c p⟩
end
open PySem.Spec PyProof.Rows
theorem qG:∀{a:List Int}{us:List Ρ},υ (a.map V.int) us->pD us a
 |[],_,.nil =>.nil
 | n:: a,_,.cons r t=>by
  obtain⟨b,e⟩:=(r)
  subst e
  exact .cons n b (qG t)
theorem qX(e:X.calm=Δ):du X (.builtin "sum") (λxs H Q=>∃(p:Ν)(a:List Int),xs=[.ref p]/\DS X.K H p (a.map V.int)/\Q (.int a.sum) H):=by
 intro b s v H xs us Q I r h
 obtain⟨p,a,rfl,f,q⟩:=h
 obtain⟨u,rfl,g⟩:=kE r
 cases g
 obtain⟨i,j,pl,w⟩:=I.list f
 have c:=qG j
 obtain⟨xs,d⟩:=c.allInts.items
 have l:=d▸pl.isList
 refine sum_intListG (I.ok.hd e) l λx y z m=>?_
 have o:a=xs.toList.map (·.1):=by
  rw[←nums_intItems,←d]
  exact(c.numsOf).symm
 have t:preSum (numAt xs) xs.size=a.sum:=by
  rw[preSum_eq,İ (by simp),o]
 rw[t]
 exact⟨.int a.sum,H,I.kept m,⟨_,Λ⟩,q⟩
structure Jr(K:ϣ)(x qual:Str)(st:Ã)(f:Ν)(fd:Ñ):Prop where
 ex:∃(oc:Ρ)(od:Option Ν)(dV kV doc pm:Ρ)(an:Option Ν)(cdv ct:Ρ)(IV:Array (Option Ρ)),
  fd=gy x qual (c7 st) (aJ st) (aj st) dV kV doc pm an cdv ct/\K.lookup f=Β ⟨oc,od,.func fd,IV⟩/\hF K cdv qual=Δ
 kp:ϳ K (.ref f)=Δ
section
variable {P:Program}{w:Ϭ}{K:ϣ}{mg:Str->Option Ρ}{ν:Ù}
theorem Jr.ok{d:Ã}(F:Jr K x qual d f fd)(S:ar N ps (aj d))
  (e:∀(b:Ρ)(A:Ð)(a:List Env)(s:ϊ)(H:Hp)(c:List V)(Q:VK)(E:XK),DZ k (A.deeper (ź qual (aj d) s.heap.objs.size f b))->sp c H Q E->
   ∃t,IT (sL aB P w K mg ν N qual (aj d) f b A a s H E).O3 (aJ d) t/\t {nx:=λ_ g=>Q .Eg g,rt:=Q} (start N c) H)(len:∀c H Q E,sp c H Q E->c.length=ps.length:=by intro _ _ _ _ h;repeat first|(subst_vars;rfl)|obtain⟨_,h⟩:=h):DQ P w K mg ν aB (k+1) f fd ps sp:=by
 obtain⟨o,p,dV,kV,i,r,an,b,u,v,rfl,lk,j⟩:=F.ex
 refine BB lk j S len λA a s H c Q E l m=>?_
 obtain⟨t,h,q⟩:=e b A a s H c Q E l m
 exact⟨t,h.O3,q⟩
end
inductive zC(K:ϣ)(x:V)(y:V)(H:Hp)(Q:VK):Prop
 |mk (p:Ν)(vs:List V)(d:ý)(ds:List ý)(_:y=.ref p)(_:m8 K H x d)(_:DS K H p vs)(_:m7 K H vs ds)(_:GF d 8)(_:(∀z∈ds,GF z 8))(_:Q (.bl (!(ds.any λy=>ę y d))) H)
theorem mV(r:X.A.units+64<í):fz X (compareOp .NotIn) (zC X.K):=by
 intro a s t H x y v u Q I c e h
 obtain⟨p,w,d,f,rfl,g,i,j,b,l,q⟩:=h
 obtain⟨as,m⟩:=I.den (.ρ i j) e
 obtain⟨bs,o⟩:=I.den g c
 refine SeqAt.notIn_list_reads m o (oE l).1 b.1 ?_ ⟨.bl _,H,I,Λ,q⟩
 have:=b.2
 have:=Nat.min_le_right (Ś f) d.depth
 omega
inductive Qr(K:ϣ)(x:V)(y:V)(H:Hp)(Q:VK):Prop
 |mk (a b xs ys)(_:x=.ref a)(_:y=.ref b)(_:DY K H a xs)(_:DY K H b ys)(_:ys≠[])(_:xs.length+ys.length<=Χ)(_:(xs=[]->Q (.ref b) H)/\(xs≠[]->∀p,H p=Γ->Q (.ref p) (π H p (.tup (xs++ys)))))
theorem zM:fz X (binaryOp .Add) (Qr X.K):=by
 intro c s w H x y v u Q I g i h
 obtain⟨a,b,xs,A,rfl,rfl,j,l,B,C,D,E⟩:=h
 by_cases e:xs=[]
 ·cases g
  cases i
  obtain⟨m,F,G,_⟩:=I.tuple j
  obtain⟨J,U,L,_⟩:=I.tuple l
  have M:=F.Gu.mpr e
  obtain⟨⟨N,O,data,P⟩,o,p,n,q⟩:=id G
  obtain⟨⟨Y,R,f,S⟩,r,t,T,d⟩:=id L
  simp only at p q t d
  subst p q t d
  exact N5 ⟨_,o,Λ⟩ ⟨_,r,Λ⟩ tf KH slot_tuple_add entry_tuple_add (args_tuple_add_2 _ _)
   (tuple_addW0 a b m.toArray J.toArray n T O R P S (by simp[M])) ⟨o,r,⟨.ref b,H,I,Λ,D e⟩⟩
 ·exact zL c s w H _ _ v u Q I g i ⟨a,b,xs,A,Λ,Λ,j,l,e,C,λz=>Κ z B,λ_=>E e⟩
end L2
namespace L2
open PySem
section
variable {X:Cx}
end
open PySem.Spec PyProof.Rows
section
variable {prog:Program}{w:Ϭ}{A:Ð}{E:Ρ->ϊ->Prop}{s:ϊ}
end
section
variable {X:Cx}{ο:List (Ν×Obj)}{σ:St}{H:Hp}{s:ϊ}{a:Ν}{o:Obj}{u:HO}
theorem τ.WZ(I:τ X ο σ H s)(l:H a=Β (.Fq o u))(A:∀g h,X.H₀ a≠Β (.Fq g h)):τ X ο σ (π H a u) s:=by
 have no:∀b,H b=Γ->b≠a:=λb e z=>by rw[z,l]at e;cases e
 have j:∀b x,H b=Β x->(∀g h,x≠.Fq g h)->b≠a:=λb x e n z=>by rw[z,l]at e;exact n _ _ (Ψ e).symm
 refine⟨I.ok,I.os,I.bare,⟨I.ν.keep,I.ν.slot,λb B q n C=>?_,I.ν.there,λb xs q=>?_,λb g h q=>?_,λb ps q=>?_⟩,I.loc,I.cell,?_,λx c r=>?_,λp D=>?_,λb x q=>?_,I.len⟩
 ·have z:=I.ν.free b B q n C
  rw[af (no b z)];exact z
 ·have z:=I.ν.GH b xs q
  rw[af (j b _ z (λ_ _ w=>by cases w))];exact z
 ·have z:=I.ν.G5 b g h q
  rw[af (λw=>A g h (by rw[←w];exact q))];exact z
 ·obtain⟨m,z⟩:=I.ν.GI b ps q
  exact⟨m,by rw[af (j b _ z (λ_ _ w=>by cases w))];exact z⟩
 ·rw[af (no _ I.free)];exact I.free
 ·rw[af (no _ (I.ED x c r))];exact I.ED x c r
 ·obtain⟨E,t,F⟩:=I.pin p D
  exact⟨E,by rw[af (no _ t)];exact t,F⟩
 ·have i:∀d c,H d=Β (.own c)->(π H a u) d=Β (.own c):=λd c z=>by rw[af (j d _ z (λ_ _ w=>by cases w))];exact z
  have tup:∀d f,H d=Β (.tup f)->(π H a u) d=Β (.tup f):=λd f z=>by rw[af (j d _ z (λ_ _ w=>by cases w))];exact z
  by_cases y:b=a
  ·subst y
   rw[ac]at q
   cases q
   exact(I.DW b _ l).2.EU (λd v _ z=>z) (λd z=>i d b z) λd f z=>tup d f z
  ·rw[af y]at q
   exact(I.DW b _ q).EU (λd v _ z=>z) (λd z=>i d b z) λd f z=>tup d f z
end
def Thw(H₀ H:Hp)(G:Hp->Prop):Prop:=∃a o u,H a=Β (.Fq o u)/\(∀o' u',H₀ a≠Β (.Fq o' u'))/\G (π H a u)
section
variable {X:Cx}
theorem tK(h:PE X e t):PE X e (λc H Q=>t c H λv d=>Thw X.H₀ d (Q v)):=λb s c H Q I q =>
 bj (h b s c H _ I q) λu l f=>by obtain⟨v,d,g,r,a,o,x,i,j,k⟩:=f;exact⟨v,_,g.WZ i j,r,k⟩
end
section
variable {X:Cx}{elts:List Expr}{kk:Nat}{Hk:Pos}
end
section
variable {prog:Program}{w:Ϭ}{A:Ð}{E:Ρ->ϊ->Prop}{s:ϊ}
end
section
variable {X:Cx}{tg:Expr}
end
theorem Ay:JE (.type "list_reverseiterator") "__len__"=pure Γ:=by rw[typeLookup_type,PU];kernel_rfl
theorem yk:JE (.type "list_reverseiterator") "__length_hint__"=pure (Β (.builtin "list_reverseiterator.__length_hint__")):=by rw[typeLookup_type,PU];kernel_rfl
section
variable {prog:Program}{w:Ϭ}{A:Ð}{E:Ρ->ϊ->Prop}{s:ϊ}{I:Ν}{fp wr:List Ν}{G:Array JH->Array JH->Prop}{n:Nat}{P:Nat->Ρ->Prop}{St:Nat->ϊ->Prop}
end
theorem pK:∀{xs:List V}{us:List Ρ},xs.length=us.length->(∀(i:Nat)(x:V)(u:Ρ),xs[i]?=Β x->us[i]?=Β u->RelV x u)->υ xs us
 |[],[],_,_ =>.nil
 |x:: xs,u:: us,hl,h =>.cons (h 0 x u Λ Λ) (pK (by simpa using hl) λi x u a b=>h (i+1) x u a b)
section
variable {X:Cx}
end
section
variable {X:Cx}{o e f:Expr}{apos E9:Pos}{td ty tx:TE}
inductive Uav(ty:TE)(tx:TE)(σ:St)(Q:VK)(x:V)(H1:Hp):Prop
 |mk (a)(_:x=.ref a)(_:IsD H1 a)(_:ty σ H1 λy H2=>tx σ H2 λz H3=>∃kvs k,H3 a=Β (.dK kvs)/\y=kV k/\kvs.length<Χ/\ (∀v,cU kvs k=Β v->Q v H3)/\(cU kvs k=Γ->Q z (π H3 a (.dK (eV kvs k z)))))
def Qs(td ty tx:TE):TE:=λσ H Q=>td σ H λx H1=>Uav ty tx σ Q x H1
theorem zJ(G:PE X o td)(J:PE X e ty)(K:PE X f tx)(m:M2 X o "setdefault" apos e f E9):PE X (.Call (.Attribute o "setdefault" apos) [e,f] [] E9) (Qs td ty tx):=by
 intro b s j H Q I h
 refine wpAny_Call_method m.ν m.E4 m.line PySem.F.plainAttrs_dict PySem.F.slot_dict_setdefault PySem.F.type_dict_setdefault (bj (G b s j H _ I h) λu L M=>?_)
 obtain⟨x,N,t,O,a,ex,d,P⟩:=M
 subst ex
 obtain rfl:u=Æ a:=O
 obtain⟨R,S,_⟩:=Dr t d
 refine⟨R,S,?_⟩
 rw[m.trees]
 refine ģ Λ (Ŧ (Ņ (bj (J b L j N _ t P) λiv T ⟨y,U,Y,Z,q2⟩ =>
  Ņ (bj (K b T j U _ Y q2) λfv s3 ⟨z,H3,l,A,c,k,B,ey,hl,q3,q4⟩=>Ź ?_))))
 subst ey
 obtain⟨z',C,vs,i,D⟩:=yC l.DW B
 have g:=i.val k
 refine call_meetsIn PySem.F.slot_dict_setdefault D.typeIs PySem.F.entry_dict_setdefault (PySem.F.args_dict_setdefault_3 _ _ _) (kt_meets_setdefault (bA X.prog X.w) a (n8 Z) C _) ⟨vs,D,by rw[←i.length];exact z',λv hv=>?_,λhn h' E hs=>?_⟩
 ·rw[hv]at g
  cases e:cU c k with
  |none=>rw[e]at g;exact g.elim
  |some p=>rw[e]at g;exact⟨p,H3,l.tok _,g,q3 p e⟩
 ·have e:cU c k=Γ:=by
   rw[hn]at g
   cases e:cU c k with
   |none=>rfl
   |some p=>rw[e]at g;exact g.elim
  have r:∃q,h'.get? a=Β q:=let ⟨q,_,_,hq,_⟩:=E;⟨q,hq⟩
  have hp:(eV c k z).length<=Χ:=by have:=gp c k z;omega
  exact⟨z,_,pA l (by rw[B];exact À) hs r (yD hp C (i.put k A) E),A,q4 e⟩
end
section
variable {X:Cx}{ο:List (Ν×Obj)}{σ:St}{H:Hp}{s:ϊ}
theorem τ.Nl{ch:List Ν}{p:Ν}(I:τ X ο σ H s)(i:∀c∈ch,fR X ο H c)(j:s.heap.objs.size<=p)
  (k:∀c o,c∉ch->s.heap.get? c=Β o->h'.get? c=Β o) (t:xs.length<=Χ) (r:υ xs us) (x:EZ h' p us.toArray):
  τ X ο σ (π H p (.tup xs)) {s with heap:=h',toks:=t'}:=by
 have y:=I.DW.fresh j
 have f:∀c u,H c=Β u->c≠p:=λc u q z=>by rw[z,y]at q;cases q
 have lt:∀c o,s.heap.get? c=Β o->c≠p:=λc o q=>Ê (Ϥ (lt_size q) j)
 refine I.call (g':=s.gens) (d':=s.drawn) (ch:=ch) ⟨λc o e n A a=>k c o a e,λc o e n A a=>⟨o.slots,k c o a e⟩,λc o e n a=>by rw[af (lt c o e)];exact n,
  λc o e a=>⟨o,k c o a e⟩,λc B q=>by rw[af (f c _ q)];exact q,λc o u q=>by rw[af (f c _ q)];exact q,λc ps q=>⟨#[],by rw[af (f c _ q),q];simp⟩⟩ (λc u q=>?_) I.bare λc g=>?_
 ·by_cases g:c=p
  ·subst g
   rw[ac]at q
   cases q
   exact⟨t,us,r,x⟩
  ·rw[af g]at q
   refine(I.DW c u q).EU (λd v h z=>?_) (λd z=>by rw[af (f d _ z)];exact z) λd B z=>by rw[af (f d _ z)];exact z
   have C:d∉ch:=λw=>by
    have m:=(i d w).1
    rcases h with rfl|h
    ·rw[m]at q;cases q
    ·rw[m]at h;cases h
   exact k d v C z
 ·obtain⟨J,D,_,E,F,G⟩:=i c g
  exact⟨E,D,F,G⟩
theorem τ.Lp{ch:List Ν}(I:τ X ο σ H s)(g:∀c∈ch,fR X ο H c)(k:∀c o,c∉ch->s.heap.get? c=Β o->h'.get? c=Β o):τ X ο σ H {s with heap:=h',toks:=t'}:=by
 refine I.call (g':=s.gens) (d':=s.drawn) (ch:=ch) ⟨λc o e n j a=>k c o a e,λc o e n j a=>⟨o.slots,k c o a e⟩,λc o e n a=>n,
  λc o e a=>⟨o,k c o a e⟩,λc l q=>q,λc o u q=>q,λc ps q=>⟨#[],by rw[q];simp⟩⟩ (λc u q=>?_) I.bare λc m=>?_
 ·refine(I.DW c u q).EU (λd v f z=>?_) (λd z=>z) λd l z=>z
  have p:d∉ch:=λw=>by
   have i:=(g d w).1
   rcases f with rfl|f
   ·rw[i]at q;cases q
   ·rw[i]at f;cases f
  exact k d v p z
 ·obtain⟨A,r,_,t,x,y⟩:=g c m
  exact⟨t,r,x,y⟩
end
noncomputable def Itz(K:ϣ)(a b:Ν):It:=
 ⟨λi H=>∃xs ys x y,DS K H a xs/\DS K H b ys/\xs[i]?=Β x/\ys[i]?=Β y,
  λi H v H'=>∃p,H p=Γ/\v=.ref p/\∀xs ys,DS K H a xs->DS K H b ys->∃x y,xs[i]?=Β x/\ys[i]?=Β y/\H'=π H p (.tup [x,y]),
  λi H=>∃xs ys,DS K H a xs/\DS K H b ys/\(xs[i]?=Γ∨ys[i]?=Γ)⟩
def BF(z ti to i1 i2 a b:Ν)(i:Nat)(h:Ù):Prop:=IsZip h z ti to .none/\IsPair h ti (.ref i1) (.ref i2)/\(∃x y,IsPair h to x y)/\h.IsListIter i1 a i/\h.IsListIter i2 b i
theorem mJ(t:BF z ti to i1 i2 a b i h)(F:ti≠to)(G:i1≠i2)(H:h.IsList a xs)(I:h.IsList b ys):ZipApart z ti to i1 i2 a b:=by
 obtain⟨d,E,⟨x,y,j⟩,⟨J,l,r,K⟩,L,v,w,M⟩:=t
 obtain⟨N,A,B,O⟩:=H
 obtain⟨P,C,D,Q⟩:=I
 have c:∀{p q:Ν}{o u:Obj}{s t:String},h.get? p=Β o->h.get? q=Β u->o.cls=.type s->u.cls=.type t->s≠t->p≠q:=λe f g k n m=>by
  subst m
  rw[e]at f
  cases f
  rw[g]at k
  injection k with k
  exact n k
 exact⟨c E d Λ Λ (by decide),c j d Λ Λ (by decide),c l d r Λ (by decide),c v d w Λ (by decide),F,c E l Λ r (by decide),c E v Λ w (by decide),c j l Λ r (by decide),c j v Λ w (by decide),G,
  c A d B Λ (by decide),c A j B Λ (by decide),c A l B r (by decide),c A v B w (by decide),c C d D Λ (by decide),c C j D Λ (by decide),c C l D r (by decide),c C v D w (by decide)⟩
theorem vQ{K:ϣ}(a b z r to t u:Ν)(n1:r≠to)(n2:t≠u):pF P w K (.Tuple elts kk pos) (Itz K a b) [z,r,to,t,u] z (BF z r to t u a b) where
 mem:=by simp
 obj:=λi h f c p=>by
  obtain⟨g,j,⟨x,y,l⟩,⟨o1,S,c1,d1⟩,o2,T,c2,d2⟩:=f
  have U:c=z∨c=r∨c=to∨c=t∨c=u:=by simpa using p
  rcases U with rfl|rfl|rfl|rfl|rfl
  ·exact⟨_,g,λv q=>by have G:=q;cases G⟩
  ·exact⟨_,j,λv q=>by have G:=q;cases G⟩
  ·exact⟨_,l,λv q=>by have G:=q;cases G⟩
  ·exact⟨o1,S,λv q=>by rw[d1]at q;cases q⟩
  ·exact⟨o2,T,λv q=>by rw[d2]at q;cases q⟩
 keep:=λi h h' f k=>by
  obtain⟨g,j,⟨x,y,l⟩,B,C⟩:=f
  exact⟨k z (by simp) _ g,k r (by simp) _ j,⟨x,y,k to (by simp) _ l⟩,B.at λo q=>k t (by simp) o q,C.at λo q=>k u (by simp) o q⟩
 item:=by
  intro X Y Z hK p i m s σ H E I N f hg
  subst Y Z hK
  obtain⟨xs,ys,x,y,O,Q,hx,hy⟩:=hg
  obtain⟨Nm,UH,J,Qt⟩:=I.list O
  obtain⟨FD,UI,L,UJ⟩:=I.list Q
  obtain⟨u1,Jt,ru1⟩:=UH.get hx
  obtain⟨u2,Xa,ru2⟩:=UI.get hy
  have A:=mJ f n1 n2 J.isList L.isList
  obtain⟨g,j,⟨v1,v2,l⟩,B,C⟩:=f
  refine wpAny_pyNext_zip_item A g j l B C J.isList L.isList (x:=u1) (y:=u2) (by simpa using Jt) (by simpa using Xa) λh' a1 a2 a3 a4 a5 a6 R=>⟨_,Λ,?_⟩
  refine wpAny_letOwnedTupleGo_zip a1 λMf b1 b2=>?_
  have D:∀c o,s.heap.get? c=Β o->c≠s.heap.objs.size:=λc o q=>Ê (lt_size q)
  have nz:=ϛ (D _ _ g)
  have F:∀c o,c≠z->h'.get? c=Β o->Mf.get? c=Β o:=λc o q e=>(b2.2 c q).trans e
  have I2:τ X m σ (π H s.heap.objs.size (.tup [x,y])) {s with heap:=Mf}:=by
   refine τ.Nl (s:=s) (h':=Mf) (t':=s.toks) (us:=[u1,u2]) I N (Ξ _) (λc o d q=>?_) (by show 2<=Χ;decide) (.cons ru1 (.cons ru2 .nil)) ⟨_,F _ _ nz a5,⟨Λ,_,Λ⟩,Λ⟩
   simp only[Ϯ,É,or_false,not_or]at d
   exact F c o d.1 (R c o d.1 d.2.2.1 d.2.2.2.1 d.2.2.2.2 q)
  refine⟨.ref s.heap.objs.size,_,I2,Λ,⟨_,I.DW.fresh (Ξ _),Λ,λzs ws g1 g2=>⟨x,y,by rw[I.FA g1 O];exact hx,by rw[I.FA g2 Q];exact hy,Λ⟩⟩,⟨b1,F _ _ A.TIz (R _ _ A.TIz A.TITO A.TIi1 A.TIi2 j),⟨_,_,F _ _ A.TOz a2⟩,a3.at λo q=>F _ o A.i1z q,a4.at λo q=>F _ o A.i2z q⟩,λc p=>?_⟩
  have hl:c≠s.heap.objs.size:=by
   have U:c=z∨c=r∨c=to∨c=t∨c=u:=by simpa using p
   obtain⟨o1,S,_⟩:=B
   obtain⟨o2,T,_⟩:=C
   rcases U with rfl|rfl|rfl|rfl|rfl
   ·exact D _ _ g
   ·exact D _ _ j
   ·exact D _ _ l
   ·exact D _ _ S
   ·exact D _ _ T
  rw[af hl]
  exact(N c p).1
 done:=by
  intro X Y Z hK p i m s σ H E I N f hg
  subst Y Z hK
  obtain⟨xs,ys,O,Q,Xb⟩:=hg
  obtain⟨Nm,UH,J,Qt⟩:=I.list O
  obtain⟨FD,UI,L,UJ⟩:=I.list Q
  have A:=mJ f n1 n2 J.isList L.isList
  obtain⟨g,j,⟨v1,v2,l⟩,B,C⟩:=f
  have he:Nm.toArray[i]?=Γ∨FD.toArray[i]?=Γ:=by
   rcases Xb with q|q
   ·exact .inl (by simpa using UH.none_of q)
   ·exact .inr (by simpa using UI.none_of q)
  refine wpAny_pyNext_zip_end (I.ok.hd p) A g j l B C J.isList L.isList he λh' R=>⟨Λ,?_⟩
  refine I.Lp (t':=s.toks) N λc o d q=>?_
  simp only[Ϯ,É,or_false,not_or]at d
  exact R c o d.1 d.2.2.1 d.2.2.2.1 d.2.2.2.2 q
 self:=λ_ _ _ _ _ f h=>wpAny_pyIter_zip f.1 h
section
variable {X:Cx}{elts:List Expr}{kk:Nat}{Hk p pos:Pos}{e1 e2:Expr}
inductive Uaw(K:ϣ)(R:It->Hp->Prop)(vs:List V)(H1:Hp):Prop
 |mk (a b)(_:vs=[.ref a,.ref b])(_:(∃xs,DS K H1 a xs))(_:(∃ys,DS K H1 b ys))(_:R (Itz K a b) H1)
def Xc(K:ϣ)(t:TA):TI:=λσ H R=>t σ H λvs H1=>Uaw K R vs H1
theorem Ct(o:Gl X "zip")(r:X.mg "zip"=Γ)(w:PA X [e1,e2] t)(y:autoParam (Á [e1,e2] X.env=(Ε,eval e1 X.env):: Á [e2] X.env) η)(z:autoParam (((ē pos (Á [e2] X.env)).any λx=>x.fst)=Ε) η):PI X (.Tuple elts kk Hk) (.Call (.Name "zip" p) [e1,e2] [] pos) (Xc X.K t):=by
 intro b s i H R I h
 refine TR (fK I o r (show ě "zip"=Β (.type "zip") by decide +kernel) (Ô (bj (w pos b s i H _ I h) λus a A=>?_) y z))
 obtain⟨vs,j,d,B,C⟩:=A
 obtain⟨D,E,e,⟨xs,F⟩,⟨ys,G⟩,q⟩:=C
 subst e
 obtain⟨u,v,rfl,J,L⟩:=B.two
 cases J
 cases L
 obtain⟨Nm,UH,M,Qt⟩:=d.list F
 obtain⟨FD,UI,N,UJ⟩:=d.list G
 refine call_zip_2 M.isList N.isList λl m O P Q S a6 T=>?_
 have U:=d.kept (t':=a.toks) T
 refine wpAny_pyIter_zip (s:={a with heap:=l}) m ?_
 refine⟨_,_,_,_,j,Λ,U,vQ D E _ (a.heap.objs.size+2) (a.heap.objs.size+3) a.heap.objs.size (a.heap.objs.size+1) (Ê (ĝ _)) (Ê (ĝ _)),⟨m,O,⟨_,_,P⟩,Q,S⟩,λc Y=>?_,q⟩
 have g:a.heap.objs.size<=c:=by
  have Z:c=a.heap.objs.size+4∨c=a.heap.objs.size+2∨c=a.heap.objs.size+3∨c=a.heap.objs.size∨c=a.heap.objs.size+1:=by simpa using Y
  rcases Z with e|e|e|e|e<;>rw[e]<;>first|exact Ξ _|exact Nat.le_add_right _ _
 exact d.Im g (d.DW.fresh g)
end
section
variable {X:Cx}
theorem vB(w:X.calm=Δ):du X (.builtin "min") (λxs H Q=>∃(p:Ν)(a:List Int),xs=[.ref p]/\DS X.K H p (a.map V.int)/\a≠[]/\∀m,m∈a->(∀z∈a,m<=z)->Q (.int m) H):=by
 intro f s L H xs us Q I r h
 obtain⟨p,a,rfl,x,y,q⟩:=h
 obtain⟨u,rfl,A⟩:=r.one
 cases A
 obtain⟨g,B,pl,M⟩:=I.list x
 have i:=lL B
 obtain⟨b,l⟩:=i.allInts.items
 have e:b.toList.map (·.1)=a:=by
  have:=i.numsOf
  rw[show g=g.toArray.toList from Λ,l,nums_intItems]at this
  exact this
 have c:b.size=a.length:=by rw[←e];simp
 have C:0<b.size:=by
  rw[c]
  exact ĕ.mpr y
 have o:=pl.isList
 rw[l]at o
 refine min_intList (I.ok.hd w) o C λv N D E F=>?_
 obtain⟨t,rfl⟩:=intItems_at E
 obtain⟨O,G⟩:=argBest_lt (numAt b) (b.size - 1)
 refine⟨.int _,H,I.kept (t':=D) F,⟨t,Λ⟩,q _ ?_ λz d=>?_⟩
 ·rw[numAt_eq,e]
  exact getD_mem (by omega)
 ·rw[←e]at d
  obtain⟨j,J,rfl⟩:=mem_getD d
  rw[Ο,ŭ]at J
  rw[←numAt_eq]
  exact G j (by omega)
end
section
variable {prog:Program}{w:Ϭ}{A:Ð}{E:Ρ->ϊ->Prop}{s:ϊ}{I:Ν}{fp wr:List Ν}{G:Array JH->Array JH->Prop}{n:Nat}{P:Nat->Ρ->Prop}{St:Nat->ϊ->Prop}
theorem sI(W:WalksS prog w A.in1 I fp wr G n P St)(j:∀i s,St i s->s.TypeIs (.ref I) "list_reverseiterator")(S:Ν)(res:Ρ)(g:Nat)(d:St 0 s)(p:S∉fp)(q:I∈fp)
  (r:s.heap.get? S=Β {cls:=.type "list",data:=.seq #[] g})
  (k:∀a acc c,PySem.Moved (S:: wr) G s a->a.heap.get? S=Β {cls:=.type "list",dict:=Γ,data:=.seq acc c,slots:=#[]}->TB P acc n->R (.ok (.ret res)) a) (E4:n<=Χ):
  ϫ (ϩ prog w) A.in1 (Ŵ (.ref S) (.ref I) res)
   (λfin a=>match fin with|.done f=>R (.ok f) a|.again l=>l.quiet=Δ/\ō (ϩ prog w) A l R a) (λe a=>R (.error e) a) s:=by
 have t:S≠I:=λz=>p (z▸q)
 have no:et (.ref S) (.ref I)=Ε:=by simp[et,t]
 unfold Ŵ
 refine Τ (wpAny_typeOf (j 0 _ d) ?_)
 rw[Θ (by simp[no])]
 refine Τ (W.self 0 _ _ _ d (Τ (ľ ?_)))
 unfold Builtin.List.listLengthHint
 refine Τ (ú (j 0 _ d) Ay ?_)
 refine Τ (ú (j 0 _ d) yk ?_)
 generalize m:("list_reverseiterator.__length_hint__":String)=h
 (fail_if_success (clear m h))
 wp_delta
 rw[show splitId h=Β ("list_reverseiterator","__length_hint__") from by subst m;decide +kernel]
 subst m
 refine Τ (rl (b:=Δ) (j 0 _ d) (by rw[isSubtype_type];kernel_rfl) (Ϛ ?_))
 rw[Θ (by decide)]
 exact Ϛ ⟨plainId_quiet F.plain_extend_loop _,codeAny_extend_loopS W E4 _ p _ n 0 _ _ _ Λ (Ϧ _) d r (TB.nil P) λa u l v x o=>k a u l v x o⟩
theorem yt(W:WalksS prog w A.in1 I fp wr G n P St)(p:∀i s,St i s->s.TypeIs (.ref I) "list_reverseiterator")(S:Ν)(q:St 0 s)(m:S∉fp)(r:I∈fp)
  (j:s.heap.get? S=Β {cls:=.type "list",data:=.seq #[]})
  (k:∀a acc c,PySem.Moved (S:: wr) G s a->a.heap.get? S=Β {cls:=.type "list",dict:=Γ,data:=.seq acc c,slots:=#[]}->TB P acc n->R (.ok (.ret .none)) a) (E4:n<=Χ):
  ϫ (ϩ prog w) A.in1 (Builtin.«list.__init__» ⟨[.ref S,.ref I],[]⟩)
   (λfin a=>match fin with|.done f=>R (.ok f) a|.again g=>g.quiet=Δ/\ō (ϩ prog w) A g R a) (λe a=>R (.error e) a) s:=by
 refine Τ ?_
 unfold Builtin.List.listItems
 refine Τ (ŷ j Λ (Ϛ ?_))
 refine Τ (wpAny_updateSeq j Λ ?_)
 have t:=ţ (Š (λ_=>(#[]:Array Ρ))) j Λ
 have xx:∀b o,b≠S->s.heap.get? b=Β o->(s.heap.update S (Š (λ_=>(#[]:Array Ρ)))).get? b=Β o:=λb o d e=>(Ş _ _ (ϛ d)).trans e
 refine Τ (wpAny_letGo ?_)
 refine sI W p S .none _ (W.frame 0 s _ s.toks q (Ξ _) λb d o e=>xx b o (λh=>m (h▸d)) e) m r t (λa u g v x y=>?_) E4
 exact k a u g (PySem.Moved.trans W.gtrans ((PySem.Moved.refl W.grefl).then_heap (Ξ _) λb o d e=>xx b o (λh=>d (h▸ϟ)) e) v) x y
theorem mG(W:WalksS prog w A.in1.in1 I fp wr G n P St)(m:∀i s,St i s->s.TypeIs (.ref I) "list_reverseiterator")(p:St 0 s)(d:∀b∈fp,b<s.heap.objs.size)(q:I∈fp)
  (k:∀f acc c,PySem.Moved (s.heap.objs.size:: wr) G {s with heap:=s.heap.push {cls:=.type "list",data:=.seq #[]}} f->
   f.heap.get? s.heap.objs.size=Β {cls:=.type "list",dict:=Γ,data:=.seq acc c,slots:=#[]}->TB P acc n->Q (.ref s.heap.objs.size) f) (E4:n<=Χ):
  ϫ (ϩ prog w) A (call (.type "list") [.ref I]) Q E s:=by
 have r:=λz=>Ĭ _ (d _ z)
 refine callType_codes (Q₁:=λh a=>h=.ref s.heap.objs.size/\a={s with heap:=s.heap.push {cls:=.type "list",data:=.seq #[]}}) F.called_list (F.typeCall_list_1 _) F.entry_list_init (code_list_new _ ⟨Λ,Λ⟩) λh a j=>?_
 obtain⟨rfl,rfl⟩:=j
 have l:(s.heap.push {cls:=.type "list",data:=.seq #[]}).get? s.heap.objs.size=Β {cls:=.type "list",data:=.seq #[]}:=Ϡ _ Λ
 exact⟨⟨_,l,Λ⟩,F.args_list_init_2 _ _,yt W m _ (W.frame 0 s _ s.toks p (Ξ _) λb _ o e=>ώ _ e) r q l (λf t u v x y=>⟨Λ,k f t u v x y⟩) E4⟩
end
section
variable {X:Cx}
inductive Uax(K:ϣ)(Q:VK)(vs:List V)(H1:Hp):Prop
 |mk (l xs)(_:vs=[.ref l])(_:DS K H1 l xs)(_:∀t,H1 t=Γ->Q (.ref t) (π H1 t (.ρ xs.reverse)))
def zg(K:ϣ)(ta:TA):TE:=λσ H Q=>ta σ H λvs H1=>Uax K Q vs H1
theorem mU(N:X.calm=Δ)(O:Gl X "list")(P:X.mg "list"=Γ)(R:Gl X "reversed")(S:X.mg "reversed"=Γ)(T:PA X [a] ta)(U:autoParam (Á [a] X.env=[(Ε,eval a X.env)]) η)
  (F:autoParam (Á [.Call (.Name "reversed" p2) [a] [] Lq] X.env=[(Ε,eval (.Call (.Name "reversed" p2) [a] [] Lq) X.env)]) η):PE X (.Call (.Name "list" p1) [.Call (.Name "reversed" p2) [a] [] Lq] [] Xe) (zg X.K ta):=by
 intro g s Y H Q I h
 refine TR (fK I O P PySem.Pv.boot_list (Ô ?_ F Λ))
 rw[F]
 refine Ņ ?_
 refine TR (fK I R S (show ě "reversed"=Β (.type "reversed") by decide +kernel) (Ô (bj (T Lq g s Y H _ I h) λus d Z=>?_) U Λ))
 obtain⟨vs,H1,p,r1,q1⟩:=Z
 obtain⟨l,xs,e,hq,q⟩:=q1
 subst e
 obtain⟨u,rfl,ru⟩:=r1.one
 cases ru
 obtain⟨f,G,pl,J⟩:=p.list hq
 have y:f.toArray.size=xs.length:=by rw[ϭ];exact G.length.symm
 refine call_reversed_list pl.isList (Ź ?_)
 have L:l<d.heap.objs.size:=by obtain⟨o,ho,_⟩:=pl.isList;exact lt_size ho
 have Ex:=Ê L
 have W:=(Walks.listRev (prog:=X.prog) (w:=X.w) (A:=X.A.in1.in1) (p.ok.hd N) d.heap.objs.size l Ex f.toArray).toS
 have B:(d.heap.push (RI l ((f.toArray.size:Int) - 1))).objs.size=d.heap.objs.size+1:=size_push ..
 refine mG (s:={d with heap:=d.heap.push (RI l ((f.toArray.size:Int) - 1))}) W (λi s z=>z.2.1.typeIs) ⟨Ϧ _,⟨_,Ϡ _ Λ,Λ,by simp[RI]⟩,pl.isList.at λo e=>ώ _ e⟩ (λb r=>?_) (by simp) (λs' acc c t Ju it=>?_) (by rw[y];exact J)
 ·have FO:b=d.heap.objs.size∨b=l:=by simpa using r
  rw[B]
  rcases FO with rfl|rfl
  ·exact ĝ _
  ·exact eH L
 ·obtain⟨h',g',d',D,Wv⟩:=s'
  have e1:=t.gens
  have v:=t.drawn
  have e3:=t.os
  subst e1 v e3
  have keep:∀b o,d.heap.get? b=Β o->h'.get? b=Β o:=λb o e=>by
   have r:=lt_size e
   refine t.heap b o ?_ (ώ _ (ώ _ e))
   rw[B]
   simp only[Ϯ,É,or_false,not_or]
   exact⟨Ê (eH r),Ê r⟩
  have hv:υ xs.reverse acc.toList:=by
   refine pK (by rw[ą,←y];exact it.1.symm) λi x u E hu=>?_
   have hi:i<xs.length:=by have:=(gQ0 E);rw[ą]at this;exact this
   have j:=it.2 i u (by simpa using hu)
   rw[y]at j
   rw[ĉ hi]at E
   have Xa:f[xs.length - 1 - i]?=Β u:=by simpa using j
   obtain⟨u2,v,r2⟩:=G.get E
   rw[Xa]at v
   cases v
   exact r2
  have m:d.heap.objs.size<=(d.heap.push (RI l ((f.toArray.size:Int) - 1))).objs.size:=by rw[B];exact O0 _
  exact⟨.ref _,_,p.laid (a:=(d.heap.push (RI l ((f.toArray.size:Int) - 1))).objs.size) (o:=.ρ xs.reverse) (t':=D) (h':=h') keep m ⟨by rw[ą];exact J,acc.toList,c,hv,by simpa using Ju⟩,Λ,q _ (p.DW.fresh m)⟩
end
end L2
namespace L2
open PySem PySem.Spec PyProof.Rows PySem.SeqAt
section
variable {prog:Program}{w:Ϭ}{K L:Type}[DecidableEq K][DecidableEq L](knd:KeyKind prog w K)(hk:ď prog w L)
inductive HJ(h:Ù):List (K ⊕ L)->List Ρ->Prop
 |nil:HJ h [] []
 |cl {k:K} {v:Ρ} {ks:List (K ⊕ L)} {vs:List Ρ}:knd.is k v=Δ->HJ h ks vs->HJ h (.inl k:: ks) (v:: vs)
 |cr {l:L} {a:Ν} {ks:List (K ⊕ L)} {vs:List Ρ}:hk.is h l a->HJ h ks vs->HJ h (.inr l:: ks) (.ref a:: vs)
def Ey(h:Ù)(ks:List (K ⊕ L))(a:Ν):Prop:=∃o items n,h.get? a=Β o/\o.cls=.type "tuple"/\o.data=.seq items n/\HJ knd hk h ks items.toList
def mz(d:Nat):Prop:=∀{A:Ð}{E:Ρ->ϊ->Prop}{s:ϊ}{k:L}{a:Ν}{Q:Bool->ϊ->Prop}(n:Nat),d<=n->hk.is s.heap k a->Q Δ s->ϫ (ϩ prog w) A (eqIsQuiet n (.ref a)) Q E s
def Qv:Prop:=∀{A:Ð}{s:ϊ}{k:K}{v:Ρ}{l:L}{a:Ν},A.units<í->knd.is k v=Δ->hk.is s.heap l a->EqAt A s v (.ref a) Ε/\EqAt A s (.ref a) v Ε
variable {knd hk}
theorem HJ.inj(f:HJ knd hk h x vs)(d:HJ knd hk h y vs):x=y:=by
 induction f generalizing y with
 |nil=>cases d;rfl
 | cl c _ e =>
  cases d with
  |cl a b=>rw[knd.inj _ _ _ c a,e b]
  |cr a b=>have:=knd.byValue _ _ c;simp[carriedByValue]at this
 | cr c _ e =>
  cases d with
  |cl a b=>have:=knd.byValue _ _ a;simp[carriedByValue]at this
  |cr a b=>rw[hk.inj c a,e b]
theorem HJ.keeps(c:HJ knd hk h x vs)(e:h.get? d=Β o)(f:o.data=.dict es ep)(g:Ħ d h h'):HJ knd hk h' x vs:=by
 induction c with
 |nil=>exact .nil
 |cl a _ b=>exact .cl a b
 |cr a _ b=>exact .cr (hk.keeps a e f g) b
theorem Ey.typeIs{s:ϊ}(x:Ey knd hk s.heap ks a):s.TypeIs (.ref a) "tuple":=let ⟨o,_,_,ho,hc,_⟩:=x;⟨o,ho,hc⟩
theorem Ey.inj(e:Ey knd hk h x a)(f:Ey knd hk h y a):x=y:=by
 obtain⟨o,b,n,g,_,i,j⟩:=e
 obtain⟨l,q,r,m,_,d,c⟩:=f
 obtain rfl:o=l:=Ψ (g.symm.trans m)
 rw[i]at d
 injection d with p _
 subst p
 exact j.inj c
theorem Ey.keeps(x:Ey knd hk h ks a)(e:h.get? d=Β o)(f:o.data=.dict es ep)(g:Ħ d h h'):Ey knd hk h' ks a:=by
 obtain⟨i,b,n,j,l,c,m⟩:=x
 have p:a≠d:=by
  rintro rfl
  obtain rfl:i=o:=Ψ (j.symm.trans e)
  rw[f]at c;exact nomatch c
 exact⟨i,b,n,(g.2 a p).trans j,l,c,m.keeps e f g⟩
noncomputable def gX(knd:KeyKind prog w K)(hk:ď prog w L):K ⊕ L->Int
 |.inl k=>knd.hash k
 |.inr l=>hk.hash l
noncomputable def kY(hk:ď prog w L):K ⊕ L->Nat
 |.inl _=>1
 |.inr l=>hk.draws l
noncomputable def kI(knd:KeyKind prog w K)(hk:ď prog w L)(ks:List (K ⊕ L)):Int:=reduceHash (â (ks.map (gX knd hk)))
variable {A:Ð}{E:Ρ->ϊ->Prop}{s:ϊ}
theorem vq(m:A.units<í)(c:hk.room A.in1)(l:Ey knd hk s.heap ks a)(h:Q (kI knd hk ks) {s with toks:=s.toks+((ks.map (kY hk)).sum+1)}):
  ϫ (ϩ prog w) A (pyHash (.ref a)) Q E s:=by
 have f:=l.typeIs
 obtain⟨o,g,n,p,_,q,r⟩:=l
 unfold pyHash
 first|unfold pyHashByItsType|skip
 first|refine Τ (wpAny_cRoomFor_or (.inr m) ?_)|skip
 refine Τ (ú f Ř.lookup ?_)
 rw[Θ (by rw[beq_builtin_none];exact Ϝ)]
 refine Τ (ú f Ř.lookup ?_)
 refine Τ (ų f Ř (Ĺ Ř f F.entry_tuple_hash ?_ (F.args_tuple_hash_1 _)))
 show ϫ _ _ (Builtin.Tuple.tupleItemsOf (.ref a) >>=_) _ _ s
 refine Τ (gg p q ?_)
 refine Τ ?_
 rw[←L3]
 refine rx _
  (λrest (b:Array Int) i=>∃done left,ks=done++left/\HJ knd hk s.heap left rest/\b.toList=done.map (gX knd hk)/\i={s with toks:=s.toks+(done.map (kY hk)).sum})
  _ ?_ ?_ _ _ ⟨[],ks,Λ,r,Λ,Λ⟩
 ·rintro x rest b i ⟨done,left,rfl,j,d,rfl⟩
  cases j with
  | @cl k _ Qw _ h1 F7 =>
   refine Τ (knd.pyHash h1 ?_)
   first
    |exact Ϛ ⟨done++[.inl k],Qw,by simp,F7,by simp[d,gX],by simp[kY,e6]⟩
    |exact Τ (Ϛ (Ϛ ⟨done++[.inl k],Qw,by simp,F7,by simp[d,gX],by simp[kY,e6]⟩))
  | @cr k _ Qw _ h1 F7 =>
   refine Τ (hk.pyHash c h1 ?_)
   first
    |exact Ϛ ⟨done++[.inr k],Qw,by simp,F7,by simp[d,gX],by simp[kY,e6]⟩
    |exact Τ (Ϛ (Ϛ ⟨done++[.inr k],Qw,by simp,F7,by simp[d,gX],by simp[kY,e6]⟩))
 ·rintro b i ⟨done,left,rfl,j,d,rfl⟩
  cases j
  rw[Ę]at h
  show ϫ _ _ (retInt (â b.toList)) _ _ _
  rw[d]
  refine wpAny_ret_mkInt ?_
  show ϫ _ _ (if (decide (-(2:Int)^63<=â (done.map (gX knd hk)))&& decide (â (done.map (gX knd hk))<2^63))=Δ then _ else _) Q E _
  unfold kI reduceHash at h
  by_cases c:(decide (-(2:Int)^63<=â (done.map (gX knd hk)))&& decide (â (done.map (gX knd hk))<2^63))=Δ
  ·rw[Ι c]
   rw[Ι c]at h
   exact Ϛ (by simpa [e6] using h)
  ·rw[Θ c]
   rw[Θ c]at h
   exact Τ (JD (Ϛ (by simpa [e6] using h)))
theorem AL(I:Qv knd hk)(J:A.units<í)(N:hk.room A)(O:Ey knd hk s.heap x a)(M:Ey knd hk s.heap y b)(h:P (.done (.ret (.bool (decide (x=y))))) s):
  ϫ (ϩ prog w) A (Builtin.«tuple.__eq__» ⟨[.ref a,.ref b],[]⟩) P E s:=by
 have Q:=M.typeIs
 obtain⟨T,xs,U,z,_,B,C⟩:=O
 obtain⟨X,o,Y,D,_,R,F⟩:=M
 show ϫ _ _ (isInstance (.ref b) (.type "tuple") >>=_) _ _ s
 refine Τ (rl Q PM ?_)
 simp only[ĵ,à,if_false]
 refine Τ (gg z B ?_)
 refine Τ (gg D R ?_)
 refine Τ ?_
 refine rx _
  (λrest r p=>r.1=Γ/\p=s/\∃q t j l,rest=List.zip j l/\HJ knd hk s.heap q j/\HJ knd hk s.heap t l/\decide (q=t)=decide (x=y)/\(j.length == l.length)=(xs.size == o.size))
  _ ?_ ?_ _ _ ⟨Λ,Λ,x,y,xs.toList,o.toList,Λ,C,F,Λ,by simp⟩
 ·rintro⟨u,v⟩ rest r p ⟨G,rfl,q,t,j,l,c,H,i,e,d⟩
  cases H with
  |nil=>simp at c
  | @cl k1 u' Qz Nn h1 Np =>
   cases i with
   |nil=>simp at c
   | @cr k2 v' Nq Kh h2 Ki =>
    simp only[gf,ő,Ŋ]at c
    obtain⟨⟨rfl,rfl⟩,rfl⟩:=c
    refine Τ ((I J h1 h2).1 _ _ _ _ ?_)
    simp only[Ũ,if_true]
    have f:decide (x=y)=Ε:=by rw[←e];simp
    rw[f]at h
    exact Τ (Ϛ (Ϛ (Ϛ h)))
   | @cl k2 v' Nq Kh h2 Ki =>
    simp only[gf,ő,Ŋ]at c
    obtain⟨⟨rfl,rfl⟩,rfl⟩:=c
    refine Τ (knd.eqBool (a:=k1) (b:=k2) h1 h2 ?_)
    by_cases g:k1=k2
    ·subst g
     rw[Ζ Λ]
     simp only[ĵ,à,if_false]
     refine Ϛ ⟨Λ,Λ,Qz,Nq,Nn,Kh,Λ,Np,Ki,?_,by simpa using d⟩
     rw[←e]
     by_cases m:Qz=Nq
     ·simp[m]
     ·simp[m]
    ·rw[Η g]
     simp only[Ũ,if_true]
     have f:decide (x=y)=Ε:=by rw[←e];simp[g]
     rw[f]at h
     exact Τ (Ϛ (Ϛ (Ϛ h)))
  | @cr k1 u' Qz Nn h1 Np =>
   cases i with
   |nil=>simp at c
   | @cl k2 v' Nq Kh h2 Ki =>
    simp only[gf,ő,Ŋ]at c
    obtain⟨⟨rfl,rfl⟩,rfl⟩:=c
    refine Τ ((I J h2 h1).2 _ _ _ _ ?_)
    simp only[Ũ,if_true]
    have f:decide (x=y)=Ε:=by rw[←e];simp
    rw[f]at h
    exact Τ (Ϛ (Ϛ (Ϛ h)))
   | @cr k2 v' Nq Kh h2 Ki =>
    simp only[gf,ő,Ŋ]at c
    obtain⟨⟨rfl,rfl⟩,rfl⟩:=c
    refine Τ (hk.eqBool (x:=k1) (y:=k2) N h1 h2 ?_)
    by_cases g:k1=k2
    ·subst g
     rw[Ζ Λ]
     simp only[ĵ,à,if_false]
     refine Ϛ ⟨Λ,Λ,Qz,Nq,Nn,Kh,Λ,Np,Ki,?_,by simpa using d⟩
     rw[←e]
     by_cases m:Qz=Nq
     ·simp[m]
     ·simp[m]
    ·rw[Η g]
     simp only[Ũ,if_true]
     have f:decide (x=y)=Ε:=by rw[←e];simp[g]
     rw[f]at h
     exact Τ (Ϛ (Ϛ (Ϛ h)))
 ·rintro⟨Z,r2⟩ p ⟨G,rfl,q,t,j,l,c,H,i,e,d⟩
  simp only at G
  subst G
  refine Ϛ ?_
  have S:(xs.size == o.size)=decide (x=y):=by
   rw[←e,←d]
   cases H with
   | nil =>
    cases i with
    |nil=>simp
    |cl _ _=>simp
    |cr _ _=>simp
   | cl _ _ =>
    cases i with
    |nil=>simp
    |cl _ _=>simp at c
    |cr _ _=>simp at c
   | cr _ _ =>
    cases i with
    |nil=>simp
    |cl _ _=>simp at c
    |cr _ _=>simp at c
  show P (.done (.ret (.bool (xs.size == o.size)))) p
  rw[S];exact h
theorem qK(g:Qv knd hk)(i:A.units+1<í)(j:hk.room A.in1)(c:Ey knd hk s.heap x a)(d:Ey knd hk s.heap y b)(h:Q (decide (x=y)) s):
  ϫ (ϩ prog w) A (eqBool (.ref a) (.ref b)) Q E s:=by
 unfold eqBool
 try with_reducible refine ľ ?_
 by_cases f:(Æ a == Æ b)=Δ
 ·rw[Ι f]
  have e:a=b:=by have:=eq_of_beq f;injection this
  subst e
  obtain rfl:=c.inj d
  exact Τ (JD (Ϛ (by simpa using h)))
 ·rw[Θ f]
  exact Τ (wpAny_richCompare_same_room (op:=.Eq) c.typeIs d.typeIs ua
   (Ĺ ua c.typeIs F.entry_tuple_eq (AL g i j c d ⟨_,Λ,(λe=>nomatch e),Ý h⟩) (F.args_tuple_eq_2 _ _)) (by omega))
theorem dW(l:mz hk d):∀{A:Ð}{E:Ρ->ϊ->Prop}{s:ϊ}{ks:List (K ⊕ L)}{a:Ν}{Q:Bool->ϊ->Prop}(n:Nat),d+1<=n->Ey knd hk s.heap ks a->Q Δ s->ϫ (ϩ prog w) A (eqIsQuiet n (.ref a)) Q E s:=by
 intro A E s ks a Q n x i h
 obtain⟨m,rfl⟩:∃m,n=m+1:=⟨n - 1,by omega⟩
 have j:=i.typeIs
 obtain⟨o,b,y,p,_,q,t⟩:=i
 unfold eqIsQuiet
 refine Τ (ú j ua.lookup ?_)
 refine Τ (rl j PM ?_)
 simp only[ĵ,à,if_false]
 refine Τ (ŷ p q ?_)
 refine Τ ?_
 rw[←L3]
 refine rx _ (λrest r c=>r.1=Γ/\c=s/\∃left,HJ knd hk s.heap left rest) _ ?_ ?_ _ _ ⟨Λ,Λ,ks,t⟩
 ·rintro v rest r c ⟨e,rfl,left,u⟩
  cases u with
  | cl f g =>
   rw[eqIsQuiet_byValue _ (knd.byValue _ _ f)]
   refine Τ (Ϛ ?_)
   simp only[ĵ,à,if_false]
   exact Ϛ ⟨Λ,Λ,_,g⟩
  | cr f g =>
   refine Τ (l m (by omega) f ?_)
   simp only[ĵ,à,if_false]
   exact Ϛ ⟨Λ,Λ,_,g⟩
 ·rintro⟨z,B⟩ c ⟨e,rfl,_⟩
  simp only at e
  subst e
  exact Ϛ h
end
noncomputable def kH{prog:Program}{w:Ϭ}{K L:Type}[DecidableEq K][DecidableEq L](knd:KeyKind prog w K)(hk:ď prog w L)(mx:Qv knd hk){d:Nat}(hq:mz hk d)(hd:d<=7):ď prog w (List (K ⊕ L)) where
 is:=Ey knd hk
 hash:=kI knd hk
 draws:=λks=>(ks.map (kY hk)).sum+1
 room:=λA=>A.units+1<í/\hk.room A.in1
 inj:=λhx hy=>hx.inj hy
 keeps:=λx ho hd hs=>x.keeps ho hd hs
 pyHash:=λhu hx h=>vq (by have:=hu.1;omega) hu.2 hx h
 eqBool:=λhu hx hy h=>qK mx hu.1 hu.2 hx hy h
 quiet:=λhx h=>dW hq 8 (by omega) hx h
section
variable {prog:Program}{w:Ϭ}
theorem oY[DecidableEq L]{e:ď prog w L}(f:∀{h:Ù}{l:L}{a:Ν},e.is h l a->∃b,h.IsTuple a b):Qv (c4 prog w) e:=by
 intro A s k v l a c g j
 obtain⟨b,d⟩:=f j
 rcases cp g with ⟨_,rfl⟩|⟨i,t,_,rfl⟩
 ·exact⟨EqAt.none_tuple d c,EqAt.tuple_none d c⟩
 ·exact⟨EqAt.int_tuple i t d c,EqAt.tuple_int i t d c⟩
theorem oj{K L:Type}[DecidableEq K][DecidableEq L]{c:KeyKind prog w K}{d:ď prog w L}{ks:List (K ⊕ L)}(x:Ey c d h ks a):∃b,h.IsTuple a b:=by
 obtain⟨o,b,n,e,f,g,_⟩:=x
 exact⟨b,o,e,f,n,g⟩
noncomputable def oW(prog:Program)(w:Ϭ):ď prog w Empty where
 is:=λ_ k _=>k.elim
 hash:=λk=>k.elim
 draws:=λk=>k.elim
 room:=λ_=>True
 inj:=λ{_ _ x _} _ _=>x.elim
 keeps:=λ{_ _ k _ _ _ _ _} _ _ _ _=>k.elim
 pyHash:=λ{_ _ _ k _ _} _ _ _=>k.elim
 eqBool:=λ{_ _ _ x _ _ _ _} _ _ _ _=>x.elim
 quiet:=λ{_ _ _ k _ _} _ _=>k.elim
theorem qv:mz (oW prog w) 0:=λ{_ _ _ k _ _} _ _ _ _=>k.elim
theorem CS:Qv (c4 prog w) (oW prog w):=λ{_ _ _ _ l _} _ _ _=>l.elim
noncomputable def Lv:Nat->Type
 |0=>Empty
 |n+1=>List (Option Int ⊕ Lv n)
instance Q0:(n:Nat)->DecidableEq (Lv n)
 |0=>inferInstanceAs (DecidableEq Empty)
 |n+1=>have:=Q0 n;inferInstanceAs (DecidableEq (List (Option Int ⊕ Lv n)))
abbrev kd1(prog:Program)(w:Ϭ):ď prog w (Lv 1):=kH (c4 prog w) (oW prog w) CS (d:=0) qv (by decide)
theorem kq1:mz (kd1 prog w) 1:=λn a b h=>dW (d:=0) qv n a b h
abbrev kd2(prog:Program)(w:Ϭ):ď prog w (Lv 2):=kH (c4 prog w) (kd1 prog w) (oY λx=>oj x) (d:=1) kq1 (by decide)
theorem kq2:mz (kd2 prog w) 2:=λn a b h=>dW (d:=1) kq1 n a b h
abbrev kd3(prog:Program)(w:Ϭ):ď prog w (Lv 3):=kH (c4 prog w) (kd2 prog w) (oY λx=>oj x) (d:=2) kq2 (by decide)
theorem kq3:mz (kd3 prog w) 3:=λn a b h=>dW (d:=2) kq2 n a b h
abbrev kd4(prog:Program)(w:Ϭ):ď prog w (Lv 4):=kH (c4 prog w) (kd3 prog w) (oY λx=>oj x) (d:=3) kq3 (by decide)
theorem kq4:mz (kd4 prog w) 4:=λn a b h=>dW (d:=3) kq3 n a b h
abbrev OA(prog:Program)(w:Ϭ):ď prog w (Lv 5):=kH (c4 prog w) (kd4 prog w) (oY λx=>oj x) (d:=4) kq4 (by decide)
end
open PySem.Spec PyProof.Rows
def Ew:(n:Nat)->Hp->Lv n->Ν->Prop
 |0,_,_,_=>False
 |n+1,H,ks,b=>∃vs,H b=Β (.tup vs)/\Paired (λv (e:Option Int ⊕ Lv n)=>match e with|.inl o=>v=si o|.inr l=>∃c,v=.ref c/\Ew n H l c) vs ks
theorem Ew.same(s:DP H H'):∀{n:Nat}{k:Lv n}{b:Ν},Ew n H k b->Ew n H' k b
 |0,_,_,h=>h.elim
 | n+1,_,_,⟨vs,e,p⟩=>⟨vs,s _ _ e,Paired.mono (λv x h=>by
  cases x with
  |inl o=>exact h
  |inr l=>obtain⟨c,e,h⟩:=h;exact⟨c,e,Ew.same s h⟩) p⟩
theorem Dq(d:∀{l:Lv n} {c:Ν},Ew n H l c->hk.is h l c)(p:Paired (λv (e:Option Int ⊕ Lv n)=>match e with|.inl o=>v=si o|.inr l=>∃c,v=.ref c/\Ew n H l c) vs ks)(r:υ vs us):HJ (c4 P w) hk h ks us:=by
 induction p generalizing us with
 |nil=>cases r;exact .nil
 | @cons v e vs ks h1 _ ih =>
  cases r with
  | cons a b =>
   cases e with
   | inl o =>
    refine .cl ?_ (ih b)
    cases (h1)
    cases o with
    |none=>have e:=a;subst e;rfl
    |some i=>obtain⟨g,e⟩:=(a);subst e;exact beq_self_eq_true i
   | inr l =>
    obtain⟨c,rfl,f⟩:=h1
    obtain rfl:_=Æ c:=a
    exact .cr (d f) (ih b)
theorem kG(ok:Ft P w H h)(a:∀{l:Lv n} {c:Ν},Ew n H l c->hk.is h l c)(e:Ew (n+1) H k b):Ey (c4 P w) hk h k b:=by
 obtain⟨j,e,p⟩:=e
 obtain⟨_,d,r,o,f,⟨g,m,i⟩,_⟩:=ok _ _ e
 exact⟨o,d.toArray,m,f,g,i,Dq a p r⟩
theorem AA(ok:Ft P w H h)(e:Ew 5 H k b):(OA P w).is h k b:=
 kG ok (λq=>kG ok (λq=>kG ok (λq=>kG ok (λq=>kG (n:=0) (hk:=oW P w) ok (λ{l _} _=>Empty.elim l) q) q) q) q) e
theorem Bz{A:Ð}(a:A.units+8<í):(OA P w).room A.in1:=by
 have e:∀B:Ð,B.in1.units=B.units+1:=λ_=>rfl
 refine⟨?_,?_,?_,?_,?_,À⟩<;>simp only[e]<;>omega
abbrev dC:=Lv 5×Ν×V
abbrev gG(p:dC)(q:Lv 5×Ν×Ρ):Prop:=p.1=q.1/\p.2.1=q.2.1/\RelV p.2.2 q.2.2
def m6(P:Program)(w:Ϭ)(a:Ν)(kvs:List dC):Ù->Prop:=λh=>kvs.length<=Χ/\(a == Û)=Ε/\∃xs,Paired gG kvs xs/\
 ∃o es ep,h.get? a=Β o/\o.ExactDict/\o.data=.dict es ep/\es.toList=xs.map (Sl (OA P w))/\(xs.map (·.1)).Nodup
noncomputable def cv(P:Program)(w:Ϭ)(a:Ν)(kvs:List dC):HO:=.ext (m6 P w a kvs)
def EJ(P:Program)(w:Ϭ)(H:Hp)(a:Ν)(kvs:List dC):Prop:=H a=Β (cv P w a kvs)/\∀x∈kvs,Ew 5 H x.1 x.2.1
theorem EJ.same(h:EJ P w H a kvs)(s:DP H H'):EJ P w H' a kvs:=⟨s _ _ h.1,λx b=>(h.2 x b).same s⟩
noncomputable def dz(kvs:List dC)(k:Lv 5):Option V:=(kvs.find? λx=>decide (x.1=k)).map (·.2.2)
noncomputable def mT(k:Lv 5)(v:V)(x:dC):dC:=if x.1=k then (x.1,x.2.1,v) else x
noncomputable def cM(kvs:List dC)(k:Lv 5)(b:Ν)(v:V):List dC:=if (dz kvs k).isSome then kvs.map (mT k v) else kvs++[(k,b,v)]
theorem jq:dz [] k=Γ:=rfl
theorem cx:dz (x:: kvs) k=if x.1=k then Β x.2.2 else dz kvs k:=by
 unfold dz
 rw[õ]
 by_cases h:x.1=k
 ·rw[Ζ h,Ι h];rfl
 ·rw[Η h,Θ h]
theorem uE:dz (a.map (mT k v)) k'=if k'=k then (dz a k).map (λ_=>v) else dz a k':=by
 induction a with
 |nil=>rw[Js,jq,jq];split<;>rfl
 | cons x a c =>
  rw[Ç,cx,c,cx,cx]
  unfold mT
  by_cases h:x.1=k<;>by_cases b:k'=k
  ·have:x.1=k':=h.trans b.symm
   simp[h,b]
  ·have:¬x.1=k':=λz=>b (z.symm.trans h)
   rw[Ι h,Θ b,Θ this,Θ this,Θ b]
  ·subst b
   simp[h]
  ·simp[h,b]
theorem oi(h:dz a k=Γ):dz (a++[(k,b,v)]) k'=if k'=k then Β v else dz a k':=by
 induction a with
 | nil =>
  rw[ic,cx,jq]
  by_cases e:k'=k
  ·rw[Ι e,Ι e.symm]
  ·rw[Θ e,Θ (ϛ e)]
 | cons x a d =>
  rw[cx]at h
  by_cases c:x.1=k
  ·rw[Ι c]at h;cases h
  ·rw[Θ c]at h
   rw[List.cons_append,cx,d h,cx]
   by_cases e:k'=k
   ·subst e;rw[Θ c,Ι Λ,Ι Λ]
   ·rw[Θ e,Θ e]
theorem uD:dz (cM kvs k b v) k'=if k'=k then Β v else dz kvs k':=by
 unfold cM
 cases h:dz kvs k with
 |none=>rw[Θ (by simp)];exact oi h
 | some u =>
  rw[Ι (by simp),uE,h];rfl
theorem iN:(cM kvs k b v).length<=kvs.length+1:=by
 unfold cM
 split
 ·rw[Ο];omega
 ·rw[Υ];exact Ξ _
theorem rZ{F:Lv 5->Ν->Prop}(h:∀x∈kvs,F x.1 x.2.1)(d:F k b):∀x∈cM kvs k b v,F x.1 x.2.1:=by
 intro x a
 unfold cM at a
 split at a
 ·obtain⟨y,c,rfl⟩:=Õ.mp a
  unfold mT
  split
  ·exact h y c
  ·exact h y c
 ·rcases Ϣ.mp a with q|q
  ·exact h x q
  ·rw[Φ.mp q];exact d
theorem qL(r:Paired gG kvs xs)(k:Lv 5):ET (dz kvs k) ((Ÿ xs k).map (·.2)):=by
 induction r with
 |nil=>exact À
 | @cons p q _ _ h1 _ ih =>
  rw[cx]
  unfold Ÿ at ih⊢
  rw[õ]
  by_cases e:p.1=k
  ·rw[Ι e,Ζ (h1.1.symm.trans e)];exact h1.2.2
  ·rw[Θ e,Η (λz=>e (h1.1.trans z))];exact ih
theorem yA(r:Paired gG kvs xs)(a:RelV v u):Paired gG (kvs.map (mT k v)) (xs.map (Tp k u)):=by
 induction r with
 |nil=>exact .nil
 | @cons p q _ _ h1 _ ih =>
  refine .cons ?_ ih
  unfold mT Tp
  by_cases e:p.1=k
  ·rw[Ι e,Ι (h1.1.symm.trans e)];exact⟨h1.1,h1.2.1,a⟩
  ·rw[Θ e,Θ (λz=>e (h1.1.trans z))];exact h1
theorem vx(r:Paired gG kvs xs)(h:gG p q):Paired gG (kvs++[p]) (xs++[q]):=by
 induction r with
 |nil=>exact .cons h .nil
 |cons a _ b=>exact .cons a b
theorem qM(r:Paired gG kvs xs)(a:RelV v u):Paired gG (cM kvs k b v) (Ik xs k b u):=by
 have h:=eD (qL r k)
 rw[è]at h
 unfold cM Ik
 rw[h]
 split
 ·exact yA r a
 ·exact vx r ⟨Λ,Λ,a⟩
section
variable {P:Program}{w:Ϭ}{H:Hp}{h:Ù}{a b:Ν}{kvs:List dC}{k:Lv 5}
theorem lT(ok:Ft P w H h)(e:EJ P w H a kvs):kvs.length<=Χ/\(a == Û)=Ε/\∃xs,Paired gG kvs xs/\h.DictOfH (OA P w) a xs:=by
 obtain⟨e,g⟩:=e
 obtain⟨⟨z,i,xs,r,o,j,l,d,m,s,t,u⟩,_⟩:=ok _ _ e
 refine⟨z,i,xs,r,o,j,l,d,m,s,t,?_,u⟩
 have all:∀{kvs:List dC}{xs:List (Lv 5×Ν×Ρ)},Paired gG kvs xs->(∀x∈kvs,Ew 5 H x.1 x.2.1)->∀x∈xs,(OA P w).is h x.1 x.2.1:=by
  intro kvs xs r
  induction r with
  |nil=>intro _ x c;cases c
  | @cons p q _ _ d _ ih =>
   intro f x c
   rcases Ϯ.mp c with rfl|c
   ·have:=f p ϟ
    rw[d.1,d.2.1]at this
    exact AA ok this
   ·exact ih (λy v=>f y (ϧ _ v)) x c
 exact all r g
theorem i4(d e:Ù)(p:m6 P w a kvs d)(f:∀o,d.get? a=Β o->e.get? a=Β o):m6 P w a kvs e:=by
 obtain⟨z,g,xs,r,o,i,j,q,c⟩:=p
 exact⟨z,g,xs,r,o,i,j,f _ q,c⟩
theorem v6(c:Û<h.objs.size):Er P w H (h.push {cls:=.type "dict",data:=.dict #[]}) h.objs.size (cv P w h.objs.size []):=
 ⟨⟨Ϧ _,beq_eq_false_iff_ne.mpr (ϛ (Ê c)),[],.nil,_,#[],0,Ϡ _ Λ,⟨Λ,Λ,Λ⟩,Λ,Λ,ä⟩,⟨_,Ϡ _ Λ⟩,λ_ _=>i4 _ _⟩
end
def BG(P:Program)(w:Ϭ)(H:Hp)(a:Ν)(y:V)(r:Option V):Prop:=∃kvs k b,EJ P w H a kvs/\y=.ref b/\Ew 5 H k b/\r=dz kvs k
section
variable {X:Cx}{ο:List (Ν×Obj)}{σ:St}{H:Hp}{s:ϊ}{a b:Ν}{y v d:V}{u r:Ρ}{o:Option V}{A:Ð}{E:Ρ->ϊ->Prop}
theorem xW(i:A.units+8<í)(I:τ X ο σ H s)(g:BG X.prog X.w H a y o)(j:RelV y u)(h:∀f,τ X ο σ H f->Q (.bool (!o.isSome)) f):
  ϫ (ϩ X.prog X.w) A (compareOp .NotIn u (.ref a)) Q E s:=by
 obtain⟨l,k,b,e,rfl,m,rfl⟩:=g
 cases (j)
 obtain⟨_,p,xs,c,t⟩:=lT I.DW e
 refine wpAny_notIn_heap (Bz i) (AA I.DW m) p t ?_
 have q:=eD (qL c k)
 rw[è]at q
 rw[←q]
 exact h _ (I.tok _)
theorem CP(j:A.units+8<í)(I:τ X ο σ H s)(e:EJ X.prog X.w H a kvs)(l:Ew 5 H k b)(m:kvs.length<Χ)(p:RelV v r)
  (h:∀i,τ X ο σ (π H a (cv X.prog X.w a (cM kvs k b v))) i->Q () i):ϫ (ϩ X.prog X.w) A (setItem (.ref a) (.ref b) r) Q E s:=by
 obtain⟨z,t,xs,f,B⟩:=lT I.DW e
 have C:xs.length<=Χ:=by rw[←Paired.length f];exact z
 have D:(cM kvs k b v).length<=Χ:=Î iN m
 refine gi (hsz:=C) (Bz j) (AA I.DW l) B λR F G=>h _ ?_
 obtain⟨q,J,K,g,L,M,N,_,O⟩:=F
 exact I.write (x:=a) (e:=a) (by rw[e.1];exact À) (.inl Λ) (λc q P z=>(G.2 c P).trans z) ⟨q,g⟩
  ⟨⟨D,t,_,qM f p,q,J,K,g,L,M,N,O⟩,⟨q,g⟩,λ_ _=>i4 _ _⟩
end
inductive Uay(P:Program)(w:Ϭ)(Q:VK)(y:V)(x:V)(H2:Hp):Prop
 |mk (a o)(_:x=.ref a)(_:BG P w H2 a y o)(_:Q (.bl (!o.isSome)) H2)
def pT(P:Program)(w:Ϭ)(ty td:TE):TE:=λσ H Q=>ty σ H λy H1=>td σ H1 λx H2=>Uay P w Q y x H2
inductive Uaz(P:Program)(w:Ϭ)(D:pH)(σ:St)(v:V)(x:V)(y:V)(H3:Hp):Prop
 |mk (a kvs k b)(_:x=.ref a)(_:EJ P w H3 a kvs)(_:y=.ref b)(_:Ew 5 H3 k b)(_:kvs.length<Χ)(_:D.nx σ (π H3 a (cv P w a (cM kvs k b v))))
def wU(P:Program)(w:Ϭ)(td ty tv:TE):TS:=λD σ H=>tv σ H λv H1=>td σ H1 λx H2=>ty σ H2 λy H3=>Uaz P w D σ v x y H3
section
variable {X:Cx}{o i e f value:Expr}{pos pos' apos E9:Pos}{td ty tv tx:TE}
theorem sf(d:X.A.units+8<í)(j:PE X i ty)(l:PE X o td):PC X .NotIn i o (pT X.prog X.w ty td):=by
 intro b s c H Q I h
 refine bj (j b s c H _ I h) λF m ⟨y,p,q,r,t⟩=>bj (l b m c p _ q t) λu G v=>?_
 obtain⟨x,z,B,C,a,ov,ex,g,D⟩:=v
 subst ex
 obtain rfl:u=Æ a:=C
 exact xW d B g r λK E=>⟨.bl (!ov.isSome),z,E,Λ,D⟩
theorem xo(g:X.A.units+8<í)(j:PE X o td)(l:PE X i ty)(m:PE X value tv)(p:ť value (Β (.Subscript o i pos')) pos.line X.env=pure Ε):
  PS X (.Assign [.Subscript o i pos'] value pos) (wU X.prog X.w td ty tv):=by
 intro c s d H D I h
 refine ũ (bj (m c s d H _ I h) λr q ⟨v,t,z,B,C⟩=>bj (j c q d t _ z C) λu E ⟨x,F,G,J,K⟩=>bj (l c E d F _ G K) λL Y M=>?_) p
 obtain⟨y,Z,N,O,a,P,k,b,ex,e,Q,R,S,T⟩:=M
 subst ex Q
 obtain rfl:u=Æ a:=J
 obtain rfl:L=Æ b:=O
 exact CP g N e R S B λs4 U=>⟨d,_,U,T⟩
end
def vX(P:Program)(w:Ϭ)(tk tv:TE):TE:=λσ H Q=>∀p,H p=Γ->tk σ (π H p (cv P w p [])) λy H1=>tv σ H1 λv H2=>∃k b,y=.ref b/\H2 p=Β (cv P w p [])/\Ew 5 H2 k b/\Q (.ref p) (π H2 p (cv P w p [(k,b,v)]))
theorem Cl(a:A.units+8<í):(OA P w).room A:=by
 have e:∀B:Ð,B.in1.units=B.units+1:=λ_=>rfl
 refine⟨?_,?_,?_,?_,?_,À⟩<;>(try simp only[e])<;>omega
theorem xv(l:X.A.units+8<í)(m:PE X ke tk)(p:PE X ve tv):PE X (.Dict [Β ke] [ve] pos) (vX X.prog X.w tk tv):=by
 intro d s r H Q I q
 have u:=I.DW.fresh (Ξ s.heap.objs.size)
 have B:=I.laid (a:=s.heap.objs.size) (o:=cv X.prog X.w s.heap.objs.size []) (h':=s.heap.push {cls:=.type "dict",data:=.dict #[]}) (t':=s.toks) (λ_ _ q=>ώ _ q) (Ξ _) (v6 (yL I))
 refine wpAny_Dict_any Λ Λ (by simp) (by show 1<=15;decide) (bj ((xp m p (zH (pos:=pos))) d _ r _ (λps f=>match ps with
  |[(y,v)]=>∃k b,y=.ref b/\f s.heap.objs.size=Β (cv X.prog X.w s.heap.objs.size [])/\Ew 5 f k b/\Q (.ref s.heap.objs.size) (π f s.heap.objs.size (cv X.prog X.w s.heap.objs.size [(k,b,v)]))
  |_=>False) B (q _ u)) λws s2 ⟨ps,f,g,h,D⟩=>?_)
 match ps,D with
 | [(_,v)],⟨k,b,rfl,e,kb,q2⟩ =>
  cases h with
  | @cons _ x _ _ h1 t =>
   cases t
   obtain⟨E,u2⟩:=x
   obtain⟨F,G⟩:=h1
   obtain rfl:E=Æ b:=F
   have ed:EJ X.prog X.w f s.heap.objs.size []:=⟨e,λx J=>by cases J⟩
   obtain⟨z,K,xs,L,M⟩:=lT g.DW ed
   cases L
   unfold storeAll
   simp only[S7,List.forIn_nil]
   refine Τ (Τ (wpAny_dictSet_heap (hsz:=Ϧ _) (Cl l) (AA g.DW kb) M λh' N O=>?_))
   refine Ϛ (Ϛ ⟨.ref s.heap.objs.size,_,?_,Λ,q2⟩)
   obtain⟨i,P,R,j,S,T,U,_,Y⟩:=N
   exact g.write (x:=s.heap.objs.size) (e:=s.heap.objs.size) (by rw[e];exact À) (.inl Λ) (λc q Z z=>(O.2 c Z).trans z) ⟨i,j⟩
    ⟨⟨by show 1<=Χ;decide,K,_,qM (kvs:=[]) .nil G,i,P,R,j,S,T,U,Y⟩,⟨i,j⟩,λ_ _=>i4 _ _⟩
end L2
namespace LkM
abbrev Dn:=List (Nat×Nat)
abbrev Ld:=List Dn
noncomputable def ks(d:Dn):List Nat:=d.map (·.1)
noncomputable def mq(l g:Nat)(d:Dn):Dn:=if l∈ks d then d else d++[(l,g)]
noncomputable def eA(l g:Nat)(L:Ld)(w:Nat):Ld:=L.set w (mq l g (L.getD w []))
noncomputable def fq(on:Nat->Nat->List Nat)(l:Nat)(L:Ld)(g:Nat):Ld:=(on g l).foldl (eA l g) L
noncomputable def jM(on:Nat->Nat->List Nat)(gs:Nat->List Nat)(L:Ld)(l:Nat):Ld:=(gs l).foldl (fq on l) L
noncomputable def eP(on:Nat->Nat->List Nat)(gs:Nat->List Nat)(n:Nat):Ld:=(ό n).foldl (jM on gs) (Ϫ n [])
theorem jJ:∀(n:Nat)(l:List Nat),l.Nodup->(∀x∈l,x<n)->l.length<=n
 | 0,l,_,h=>by
  cases l with
  |nil=>exact Ξ _
  |cons x l=>exact Κ (h x ϟ) (ī _)
 | n+1,l,hn,h=>by
  by_cases b:n∈l
  ·have e:=Hg b
   have:=jJ n (l.erase n) (hn.erase n) λx a=>by
    have c:=(hn.mem_erase_iff).mp a
    have:=h x c.2
    have:=c.1
    omega
   omega
  ·have:=jJ n l hn λx a=>by
    have:=h x a
    have:x≠n:=λz=>b (by rw[←z];exact a)
    omega
   omega
theorem tQ{l:List Nat}(c:l.Nodup)(h:∀x∈l,x<n)(f:n<=l.length):∀x,x<n->x∈l:=by
 intro x d
 by_cases b:x∈l
 ·exact b
 ·have:=jJ n (x:: l) (ë.mpr ⟨b,c⟩) λy a=>by
   rcases Ϯ.mp a with e|a
   ·rw[e];exact d
   ·exact h y a
  simp at this
  omega
structure E2(on:Nat->Nat->List Nat)(gs:Nat->List Nat)(n:Nat)(L:Ld):Prop where
 len:L.length=n
 nd:∀w,(ks (L.getD w [])).Nodup
 of:∀w,∀x∈L.getD w [],x.1<n/\x.2∈gs x.1/\w∈on x.2 x.1
theorem gw(L:Ld)(w v:Nat)(d:Dn):(L.set w d).getD v []=if w=v/\w<L.length then d else L.getD v []:=by
 rw[Ω,ħ]
 by_cases h:w=v
 ·rw[Ι h]
  by_cases a:w<L.length
  ·rw[Ι a,Ι ⟨h,a⟩];rfl
  ·rw[Θ a,Θ λz=>a z.2,Ω,Í (by omega)]
 ·rw[Θ h,Θ λz=>h z.1,Ω]
theorem Bb(h:(ks d).Nodup):(ks (mq l g d)).Nodup:=by
 unfold mq
 split
 ·exact h
 ·next hn =>
  unfold ks at*
  rw[ϯ,ı]
  refine⟨h,by simp,λy b c a=>?_⟩
  have a:c=l:=by simpa using a
  intro z
  rw[z,a]at b
  exact hn b
theorem yT(h:x∈mq l g d):x∈d∨x=(l,g):=by
 unfold mq at h
 split at h
 ·exact .inl h
 ·rcases Ϣ.mp h with h|h
  ·exact .inl h
  ·exact .inr (Φ.mp h)
theorem yU:l∈ks (mq l g d):=by
 unfold mq
 split
 ·assumption
 ·unfold ks;simp
theorem vE(h:z∈ks d):z∈ks (mq l g d):=by
 unfold mq
 split
 ·exact h
 ·unfold ks at*
  rw[ϯ]
  exact Ä _ h
variable {on:Nat->Nat->List Nat}{gs:Nat->List Nat}{n:Nat}
theorem E2.add(h:E2 on gs n L)(b:l<n)(c:g∈gs l)(d:w∈on g l):E2 on gs n (eA l g L w) where
 len:=by unfold eA;rw[Ċ];exact h.len
 nd:=λv=>by
  unfold eA
  rw[gw]
  split
  ·exact Bb (h.nd w)
  ·exact h.nd v
 of:=λv x a=>by
  unfold eA at a
  rw[gw]at a
  split at a
  ·next e =>
   rcases yT a with a|f
   ·rw[←e.1];exact h.of w x a
   ·rw[f,←e.1];exact⟨b,c,d⟩
  ·exact h.of v x a
theorem E2.μ(b:l<n)(c:g∈gs l):∀(a:List Nat){L:Ld},E2 on gs n L->(∀z∈a,z∈on g l)->E2 on gs n (a.foldl (eA l g) L)
 |[],_,h,_=>h
 |z:: a,L,h,hw=>E2.μ b c a (h.add b c (hw z ϟ)) λy d=>hw y (ϧ _ d)
theorem E2.Ek(c:l<n):∀(a:List Nat){L:Ld},E2 on gs n L->(∀z∈a,z∈gs l)->E2 on gs n (a.foldl (fq on l) L)
 |[],_,h,_=>h
 |z:: a,L,h,hw=>E2.Ek c a (E2.μ c (hw z ϟ) _ h λy b=>b) λy b=>hw y (ϧ _ b)
theorem E2.all:∀(a:List Nat){L:Ld},E2 on gs n L->(∀z∈a,z<n)->E2 on gs n (a.foldl (jM on gs) L)
 |[],_,h,_=>h
 |z:: a,L,h,hw=>E2.all a (E2.Ek (hw z ϟ) _ h λy b=>b) λy b=>hw y (ϧ _ b)
theorem lf(m w:Nat):(Ϫ m ([]:Dn)).getD w []=[]:=by
 rw[Ω,ü]
 split<;>rfl
theorem E2.init:E2 on gs n (Ϫ n []) where
 len:=é
 nd:=λw=>by rw[lf];exact ä
 of:=λw x a=>by rw[lf]at a;cases a
theorem lG:E2 on gs n (eP on gs n):=E2.all _ E2.init λz a=>Ë.mp a
theorem E2.E4(h:E2 on gs n L)(w:Nat):(L.getD w []).length<=n:=by
 have:=jJ n (ks (L.getD w [])) (h.nd w) λx a=>by
  obtain⟨y,b,rfl⟩:=Õ.mp a
  exact(h.of w y b).1
 unfold ks at this
 rwa [Ο]at this
theorem yR(h:z∈ks (L.getD v [])):z∈ks ((eA l g L w).getD v []):=by
 unfold eA
 rw[gw]
 split
 ·next e=>rw[←e.1]at h;exact vE h
 ·exact h
theorem j8:∀(a:List Nat){L:Ld},z∈ks (L.getD v [])->z∈ks ((a.foldl (eA l g) L).getD v [])
 |[],_,h=>h
 |_:: a,_,h=>j8 a (yR h)
theorem j5:∀(a:List Nat){L:Ld},z∈ks (L.getD v [])->z∈ks ((a.foldl (fq on l) L).getD v [])
 |[],_,h=>h
 |_:: a,_,h=>j5 a (j8 _ h)
theorem rh:∀(a:List Nat){L:Ld},z∈ks (L.getD v [])->z∈ks ((a.foldl (jM on gs) L).getD v [])
 |[],_,h=>h
 |_:: a,_,h=>rh a (j5 _ h)
theorem rm(l g:Nat)(L:Ld)(w:Nat):(eA l g L w).length=L.length:=by unfold eA;rw[Ċ]
theorem lN:∀(a:List Nat)(L:Ld),(a.foldl (eA l g) L).length=L.length
 |[],_=>rfl
 |w:: a,L=>by rw[JX,lN a,rm]
theorem qC:∀(a:List Nat)(L:Ld),(a.foldl (fq on l) L).length=L.length
 |[],_=>rfl
 |q:: a,L=>by rw[JX,qC a];exact lN _ _
theorem qH:∀(a:List Nat){L:Ld},w∈a->w<L.length->l∈ks ((a.foldl (eA l g) L).getD w [])
 | z:: a,L,h,hw=>by
  rcases Ϯ.mp h with e|h
  ·subst e
   refine j8 a ?_
   unfold eA
   rw[gw,Ι ⟨Λ,hw⟩]
   exact yU
  ·exact qH a h (by rw[rm];exact hw)
theorem qD(b:w∈on g l):∀(a:List Nat){L:Ld},g∈a->w<L.length->l∈ks ((a.foldl (fq on l) L).getD w [])
 | z:: a,L,h,hl=>by
  rcases Ϯ.mp h with e|h
  ·subst e
   exact j5 a (qH _ b hl)
  ·exact qD b a h (by show w<(fq on l L z).length;unfold fq;rw[lN];exact hl)
theorem u7(b:w∈on g l)(c:g∈gs l):∀(a:List Nat){L:Ld},l∈a->w<L.length->l∈ks ((a.foldl (jM on gs) L).getD w [])
 | z:: a,L,h,hl=>by
  rcases Ϯ.mp h with e|h
  ·subst e
   exact rh a (qD b _ c hl)
  ·exact u7 b c a h (by show w<(jM on gs L z).length;unfold jM;rw[qC];exact hl)
theorem vh(a:l<n)(b:g∈gs l)(c:w∈on g l)(d:w<n):l∈ks ((eP on gs n).getD w []):=
 u7 c b _ (Ë.mpr a) (by rw[é];exact d)
noncomputable def dL(L:Ld)(a:Dn)(l:Nat):Bool:=!decide (l∈ks a)&& (ks (L.getD l [])).all λk=>decide (k∈ks a)
noncomputable def bM(L:Ld)(a:Dn):List Nat:=(ό L.length).filter (dL L a)
noncomputable def Eo(a:Dn)(fs:List Nat)(m:Nat):Dn:=a++fs.map λl=>(l,m)
noncomputable def mD(L:Ld):Nat->Dn->Nat->Dn
 |0,a,_=>a
 |f+1,a,m=>if bM L a=[] then a else mD L f (Eo a (bM L a) m) (m+1)
noncomputable def jy(L:Ld):Dn:=mD L (L.length+1) [] 0
theorem qt(h:bM L a=[]):∀f,mD L f a m=a
 |0=>rfl
 |f+1=>by rw[mD,Ι h]
theorem nc(h:bM L a≠[]):mD L (f+1) a m=mD L f (Eo a (bM L a) m) (m+1):=by rw[mD,Θ h]
theorem EK:l∈bM L a↔l<L.length/\l∉ks a/\∀k∈ks (L.getD l []),k∈ks a:=by
 unfold bM dL
 rw[Å,Ë]
 simp only[Ö,Ĩ,decide_eq_false_iff_not,ĭ,decide_eq_true_eq]
theorem ut(L:Ld)(a:Dn):(bM L a).Nodup:=ll _ QN
theorem ja(a:Dn)(fs:List Nat)(m:Nat):ks (Eo a fs m)=ks a++fs:=by
 unfold ks Eo
 rw[ϯ,ê]
 congr 1
 exact(ŗ (λx _=>rfl)).trans (List.map_id _)
structure EX(L:Ld)(a:Dn)(m:Nat):Prop where
 nd:(ks a).Nodup
 lt:∀x∈ks a,x<L.length
 bd:∀x∈a,x.2<m
 E4:m<=a.length
 low:∀x∈a,∀k∈ks (L.getD x.1 []),∃y∈a,y.1=k/\y.2<x.2
 top:∀x∈a,x.2=0∨∃y∈a,y.1∈ks (L.getD x.1 [])/\y.2+1=x.2
 cl:0<m->∀l,l<L.length->(∀k∈ks (L.getD l []),∃y∈a,y.1=k/\y.2+1<m)->l∈ks a
theorem EX.nil(L:Ld):EX L [] 0:=⟨ä,(λx h=>by cases h),(λx h=>by cases h),Ξ _,(λx h=>by cases h),(λx h=>by cases h),λh=>Κ h (Ĭ _)⟩
theorem EX.len(h:EX L a m):a.length<=L.length:=by
 have:=jJ _ _ h.nd h.lt
 unfold ks at this
 rwa [Ο]at this
theorem j0(h:k∈ks a):∃y∈a,y.1=k:=Õ.mp h
theorem sC(h:y∈a):y.1∈ks a:=Õ.mpr ⟨y,h,Λ⟩
theorem EC:x∈Eo a fs m↔x∈a∨(x.1∈fs/\x.2=m):=by
 unfold Eo
 rw[Ϣ,Õ]
 constructor
 ·rintro (h|⟨l,b,rfl⟩)
  ·exact .inl h
  ·exact .inr ⟨b,Λ⟩
 ·rintro (h|⟨c,d⟩)
  ·exact .inl h
  ·exact .inr ⟨x.1,c,by rw[←d]⟩
theorem EX.step(h:EX L a m)(q:bM L a≠[]):EX L (Eo a (bM L a) m) (m+1) where
 nd:=by
  rw[ja,ı]
  refine⟨h.nd,ut L a,λx b y c e=>?_⟩
  subst e
  exact(EK.mp c).2.1 b
 lt:=λx b=>by
  rw[ja]at b
  rcases Ϣ.mp b with b|b
  ·exact h.lt x b
  ·exact(EK.mp b).1
 bd:=λx b=>by
  rcases EC.mp b with b|⟨_,b⟩
  ·exact eH (h.bd x b)
  ·omega
 E4:=by
  unfold Eo
  rw[Υ,Ο]
  have:=h.E4
  have:=ĕ.mpr q
  omega
 low:=λx b k d=>by
  rcases EC.mp b with b|⟨g,i⟩
  ·obtain⟨y,c,j,o⟩:=h.low x b k d
   exact⟨y,EC.mpr (.inl c),j,o⟩
  ·obtain⟨y,c,e⟩:=j0 ((EK.mp g).2.2 k d)
   exact⟨y,EC.mpr (.inl c),e,by rw[i];exact h.bd y c⟩
 top:=λx b=>by
  rcases EC.mp b with b|⟨g,i⟩
  ·rcases h.top x b with e|⟨y,c,j,o⟩
   ·exact .inl e
   ·exact .inr ⟨y,EC.mpr (.inl c),j,o⟩
  ·rcases Nat.eq_zero_or_pos m with e|f
   ·exact .inl (by omega)
   ·obtain⟨r,s,t⟩:=EK.mp g
    refine č λu=>s (h.cl f x.1 r λk d=>?_)
    obtain⟨y,c,e⟩:=j0 (t k d)
    refine⟨y,c,e,?_⟩
    have A:=h.bd y c
    rcases Ĥ (y.2+1) m with p|v
    ·exact p
    ·exact Κ (.inr ⟨y,EC.mpr (.inl c),by rw[e];exact d,by omega⟩) u
 cl:=λ_ l w d=>by
  rw[ja]
  by_cases f:l∈ks a
  ·exact Ä _ f
  ·refine Ϩ _ (EK.mpr ⟨w,f,λk z=>?_⟩)
   obtain⟨y,c,e,p⟩:=d k z
   rcases EC.mp c with c|⟨_,i⟩
   ·rw[←e];exact sC c
   ·omega
theorem xX:∀(f:Nat){a:Dn}{m:Nat},EX L a m->L.length+1<=f+a.length->∃b,EX L (mD L f a m) b/\bM L (mD L f a m)=[]
 | 0,a,m,h,hf=>by
  have:=h.len
  omega
 | f+1,a,m,h,hf=>by
  by_cases e:bM L a=[]
  ·rw[qt e]
   exact⟨m,h,e⟩
  ·rw[nc e]
   refine xX f (h.step e) ?_
   unfold Eo
   rw[Υ,Ο]
   have:=ĕ.mpr e
   omega
theorem sj(L:Ld):∃m,EX L (jy L) m/\bM L (jy L)=[]:=xX _ (EX.nil L) (by simp)
noncomputable def fX(d:Dn)(l:Nat):Option Nat:=(d.find? λx=>decide (x.1=l)).map (·.2)
theorem sU(h:fX d l=Β g):(l,g)∈d:=by
 unfold fX at h
 cases e:d.find? λx=>decide (x.1=l) with
 |none=>rw[e]at h;cases h
 | some y =>
  rw[e]at h
  have b:=vr e
  have a:=List.find?_some e
  have a:=of_decide_eq_true a
  have c:=Ψ h
  rw[←a,←c];exact b
theorem fU(h:l∈ks d):∃g,fX d l=Β g:=by
 unfold fX
 obtain⟨y,b,e⟩:=j0 h
 cases a:d.find? λx=>decide (x.1=l) with
 | none =>
  rw[Ă]at a
  exact Κ (Ζ e) (a y b)
 |some z=>exact⟨z.2,Λ⟩
theorem sk(h:(ks d).Nodup)(a:x∈d):fX d x.1=Β x.2:=by
 obtain⟨g,e⟩:=fU (sC a)
 have f:=sU e
 obtain⟨i,l,b⟩:=ô f
 obtain⟨j,m,c⟩:=ô a
 have o:(ks d)[i]?=Β x.1:=by unfold ks;rw[ϝ,Μ l,b];rfl
 have p:(ks d)[j]?=Β x.1:=by unfold ks;rw[ϝ,Μ m,c];rfl
 obtain⟨s,q⟩:=ϥ.mp o
 obtain⟨t,r⟩:=ϥ.mp p
 have:i=j:=(cb h).mp (q.trans r.symm)
 subst this
 rw[e,←c,b]
noncomputable def numsOf(a:Dn)(n:Nat):List Nat:=(ό n).map λl=>(fX a l).getD 0
structure yV(on:Nat->Nat->List Nat)(gs:Nat->List Nat)(n:Nat)(N:List Nat):Prop where
 len:N.length=n
 up:∀l g w,l<n->w<n->g∈gs l->w∈on g l->N.getD l 0<N.getD w 0
 top:∀w,w<n->N.getD w 0=0∨∃l g,l<n/\g∈gs l/\w∈on g l/\N.getD l 0+1=N.getD w 0
 bd:∀w,w<n->N.getD w 0<n
theorem vc(h:l<n):(numsOf a n).getD l 0=(fX a l).getD 0:=by
 unfold numsOf
 rw[Ω,ϝ,Ų h];rfl
theorem At(D:(jy (eP on gs n)).length=n):yV on gs n (numsOf (jy (eP on gs n)) n):=by
 have t:E2 on gs n (eP on gs n):=lG
 have E:∀{l g w:Nat},l<n->g∈gs l->w∈on g l->w<n->l∈ks ((eP on gs n).getD w []):=vh
 obtain⟨m,h,_⟩:=sj (eP on gs n)
 generalize eP on gs n=L at t E D h
 generalize jy L=a at D h
 have H:=t.len
 have full:∀x,x<n->x∈ks a:=tQ h.nd (λx v=>by rw[←H];exact h.lt x v) (by unfold ks;rw[Ο];omega)
 have b:∀l,l<n->∃y∈a,y.1=l/\(numsOf a n).getD l 0=y.2:=λl j=>by
  obtain⟨y,c,e⟩:=j0 (full l j)
  refine⟨y,c,e,?_⟩
  rw[vc j,←e,sk h.nd c];rfl
 have d:∀{y z:Nat×Nat},y∈a->z∈a->y.1=z.1->y.2=z.2:=λ{y z} c f e=>by
  have p:=sk h.nd c
  have q:=sk h.nd f
  rw[e]at p
  rw[p]at q
  exact Ψ q
 refine⟨by unfold numsOf;rw[Ο,å],λl g w j i I J=>?_,λw i=>?_,λw i=>?_⟩
 ·obtain⟨y,c,p,q⟩:=b l j
  obtain⟨z,f,r,o⟩:=b w i
  rw[q,o]
  obtain⟨u,A,s,B⟩:=h.low z f l (by rw[r];exact E j I J i)
  rw[d c A (by rw[p,s])]
  exact B
 ·obtain⟨z,f,r,o⟩:=b w i
  rw[o]
  rcases h.top z f with e|⟨y,c,s,B⟩
  ·exact .inl e
  ·rw[r]at s
   obtain⟨x,v,ex⟩:=j0 s
   obtain⟨C,F,G⟩:=t.of w x v
   rw[ex]at C F G
   obtain⟨u,A,K,M⟩:=b y.1 C
   refine .inr ⟨y.1,x.2,C,F,G,?_⟩
   rw[M,d A c K];exact B
 ·obtain⟨z,f,r,o⟩:=b w i
  rw[o]
  have:=h.bd z f
  have:=h.E4
  omega
noncomputable def lA:List Nat->Nat
 |[]=>0
 |[x]=>x
 |x:: y:: t=>min x (lA (y:: t))
theorem l9:∀{l:List Nat},l≠[]->lA l∈l
 |[],h=>Κ Λ h
 |[x],_=>Φ.mpr Λ
 | x:: y:: t,_=>by
  show min x (lA (y:: t))∈_
  rcases Nat.le_total x (lA (y:: t)) with h|h
  ·rw[GK h];exact ϟ
  ·rw[NX h];exact ϧ _ (l9 (List.cons_ne_nil _ _))
theorem tV:∀{l:List Nat}{z:Nat},z∈l->lA l<=z
 |[x],z,h=>by rw[Φ.mp h];exact Ξ _
 | x:: y:: t,z,h=>by
  rcases Ϯ.mp h with e|h
  ·rw[e];exact Nat.min_le_left ..
  ·exact Î (Nat.min_le_right ..) (tV h)
theorem Av(a:m∈l)(h:∀z∈l,m<=z):m=lA l:=by
 have b:=tV a
 have c:=h _ (l9 (List.ne_nil_of_mem a))
 omega
noncomputable def gE(L:Ld)(a:Dn)(l:Nat):List Nat:=(ks (L.getD l [])).filter λk=>!decide (k∈ks a)
noncomputable def dI(L:Ld)(a:Dn):List Nat:=(ό L.length).filter λl=>!decide (l∈ks a)
noncomputable def mO(L:Ld)(a:Dn):Nat->List Nat->Nat->List Nat
 |0,wk,l=>wk.drop (wk.idxOf l)
 |f+1,wk,l=>if l∈wk then wk.drop (wk.idxOf l) else mO L a f (wk++[l]) (lA (gE L a l))
noncomputable def kD(L:Ld)(a:Dn):List Nat:=mO L a (L.length+1) [] ((dI L a).headD 0)
structure ID(L:Ld)(a:Dn)(wk:List Nat)(l:Nat):Prop where
 nd:wk.Nodup
 lt:∀x∈wk,x<L.length/\x∉ks a
 cur:l<L.length/\l∉ks a
 nx:∀i x y,wk[i]?=Β x->wk[i+1]?=Β y->y∈ks (L.getD x [])
 last:∀x,wk.getLast?=Β x->l∈ks (L.getD x [])
theorem rg(d:bM L a=[])(e:l<L.length)(f:l∉ks a):gE L a l≠[]:=by
 intro h
 have c:=EK.mpr ⟨e,f,λk g=>by
  refine č λb=>?_
  have:k∈gE L a l:=Å.mpr ⟨g,by rw[Η b];rfl⟩
  rw[h]at this
  cases this⟩
 rw[d]at c
 cases c
theorem ID.step(g:∀w,∀x∈ks (L.getD w []),x<L.length)(h:ID L a wk l)(j:bM L a=[])(m:l∉wk):ID L a (wk++[l]) (lA (gE L a l)):=by
 have o:=l9 (rg j h.cur.1 h.cur.2)
 obtain⟨f,p⟩:=Å.mp o
 refine⟨?_,λx b=>?_,⟨g _ _ f,by simpa using p⟩,λi x y b c=>?_,λx b=>?_⟩
 ·rw[ı]
  refine⟨h.nd,by simp,λx b y c e=>?_⟩
  rw[Φ.mp c]at e
  subst e
  exact m b
 ·rcases Ϣ.mp b with b|b
  ·exact h.lt x b
  ·rw[Φ.mp b];exact h.cur
 ·have q:=(L2.gQ0 c)
  rw[Υ,ϙ]at q
  rw[Ϙ (by omega)]at b
  rcases Ĥ (i+1) wk.length with d|d
  ·rw[Ϙ d]at c
   exact h.nx i x y b c
  ·rw[ø d]at c
   have r:i+1 - wk.length=0:=by omega
   rw[r]at c
   have c:=Ψ c
   subst c
   refine h.last x ?_
   rw[ñ]
   have:wk.length - 1=i:=by omega
   rw[this];exact b
 ·rw[List.getLast?_append]at b
  have b:l=x:=by simpa using b
  subst b
  exact f
structure Q2(L:Ld)(r:List Nat):Prop where
 ne:r≠[]
 nd:r.Nodup
 lt:∀x∈r,x<L.length
 nx:∀i x y,r[i]?=Β x->r[i+1]?=Β y->y∈ks (L.getD x [])
 cl:∀x y,r.getLast?=Β x->r.head?=Β y->y∈ks (L.getD x [])
theorem D6(h:ID L a wk l)(d:l∈wk):Q2 L (wk.drop (wk.idxOf l)):=by
 have e:=Ĵ d
 have f:wk[wk.idxOf l]?=Β l:=by rw[Μ e,Ly]
 refine⟨λz=>?_,List.Pairwise.sublist (List.drop_sublist _ _) h.nd,λx b=>(h.lt x (ű b)).1,λi x y b c=>?_,λx y b c=>?_⟩
 ·have:=congrArg K8 z
  rw[Ĉ]at this
  simp at this
  omega
 ·rw[ņ]at b c
  exact h.nx _ x y b (by rw[←c];congr 1)
 ·rw[List.head?_drop,f]at c
  cases c
  rw[List.getLast?_drop,Θ (by omega)]at b
  exact h.last x b
theorem Gz(c:∀w,∀x∈ks (L.getD w []),x<L.length)(d:bM L a=[]):∀(f:Nat){b:List Nat}{l:Nat},ID L a b l->L.length+1<=f+b.length->Q2 L (mO L a f b l)
 | 0,b,l,h,hl=>by
  have:=jJ _ _ h.nd λx e=>(h.lt x e).1
  omega
 | f+1,b,l,h,hl=>by
  rw[mO]
  split
  ·exact D6 h (by assumption)
  ·exact Gz c d f (h.step c d (by assumption)) (by rw[Υ,ϙ];omega)
theorem uc(g:a.length<L.length):dI L a≠[]:=by
 intro h
 have c:=λx b=>by
  refine č λd=>?_
  have:x∈dI L a:=Å.mpr ⟨Ë.mpr b,by rw[Η d];rfl⟩
  rw[h]at this
  cases this
 have e:∀m,(∀x,x<m->x∈ks a)->m<=(ks a).length:=λm f=>by
  have:=(QN (n:=m)).length_le_of_subset (λx b=>f x (Ë.mp b))
  rwa [å]at this
 have:=e _ c
 unfold ks at this
 rw[Ο]at this
 omega
theorem zd(c:∀w,∀x∈ks (L.getD w []),x<L.length)(d:bM L a=[])(f:a.length<L.length):Q2 L (kD L a):=by
 unfold kD
 refine Gz c d _ ?_ (by simp)
 have g:=uc f
 cases e:dI L a with
 |nil=>exact Κ e g
 | cons x t =>
  have b:x∈dI L a:=by rw[e];exact ϟ
  obtain⟨h,j⟩:=Å.mp b
  exact⟨ä,(λy l=>by cases l),⟨Ë.mp h,by simpa using j⟩,(λi x y b=>by simp at b),λx b=>by simp at b⟩
noncomputable def pJ(r:List Nat):List Nat:=r.drop 1++r.take 1
noncomputable def B0(L:Ld)(r:List Nat):List (Nat×Nat):=(r.zip (pJ r)).map λp=>(p.1,(fX (L.getD p.2 []) p.1).getD 0)
theorem zy(r:List Nat):(pJ r).length=r.length:=by
 unfold pJ
 rw[Υ,Ĉ,ć]
 omega
theorem Q2.fwd(h:Q2 L r):∀(i x y:Nat),r.reverse[i]?=Β x->(pJ r.reverse)[i]?=Β y->x∈ks (L.getD y []):=by
 intro i x y b a
 have c:i<r.length:=by have:=(L2.gQ0 b);rwa [ą]at this
 unfold pJ at a
 rcases Ĥ (i+1) r.length with d|d
 ·rw[Ϙ (by rw[Ĉ,ą];omega),ņ,ĉ (by omega)]at a
  rw[ĉ c]at b
  exact h.nx (r.length - 1 - (1+i)) y x a (by rw[←b];congr 1;omega)
 ·have e:i=r.length - 1:=by omega
  rw[ø (by rw[Ĉ,ą];omega),Ĉ,ą]at a
  have f:i - (r.length - 1)=0:=by omega
  rw[f,Ni,Ι (by omega),ĉ (by omega)]at a
  rw[ĉ c]at b
  refine h.cl y x ?_ ?_
  ·rw[ñ,←a];congr 1
  ·rw[Jx,←b];congr 1;omega
end LkM
namespace L2
open PySem
theorem bQ(n:Nat)(u:n<Χ)(W:Nat->List V->Hp->Prop)(o:W 0 [] H)(c:∀i acc a,W i acc a->acc.length<=i)
  (turn:∀i acc a,i<n->W i acc a->J.go i a/\∀x d,J.KG i a x d->g x σ0 d λf p=>tt f p λb h=>if b=Δ then te f h λy r=>W (i+1) (acc++[y]) r else W (i+1) acc h)
  (stop:∀acc a,W n acc a->J.stop n a/\∀D,a D=Γ->Q (.ref D) (π a D (.ρ acc))):e9 J g tt te σ0 Q H:=by
 refine⟨λi m acc a=>m=n - i/\i<=n/\W i acc a,⟨n,by simp,Ϧ _,o⟩,?_⟩
 rintro i m acc a ⟨rfl,v,w⟩
 refine⟨by have:=c i acc a w;omega,?_⟩
 by_cases j:i<n
 ·obtain⟨s,q⟩:=turn i acc a j w
  exact .inr ⟨s,λl d=>W (i+1) l d,λl d t=>⟨n - (i+1),by omega,Λ,j,t⟩,q⟩
 ·have e:i=n:=by omega
  subst e
  exact .inl (stop acc a w)
theorem DP.new(h:DP H H')(n:H' a=Γ):DP H (π H' a o):=λb u e=>by rw[af (ag (h _ _ e) n)];exact h _ _ e
end L2
namespace L2
open PySem
theorem Ez(a:autoParam (sc.kind=.function) η)(b:autoParam (sc.isCoroutine=Ε) η)(c:autoParam (sc.isGenerator=Ε) η)(d:autoParam (N.Nodup) ξ)(e:autoParam (N.take P.length=P) η)(f:autoParam (∀x∈P,sc.names.lookup x=Β .local∨sc.names.lookup x=Β .cell) ξ)(g:autoParam (∀y∈sc.names,y.2≠.free) ξ):ar N P sc:=⟨a,b,c,d,e,f,g⟩
theorem FH(a:autoParam (scope.kind=.function) η)(b:autoParam (∀y∈scope.names,y.2≠.cell) ξ)(c:autoParam (∀y∈scope.names,y.2=.local->scope.names.lookup y.1=Β .local) ξ)(d:autoParam (∀y∈scope.names,y.2=.free->sc.names.lookup y.1=Β .cell∨sc.names.lookup y.1=Β .free) ξ)(e:autoParam (cap.length=capN.length) η)(f:autoParam (∀p∈capN.zip cap,scope.names.lookup p.1=Β .free/\N[p.2]?=Β p.1) ξ):EV N sc scope capN cap:=⟨a,b,c,d,e,f⟩
end L2
namespace K69
open PySem L2
variable {P:Program}{w:Ϭ}{K:ϣ}{mg:Str->Option Ρ}{ν:Ù}
noncomputable def top(i:Nat):Ã:=PySem.Challenge.pw_wormyard_k69_whole_searches.main.body.getD i (.Pass ⟨0,0,0,0⟩)
abbrev zw:Ã:=top 2
abbrev wY:Ã:=top 3
abbrev Cc:Ã:=top 4
abbrev ij:Ã:=top 19
abbrev jY:Ã:=top 20
abbrev Ce:Ã:=top 21
abbrev Ca:Ã:=top 25
abbrev qh:Ã:=top 28
abbrev UL:Ã:=top 29
abbrev ik:Ã:=top 38
abbrev wN:Ã:=top 39
abbrev qe:Ã:=top 40
abbrev rN:Ã:=top 44
abbrev wW:Ã:=top 45
abbrev oF:Ã:=top 46
abbrev rU:Ã:=top 48
abbrev rY:Ã:=top 49
abbrev wX:Ã:=top 50
abbrev oI:Ã:=top 51
abbrev wZ:Ã:=top 52
abbrev kW:Ã:=top 54
abbrev qa:Ã:=top 55
abbrev wV:Ã:=top 56
abbrev kZ:Ã:=top 57
abbrev pZ:Ã:=top 58
abbrev qd:Ã:=top 59
abbrev xh:Ã:=top 61
abbrev Cf:Ã:=top 62
abbrev rW:Ã:=top 63
abbrev rS:Ã:=top 64
abbrev kX:Ã:=top 65
abbrev il:Ã:=top 66
abbrev Ci:Ã:=top 67
abbrev rP:Ã:=top 68
abbrev oH:Ã:=top 69
abbrev qg:Ã:=aL (top 26) 0
abbrev Ck:Ã:=aL (top 26) 2
abbrev wS:Ã:=aL (top 26) 3
abbrev qf:Ã:=aL (top 26) 4
abbrev Cb:Ã:=aL (top 30) 0
abbrev wO:Ã:=aL (top 31) 0
abbrev rM:Ã:=aL (top 31) 1
abbrev Ch:Ã:=aL (top 33) 0
abbrev wT:Ã:=aL (top 33) 1
abbrev Cd:Ã:=aL (top 33) 2
abbrev rT:Ã:=aL (top 33) 3
abbrev wP:Ã:=aL (top 33) 4
abbrev rX:Ã:=aL (top 33) 5
abbrev Cg:Ã:=aL (top 33) 7
abbrev xc:Ã:=aL (top 41) 0
abbrev xb:Ã:=aL (top 41) 1
abbrev jr:Ã:=aL (top 42) 0
abbrev iH:Ã:=aL (top 42) 1
abbrev rR:Ã:=aL (top 42) 2
abbrev qc:Ã:=aL (top 42) 3
abbrev qb:Ã:=aL (top 42) 4
abbrev rQ:Ã:=aL (top 42) 5
abbrev oG:Ã:=aL (top 42) 6
abbrev iG:Ã:=aL (top 42) 7
abbrev xa:Ã:=aL (top 42) 8
abbrev Xi:Ã:=aL (top 42) 9
abbrev xg:Ã:=aL (top 42) 10
abbrev rV:Ã:=aL (top 42) 11
abbrev Cj:Ã:=aL (top 42) 12
abbrev wR:Ã:=aL (top 42) 13
abbrev wQ:Ã:=aL (top 42) 14
abbrev im:Ã:=aL (top 42) 15
abbrev xf:Ã:=aL (top 42) 21
abbrev rO:Ã:=aL (top 42) 22
abbrev xi:Ã:=aL (top 42) 23
abbrev rL:Ã:=aL (top 42) 24
structure eK(mg:Str->Option Ρ):Prop where
 Mj:mg "isinstance"=Γ
 int:mg "int"=Γ
 bool:mg "bool"=Γ
 len:mg "len"=Γ
 enum:mg "enumerate"=Γ
 tuple:mg "tuple"=Γ
 range:mg "range"=Γ
 list:mg "list"=Γ
 all:mg "all"=Γ
 sum:mg "sum"=Γ
 abs:mg "abs"=Γ
 str:mg "str"=Γ
 max:mg "max"=Γ
 rev:mg "reversed"=Γ
 min:mg "min"=Γ
 Xj:mg "reversed"=Γ
 zip:mg "zip"=Γ
 sorted:mg "sorted"=Γ
def Bg(H:Hp)(v:V)(p:Int×Int):Prop:=∃t,v=.ref t/\H t=Β (.tup [.int p.1,.int p.2])
abbrev Eu(H:Hp):List V->List (Int×Int)->Prop:=Paired (Bg H)
theorem Eu.same(h:DP H H'):∀{a:List V}{ps:List (Int×Int)},Eu H a ps->Eu H' a ps:=λb=>by
 induction b with
 |nil=>exact .nil
 |cons c r d=>obtain⟨t,e,q⟩:=c;exact .cons ⟨t,e,h _ _ q⟩ d
theorem Eu.get:∀{a:List V}{ps:List (Int×Int)}{i:Nat}{v:V},Eu H a ps->a[i]?=Β v->∃p,ps[i]?=Β p/\Bg H v p:=by
 intro _ _ i _ b
 induction b generalizing i with
 |nil=>intro h;cases h
 | cons x r c =>
  intro h
  cases i with
  |zero=>cases h;exact⟨_,Λ,x⟩
  |succ i=>exact c (i:=i) h
theorem Eu.Nr:∀{a:List V}{ps:List (Int×Int)}{i:Nat}{p:Int×Int},Eu H a ps->ps[i]?=Β p->∃v,a[i]?=Β v/\Bg H v p:=by
 intro _ _ i _ b
 induction b generalizing i with
 |nil=>intro h;cases h
 | cons x r c =>
  intro h
  cases i with
  |zero=>cases h;exact⟨_,Λ,x⟩
  |succ i=>exact c (i:=i) h
theorem Eu.snoc(h:Bg H v p):∀{a:List V}{ps:List (Int×Int)},Eu H a ps->Eu H (a++[v]) (ps++[p]):=λb=>by
 induction b with
 |nil=>exact .cons h .nil
 |cons q r c=>exact .cons q c
noncomputable def jx(n:Int)(p:Int×Int):Bool:=decide (0<=p.1/\p.1<=n - 1)&& (decide (0<=p.2/\p.2<=n - 1)&& !decide (p.1=p.2))
inductive oq(vs:List V)(H:Hp)(Q:VK)(E:XK):Prop
 |mk (i:Int) (_:vs=[.int i]) (_:Q (.bl Δ) H)
inductive kO(vs:List V)(H:Hp)(Q:VK)(E:XK):Prop
 |mk (i a b:Int) (_:vs=[.int i,.int a,.int b]) (_:Q (.bl (decide (a<=i/\i<=b))) H)
inductive we(vs:List V)(H:Hp)(Q:VK)(E:XK):Prop
 |mk (n a b:Int) (_:vs=[.int n,.int a,.int b]) (_:Q (.bl (jx n (a,b))) H)
theorem tI:ar ["value"] ["value"] (aj ij):=L2.Ez
theorem qo(F:Et K "is_whole" "is_whole" ij f fd)(T:eK mg):DQ P w K mg ν aB 1 f fd ["value"] oq:=by
 refine F.ok tI λ_ _ _ s H _ Q E a h=>?_
 obtain⟨i,rfl,q⟩:=h
 refine⟨_,ah (au (cP (ay jf Λ T.Mj Ì (aa (pv 0) (aa (eJ (v:=.ty "int") Λ T.int PySem.Pv.boot_int Λ) ad)))
  (cF (oR (ay jf Λ T.Mj Ì (aa (pv 0) (aa (eJ (v:=.ty "bool") Λ T.bool PySem.Pv.boot_bool Λ) ad))))))),?_⟩
 refine(.inl ⟨i,Λ,Δ,Λ,?_⟩)
 refine aK ?_
 exact(.inr (.inl ⟨i,Λ,Ε,Λ,q⟩))
theorem pY:ar ["value","least","most"] ["value","least","most"] (aj jY):=L2.Ez
theorem uX(F:Et K "is_within" "is_within" jY f fd)(T:eK mg)(g:mg "is_whole"=Β (.ref fh))(e:Et K "is_whole" "is_whole" ij fh Hz)(j:Binds K Hz ["value"] []):
  DQ P w K mg ν aB 2 f fd ["value","least","most"] kO:=by
 have G:DQ P w K mg ν aB 1 fh Hz ["value"] oq:=qo e T
 refine F.ok pY λ_ _ _ s H _ Q E l h=>?_
 obtain⟨i,a,b,rfl,q⟩:=h
 refine⟨_,ah (au (cP (aq G l Λ g e.kp j .nil ao (aa (pv 0) ad)) (cF (qm tO tO (pv 1) (pv 0) (pv 2))))),i,Λ,Δ,Λ,aK ?_⟩
 refine⟨_,_,Λ,Λ,_,Λ,?_⟩
 by_cases c:a<=i
 ·rw[Ζ c]
  refine aK ⟨_,_,Λ,Λ,?_⟩
  by_cases d:i<=b
  ·rw[Ζ d];rw[Ζ ⟨c,d⟩]at q;exact q
  ·rw[Η d];rw[Η λz=>d z.2]at q;exact q
 ·rw[Η c]
  refine aG ?_
  rw[Η λz=>c z.1]at q;exact q
theorem Mm:ar ["places","one","other","last"] ["places","one","other"] (aj Ca):=L2.Ez
theorem C4(F:Et K "are_two_places" "are_two_places" Ca f fd)(c:mg "is_within"=Β (.ref fh))(d:ϳ K (.ref fh)=Δ)(g:Binds K Hz ["value","least","most"] [])
  (G:DQ P w K mg ν aB 2 fh Hz ["value","least","most"] kO):
  DQ P w K mg ν aB 3 f fd ["places","one","other"] we:=by
 refine F.ok Mm λ_ _ _ s H _ Q E j h=>?_
 obtain⟨n,a,b,rfl,q⟩:=h
 refine⟨_,ae (av (i:=3) Mm.nd Λ (ύ Λ) (aC dX (pv 0) ai))
  (ah (au (cP (aq G j Λ c d g .nil ao (aa (pv 1) (aa ai (aa (pv 3) ad))))
   (cP (aq G j Λ c d g .nil ao (aa (pv 2) (aa ai (aa (pv 3) ad)))) (cF (bY mW (pv 1) (pv 2) (aA _))))))),?_⟩
 refine⟨_,_,Λ,Λ,a,0,n - 1,Λ,_,Λ,?_⟩
 unfold jx at q
 dsimp only at q
 by_cases l:0<=a/\a<=n - 1
 ·rw[Ζ l]at q⊢
  rw[Ě]at q
  refine aK ⟨b,0,n - 1,Λ,_,Λ,?_⟩
  by_cases m:0<=b/\b<=n - 1
  ·rw[Ζ m]at q⊢
   rw[Ě]at q
   refine aK ⟨Λ,?_⟩
   have e:decide (V.int a=V.int b)=decide (a=b):=by
    by_cases h:a=b
    ·rw[h];simp
    ·rw[Η h,Η λz=>h (by injection z)]
   rw[e];exact q
  ·rw[Η m]at q⊢
   exact aG q
 ·rw[Η l]at q⊢
  exact aG q
end K69
namespace L2
open PySem
end L2
namespace K69
open PySem L2
variable {P:Program}{w:Ϭ}{K:ϣ}{mg:Str->Option Ρ}{ν:Ù}
inductive Due|places|many (k:Nat)|Ek (k:Nat)|good
noncomputable def rf(n:Int)(ps:List (Int×Int)):Option Nat:=ps.findIdx? λp=>!jx n p
noncomputable def gA(n:Int)(ps:List (Int×Int)):Due:=if decide (1<=n/\n<=12)=Ε then .places else if 40<ps.length then .many ps.length else match rf n ps with|some k =>.Ek k|none =>.good
structure Cs where
 land:Ν
def eR(H:Hp)(c:Cs)(x dx t:Ν)(n:Int)(DX:List V)(ps:List (Int×Int)):Prop:=H x=Β (.ς c.land dx [("places",.int n),("lanes",.ref t)])/\H t=Β (.tup DX)/\Eu H DX ps
inductive wE(K:ϣ)(c:Cs)(vs:List V)(H:Hp)(Q:VK)(E:XK):Prop
 |mk (x dx n p Eb ps)(_:vs=[.ref x,.int n,.ref p])(_:H x=Β (.ς c.land dx []))(_:DS K H p Eb)(_:Eu H Eb ps)(_:Eb.length<=1000)(_:(gA n ps=.places->False)/\ (∀k,gA n ps=.many k->False)/\ (∀k,gA n ps=.Ek k->False)/\ (gA n ps=.good->∀H' t DX,(∀b o,b≠x->H b=Β o->H' b=Β o)->eR H' c x dx t n DX ps->Q .Eg H'))
noncomputable def vS(s:Ã):Scope:=match s with
 |.Assign _ (.Call _ [.ListComp _ _ sc _] _ _) _=>sc
 |_=>zQ0
noncomputable def ld(s:Ã):Scope:=match aJ s with
 |.Return (Β (.ListComp _ _ sc _)) _:: _=>sc
 |_=>zQ0
abbrev NI:List Str:=["self","places","lanes","lane","pair"]
structure rp(K:ϣ)(c:Cs):Prop where
 cl:GV K c.land
 np:Ea K c.land "places"
 nl:Ea K c.land "lanes"
theorem lX(h:∀p∈ps,jx n p=Δ):rf n ps=Γ:=by
 unfold rf
 rw[List.findIdx?_eq_none_iff]
 intro p a
 rw[h p a];rfl
theorem sQ(h:∀q∈ps.take i,jx n q=Δ)(b:ps[i]?=Β p)(c:jx n p=Ε):rf n ps=Β i:=by
 unfold rf
 rw[List.findIdx?_eq_some_iff_getElem]
 obtain⟨a,e⟩:=ϥ.mp b
 refine⟨a,by rw[e,c];rfl,λj d=>?_⟩
 have f:ps[j]'(U5 d a)∈ps.take i:=Ž.mpr ⟨j,by omega,Λ⟩
 rw[h _ f];simp
def Off(x:Ν)(H H':Hp):Prop:=∀b o,b≠x->H b=Β o->H' b=Β o
theorem Off.sq(o:Off x H H')(a:H x=Β (.ς C dx fs))(h:DS K H p xs):DS K H' p xs:=by
 rcases h with (h|⟨ob,h⟩)|h
 ·exact .inl (.inl (o _ _ (aT h a (by intro z;cases z)) h))
 ·exact .inl (.inr ⟨ob,o _ _ (aT h a (by intro z;cases z)) h⟩)
 ·exact .inr h
theorem Off.JK(o:Off x H H')(b:H x=Β (.ς C dx fs)):∀{a:List V}{ps:List (Int×Int)},Eu H a ps->Eu H' a ps:=λc=>by
 induction c with
 |nil=>exact .nil
 |cons d r f=>obtain⟨t,e,q⟩:=d;exact .cons ⟨t,e,o _ _ (aT q b (by intro z;cases z)) q⟩ f
theorem IE:ar NI ["self","places","lanes"] (aj qg):=L2.Ez
theorem DB:EV NI (aj qg) (vS ((aJ qg).getD 4 (.Pass ⟨0,0,0,0⟩))) [] []:=L2.FH
theorem CV:(["pair"]:List Str).Nodup:=by decide +kernel
theorem Ai(F:Et K "__init__" "Land.__init__" qg f fd)(T:eK mg)(L:rp K c)
  (mw:mg "is_within"=Β (.ref fw)) (kw:ϳ K (.ref fw)=Δ) (bw:Binds K dw ["value","least","most"] []) (Gw:DQ P w K mg ν aB 2 fw dw ["value","least","most"] kO)
  (mt:mg "are_two_places"=Β (.ref ft)) (kt:ϳ K (.ref ft)=Δ) (bt:Binds K dt ["places","one","other"] []) (Gt:DQ P w K mg ν aB 3 ft dt ["places","one","other"] we)
  (mp:mg "MOST_PLACES"=Β (.int 12 t1)) (ml:mg "MOST_LANES"=Β (.int 40 t2)):
  DQ P w K mg ν aB 4 f fd ["self","places","lanes"] (wE K c):=by
 refine F.ok IE λ_ _ _ s H _ Q E hr h=>?_
 obtain⟨x,R,n,p,d,ps,rfl,hx,S,hl,hlen,h1,h2,h3,h4⟩:=h
 have F3:DZ 2 _:=hr.mono (by decide)
 refine⟨_,ae (aO (cE (bH (aq Gw F3 Λ mw kw bw .nil ao (aa (pv 1) (aa ai (aa (gI (v:=.int 12) Λ mp ⟨_,Λ⟩) ad))))))
   (ah ce) aE)
  (ae (aO (az x8 (ay aw Λ T.len PySem.boot_len (aa (pv 2) ad)) (gI (v:=.int 40) Λ ml ⟨_,Λ⟩) (aA _))
   (ah ce) aE)
  (ae (bz Ϟ Λ (lj Λ T.enum (aa (pv 2) ad)) (gh Λ (bP (ax (i:=3) IE.nd Λ (ύ Λ)) (bP (ax (i:=4) IE.nd Λ (ύ Λ)) eG)))
   (ah (aO (cE (bH (aq Gt hr Λ mt kt bt .nil ao (aa (pv 1) (aa (aD aH (pv 4) ai (λ_ _=>rfl)) (aa (aD aH (pv 4) ai (λ_ _=>rfl)) ad))))))
    (ah ce) aE)))
  (ae (bu (pv 0) (pv 1) Λ)
  (ah (bu (pv 0) (aN aY Λ T.tuple PySem.Pv.boot_tuple (aa (b5 (own:=["pair"]) (capN:=[]) (cap:=[]) DB Λ (aV (pv 2))
   (λC s' H' fp=>⟨ax (i:=0) CV Λ (ύ Λ),bX,bq (aa (aD (show uB _ (qk K) from aH) (pv 0) ai (λ_ _=>rfl)) (aa (aD (show uB _ (qk K) from aH) (pv 0) ai (λ_ _=>rfl)) ad))⟩)) ad)) Λ))))),?_⟩
 refine⟨n,1,12,Λ,_,Λ,?_⟩
 by_cases I:1<=n/\n<=12
 rotate_left
 ·rw[Η I]
  exact aK (h1 (by unfold gA;rw[Ι (Η I)]))
 rw[Ζ I]
 refine aG ?_
 have KN:=Paired.length hl
 refine⟨p,_,Λ,.inl S,_,_,Λ,Λ,_,Λ,?_⟩
 by_cases hm:40<ps.length
 ·rw[Ζ (show (40:Int)<(d.length:Nat) by omega)]
  refine aK (h2 ps.length ?_)
  unfold gA
  rw[Ζ I,Θ (by decide),Ι hm]
 rw[Η (show ¬(40:Int)<(d.length:Nat) by omega)]
 refine aG ?_
 refine⟨p,Λ,⟨_,S⟩,gx (sq:=λH=>DS K H p) (xs:=d) (λi U A=>∃a b:Option V,DP H A/\U=[Β (.ref x),Β (.int n),Β (.ref p),a,b]/\∀q∈ps.take i,jx n q=Δ)
  ⟨Γ,Γ,DP.refl H,Λ,λq hq=>by simp at hq⟩ (λi U A _ DT=>by obtain⟨a,b,J,_⟩:=DT;exact J.seq S) ?_ ?_⟩
 ·rintro i v q U A hv ⟨a,b,J,rfl,X⟩ hq
  obtain⟨g,Y,t,rfl,m⟩:=Eu.get hl hv
  have s3:DP H (π A q (.tup [.int i,.ref t])):=J.new hq
  refine⟨q,_,Λ,DY.of ac,Λ,_,_,Λ,_,_,Λ,Λ,?_⟩
  have N:DY K (π A q (.tup [.int i,.ref t])) t [.int g.1,.int g.2]:=DY.of (s3 _ _ m)
  refine⟨t,_,0,_,Λ,Λ,N,al (j:=0) Λ,t,_,1,_,Λ,Λ,N,al (j:=1) Λ,n,g.1,g.2,Λ,_,Λ,?_⟩
  cases ho:jx n (g.1,g.2) with
  | true =>
   refine aG ⟨Β (.int i),Β (.ref t),s3,Λ,λz u=>?_⟩
   rw[ß,Y]at u
   rcases Ϣ.mp u with u|u
   ·exact X z u
   ·have:z=g:=by simpa using u
    rw[this];exact ho
  | false =>
   refine aK (h3 i ?_)
   unfold gA
   rw[Ζ I,Θ (by decide),Θ hm,sQ X Y ho]
 ·rintro U A ⟨a,b,J,rfl,X⟩
  have Q3:gA n ps=.good:=by
   unfold gA
   rw[Ζ I,Θ (by decide),Θ hm,lX (λz u=>X z (by rw[KN,Þ];exact u))]
  have KO:=J _ _ hx
  refine⟨x,c.land,R,_,Λ,KO,L.cl,L.np,by show 0<1000;decide,?_⟩
  generalize O:π A x (.ς c.land R (aP "places" (.int n) []))=B
  have o3:Off x H B:=λb o M e=>by rw[←O,af M];exact J _ _ e
  have x3:B x=Β (.ς c.land R [("places",.int n)]):=by rw[←O,ac];rfl
  have l3:=o3.JK hx hl
  have p3:=o3.sq hx S
  refine⟨p,Λ,⟨_,p3⟩,bQ d.length (by rw[ϗ];omega) (λi acc l=>DP B l/\acc.length=i/\Eu l acc (ps.take i)) ⟨DP.refl _,Λ,.nil⟩ (λi acc l h=>U6 h.2.1) ?_ ?_⟩
  ·rintro i acc l hi ⟨G,ha,Z⟩
   have q4:=G.seq p3
   refine⟨⟨d,d[i],q4,by simp[hi]⟩,λy H5 ⟨e5,hy⟩=>?_⟩
   subst e5
   have hy:=hy d q4
   obtain⟨g,Y,t,rfl,m⟩:=Eu.get l3 hy
   have N:DY K H5 t [.int g.1,.int g.2]:=DY.of (G _ _ m)
   refine⟨t,_,0,_,Λ,Λ,N,al (j:=0) Λ,t,_,1,_,Λ,Λ,N,al (j:=1) Λ,by show 2<=Χ;decide,λr KL=>?_⟩
   refine⟨G.new KL,by rw[Υ,ha];rfl,?_⟩
   rw[ß,Y]
   exact Eu.snoc ⟨r,Λ,ac⟩ (Eu.same (DP.new (DP.refl _) KL) Z)
  ·rintro acc l ⟨G,ha,Z⟩
   have q4:=G.seq p3
   refine⟨⟨d,q4,Ξ _⟩,λD hD=>?_⟩
   have s5:DP B (π l D (.ρ acc)):=G.new hD
   refine⟨D,acc,Λ,.inl ⟨DS.of ac,λt m=>?_⟩⟩
   have s6:DP B (π (π l D (.ρ acc)) t (.tup acc)):=s5.new m
   have x6:=s6 _ _ x3
   refine⟨x,c.land,R,_,Λ,x6,L.cl,L.nl,by show 1<1000;decide,?_⟩
   have htx:t≠x:=λz=>by rw[z,s5 _ _ x3]at m;cases m
   refine h4 Q3 _ t acc (λb o M e=>?_) ⟨by rw[ac];rfl,by rw[af htx,ac],?_⟩
   ·rw[af M];exact s6 _ _ (o3 b o M e)
   ·have hA':Eu l acc ps:=by rw[KN,Þ]at Z;exact Z
    have x4:=G _ _ x3
    have Ls:Eu (π (π l D (.ρ acc)) t (.tup acc)) acc ps:=Eu.same (DP.new (DP.new (DP.refl _) hD) m) hA'
    exact Off.JK (x:=x) (λb o M e=>by rw[af M];exact e) x6 Ls
noncomputable def pi(sel:Int×Int->Int)(ps:List (Int×Int))(pl:Int)(m:Nat):List V:=((ό m).filter λk=>decide (sel (ps.getD k (0,0))=pl)).map λk:Nat=>V.int k
inductive zl(c:Cs)(sel:Int×Int->Int)(vs:List V)(H:Hp)(Q:VK)(E:XK):Prop
 |mk (x dx t:Ν) (n:Int) (DX:List V) (ps:List (Int×Int)) (pl:Int) (_:vs=[.ref x,.int pl]) (_:eR H c x dx t n DX ps) (_:ps.length<=1000) (_:∀H' D,DP H H'->H' D=Γ->Q (.ref D) (π H' D (.ρ (pi sel ps pl ps.length))))
theorem qF(h:ps[i]?=Β pr):pi sel ps pl (i+1)=if decide (sel pr=pl) then pi sel ps pl i++[V.int i] else pi sel ps pl i:=by
 have e:ps.getD i (0,0)=pr:=by rw[Ω,h];rfl
 unfold pi
 rw[ĩ,ÿ]
 by_cases a:sel pr=pl
 ·rw[Ι (Ζ a),Ii (by rw[e];exact Ζ a)];simp
 ·rw[Θ (by rw[Η a];decide),ċ (by rw[e,Η a];decide)];simp
theorem uh:(pi sel ps pl i).length<=i:=by
 unfold pi
 rw[Ο]
 have:=Ò (λk=>decide (sel (ps.getD k (0,0))=pl)) (ό i)
 rwa [å]at this
theorem Q4:ar ["self","place"] ["self","place"] (aj wS):=L2.Ez
theorem Q5:EV ["self","place"] (aj wS) (ld wS) ["place"] [1]:=L2.FH
theorem BY:ar ["self","place"] ["self","place"] (aj qf):=L2.Ez
theorem DA:EV ["self","place"] (aj qf) (ld qf) ["place"] [1]:=L2.FH
theorem tR:(["lane","pair","place"]:List Str).Nodup:=by decide +kernel
theorem j7(a b:Int):decide (V.int a=V.int b)=decide (a=b):=by
 by_cases h:a=b
 ·rw[h];simp
 ·rw[Η h,Η λz=>h (by injection z)]
theorem C9(F:Et K "out_of" "Land.out_of" wS f fd)(T:eK mg)(L:rp K c):DQ P w K mg ν aB 1 f fd ["self","place"] (zl c Â):=by
 refine F.ok Q4 λ_ _ _ s H _ Q E X h=>?_
 obtain⟨x,A,t,n,b,ps,pl,rfl,⟨B,e,l⟩,m,q⟩:=h
 refine⟨_,ah (au (b5 (own:=["lane","pair"]) (capN:=["place"]) (cap:=[1]) Q5 Λ (iQ Λ T.enum (aa (ap (pv 0) Λ) ad))
  (λC Y Z fp=>⟨(show PG _ _ (AH K 2 _) from gh Λ (bP (ax (i:=0) tR Λ (ύ Λ)) (bP (ax (i:=1) tR Λ (ύ Λ)) eG))),
   cX (az bT (aD (show uB _ (qk K) from aH) (pv 1) ai (λ_ _=>rfl)) (pv 2) (aA _)),pv 0⟩))),?_⟩
 have o:=Paired.length l
 refine⟨x,c.land,A,_,_,Λ,B,L.cl,L.nl,Λ,t,Λ,⟨_,DY.of e⟩,bQ ps.length (by rw[ϗ];omega) (λi acc a=>DP H a/\acc=pi Â ps pl i) ⟨DP.refl _,Λ⟩ (λi acc a h=>by rw[h.2];exact uh) ?_ ?_⟩
 ·rintro i acc a G ⟨d,rfl⟩
  have p:DY K a t b:=DY.of (d _ _ e)
  refine⟨⟨b,b[i]'(by omega),p,by simp[o,G]⟩,λy H5 ⟨r,I,J,M⟩=>?_⟩
  obtain⟨v,N,rfl⟩:=M b p
  subst J
  obtain⟨O,R,u,rfl,S⟩:=Eu.get l N
  have g:DP H (π a r (.tup [.int i,.ref u])):=d.new I
  refine⟨r,_,Λ,DY.of ac,Λ,_,_,Λ,_,_,Λ,Λ,u,_,0,_,Λ,Λ,DY.of (g _ _ S),al (j:=0) Λ,Λ,_,Λ,?_⟩
  rw[j7,qF R]
  cases z:decide (O.1=pl) with
  |true=>exact aK ⟨g,by simp[z]⟩
  |false=>exact aG ⟨g,by simp[z]⟩
 ·rintro acc a ⟨d,rfl⟩
  exact⟨⟨b,DY.of (d _ _ e),o⟩,λD U=>q a D d U⟩
theorem Ah(F:Et K "into" "Land.into" qf f fd)(T:eK mg)(L:rp K c):DQ P w K mg ν aB 1 f fd ["self","place"] (zl c ç):=by
 refine F.ok BY λ_ _ _ s H _ Q E X h=>?_
 obtain⟨x,A,t,n,b,ps,pl,rfl,⟨B,e,l⟩,m,q⟩:=h
 refine⟨_,ah (au (b5 (own:=["lane","pair"]) (capN:=["place"]) (cap:=[1]) DA Λ (iQ Λ T.enum (aa (ap (pv 0) Λ) ad))
  (λC Y Z fp=>⟨(show PG _ _ (AH K 2 _) from gh Λ (bP (ax (i:=0) tR Λ (ύ Λ)) (bP (ax (i:=1) tR Λ (ύ Λ)) eG))),
   cX (az bT (aD (show uB _ (qk K) from aH) (pv 1) ai (λ_ _=>rfl)) (pv 2) (aA _)),pv 0⟩))),?_⟩
 have o:=Paired.length l
 refine⟨x,c.land,A,_,_,Λ,B,L.cl,L.nl,Λ,t,Λ,⟨_,DY.of e⟩,bQ ps.length (by rw[ϗ];omega) (λi acc a=>DP H a/\acc=pi ç ps pl i) ⟨DP.refl _,Λ⟩ (λi acc a h=>by rw[h.2];exact uh) ?_ ?_⟩
 ·rintro i acc a G ⟨d,rfl⟩
  have p:DY K a t b:=DY.of (d _ _ e)
  refine⟨⟨b,b[i]'(by omega),p,by simp[o,G]⟩,λy H5 ⟨r,I,J,M⟩=>?_⟩
  obtain⟨v,N,rfl⟩:=M b p
  subst J
  obtain⟨O,R,u,rfl,S⟩:=Eu.get l N
  have g:DP H (π a r (.tup [.int i,.ref u])):=d.new I
  refine⟨r,_,Λ,DY.of ac,Λ,_,_,Λ,_,_,Λ,Λ,u,_,1,_,Λ,Λ,DY.of (g _ _ S),al (j:=1) Λ,Λ,_,Λ,?_⟩
  rw[j7,qF R]
  cases z:decide (O.2=pl) with
  |true=>exact aK ⟨g,by simp[z]⟩
  |false=>exact aG ⟨g,by simp[z]⟩
 ·rintro acc a ⟨d,rfl⟩
  exact⟨⟨b,DY.of (d _ _ e),o⟩,λD U=>q a D d U⟩
inductive By(vs:List V)(H:Hp)(Q:VK)(E:XK):Prop
 |mk (m k:Nat) (_:vs=[.int m,.int k]) (_:Q (.bl (m.testBit k)) H)
noncomputable def yg(m:Nat):List V:=(Yd.Iw m (Ó (m:Int))).map λk:Nat=>V.int k
inductive tw(vs:List V)(H:Hp)(Q:VK)(E:XK):Prop
 |mk (m:Nat) (_:vs=[.int m]) (_:m<2^400) (_:∀p,H p=Γ->Q (.ref p) (π H p (.ρ (yg m))))
inductive Bp(K:ϣ)(vs:List V)(H:Hp)(Q:VK)(E:XK):Prop
 |mk (a:Ν) (ks:List Nat) (_:vs=[.ref a]) (_:DS K H a (ks.map λk:Nat=>V.int k)) (_:(∀k∈ks,k<=1000)) (_:Q (.int (Yd.Fj ks 0:Nat)) H)
theorem Q6:ar ["some","number"] ["some","number"] (aj zw):=L2.Ez
theorem CN(F:Et K "has" "has" zw f fd):DQ P w K mg ν aB 1 f fd ["some","number"] By:=by
 refine F.ok Q6 λ_ _ _ s H _ Q E a h=>?_
 obtain⟨m,k,rfl,q⟩:=h
 refine⟨_,ah (au (cP (bY tP (pv 1) ai (aA _)) (cF (bY bT (aC xB (aC xy (pv 0) (pv 1)) ai) ai (aA _))))),_,_,Λ,Λ,_,Λ,?_⟩
 rw[Ζ (show (0:Int)<=(k:Int) by omega)]
 refine aK ?_
 refine⟨_,_,Λ,Λ,(show (0:Int)<=(k:Int) by omega),_,_,Λ,Λ,Λ,?_⟩
 have e:decide (V.int (ù ((m:Int) / 2^(k:Int).toNat) 1)=V.int 1)=m.testBit k:=by
  rw[ϋ,←Yd.IX m k]
  by_cases h:ù ((m:Int) / 2^k) 1=1
  ·rw[h];simp
  ·rw[Η h,Η λz=>h (by injection z)]
 rw[e]
 exact q
theorem qw{ks:List Nat}{i:Nat}(h:(ks.map λk:Nat=>V.int k)[i]?=Β x):∃k,ks[i]?=Β k/\x=V.int k:=by
 rw[ϝ]at h
 cases e:ks[i]? with
 |none=>rw[e]at h;cases h
 |some k=>rw[e]at h;exact⟨k,Λ,(Ψ h).symm⟩
theorem Jb:ar ["numbers","some","number"] ["numbers"] (aj Cc):=L2.Ez
theorem C7(F:Et K "set_of" "set_of" Cc f fd):DQ P w K mg ν aB 1 f fd ["numbers"] (Bp K):=by
 refine F.ok Jb λ_ _ _ s H _ Q E o h=>?_
 obtain⟨a,ks,rfl,d,j,q⟩:=h
 refine⟨_,ae (av (i:=1) Jb.nd Λ (ύ Λ) ai)
  (ae (bz Ϟ Λ (aV (pv 0)) (ax (i:=2) Jb.nd Λ (ύ Λ))
   (ah (av (i:=1) Jb.nd Λ (ύ Λ) (aC B3 (pv 1) (aC xz ai (pv 2))))))
  (ah (au (pv 1)))),?_⟩
 refine⟨a,Λ,⟨_,d⟩,bV (K:=K) (a:=a) (xs:=ks.map λk:Nat=>V.int k) (λi b c=>∃v:Option V,c=H/\b=[Β (.ref a),Β (.int (Yd.Fj (ks.take i) 0:Nat)),v])
  ⟨Γ,Λ,Λ⟩ (λi b c _ l=>by obtain⟨_,e,_⟩:=l;rw[e];exact d) ?_ ?_⟩
 ·rintro i x b c m ⟨v,rfl,rfl⟩
  obtain⟨k,g,rfl⟩:=qw m
  have p:=j k (Ϗ g)
  refine⟨_,_,Λ,Λ,⟨(show (0:Int)<=(k:Int) by omega),(show (k:Int)<=1000000 by omega),(by decide)⟩,_,_,Λ,Λ,Β (.int k),Λ,?_⟩
  have e:ň ((Yd.Fj (ks.take i) 0:Nat):Int) (1* 2^(k:Int).toNat)=((Yd.Fj (ks.take (i+1)) 0:Nat):Int):=by
   rw[ß,g,ϋ,Int.one_mul,show (2:Int)^k=((2^k:Nat):Int) by rw[Ry];rfl,Yd.GY,Yd.Kf]
   rfl
  show [Β (V.ref a),Β (V.int _),Β (V.int k)]=_
  rw[e]
 ·rintro b c ⟨v,rfl,rfl⟩
  rw[Ο,Þ]
  exact q
theorem Q7:ar ["some"] ["some"] (aj wY):=L2.Ez
theorem Q8:(["number","some"]:List Str).Nodup:=by decide +kernel
theorem Q9:EV ["some"] (aj wY) (ld wY) ["some"] [0]:=L2.FH
theorem CF(F:Et K "members" "members" wY f fd)(T:eK mg)(b:mg "has"=Β (.ref fh))(a:Et K "has" "has" zw fh Hz)(c:Binds K Hz ["some","number"] []):DQ P w K mg ν aB 2 f fd ["some"] tw:=by
 have G:DQ P w K mg ν aB 1 fh Hz ["some","number"] By:=CN a
 refine F.ok Q7 λ_ _ _ s H _ Q E d h=>?_
 obtain⟨m,rfl,g,q⟩:=h
 refine⟨_,ah (au (b5 (own:=["number"]) (capN:=["some"]) (cap:=[0]) Q9 Λ
  (bL Λ T.range (aa (Cw PySem.F.plainAttrs_int PySem.F.slot_int_bit_length PySem.F.type_int_bit_length Au (pv 0)) ad))
  (λC j l o=>⟨ax (i:=0) Q8 Λ (ύ Λ),cX (bH (aq G d Λ b a.kp c .nil ao (aa (pv 1) (aa (pv 0) ad)))),pv 0⟩))),?_⟩
 have p:=Yd.bits_le g
 refine⟨Λ,_,Λ,Λ,(Ó (m:Int):Nat),Λ,by omega,by omega,?_⟩
 rw[ϋ]
 refine jd (λk=>m.testBit k) (λk=>V.int k) (by rw[ϗ];omega) (λi acc N r h=>?_) q
 refine⟨m,i,by simp,_,Λ,?_⟩
 cases e:m.testBit i with
 | true =>
  rw[e]at h
  refine aK (show N (acc++[V.int (0+i)]) H from ?_)
  simpa using h
 | false =>
  rw[e]at h
  exact aG (by simpa using h)
noncomputable def iz(ks:List Nat):List Int:=ks.map λk:Nat=>(k:Int)
theorem Do(ks:List Nat):(iz ks).map V.int=ks.map λk:Nat=>V.int k:=by rw[iz,ê];rfl
theorem Fb:k∈iz ks↔∃n∈ks,(n:Int)=k:=Õ
theorem wK(h:∀k∈ks,k<b):Yd.Fj ks 0<2^b:=by
 rw[←Yd.Lk h]
 exact Yd.Ho ks b
theorem uI:(Yd.Fj ks 0).testBit k=decide ((k:Int)∈iz ks):=by
 rw[Yd.FF,Ŭ,Hm]
 congr 1
 refine propext ⟨λh=>Fb.mpr ⟨k,h,Λ⟩,λh=>?_⟩
 obtain⟨n,a,e⟩:=Fb.mp h
 have:n=k:=by omega
 rw[←this]
 exact a
structure Rw where
 p:Int
 g:Int
 c:Option Nat
 s:List Nat
noncomputable def bB(r:Rw):cC:=[Β r.p,Β r.g,r.c.map λk:Nat=>(k:Int)]
noncomputable def i6(sel:Int×Int->Int)(ps:List (Int×Int))(pl:Int):List Nat:=(ό ps.length).filter λk=>decide (sel (ps.getD k (0,0))=pl)
noncomputable def fQ(n:Int)(ps:List (Int×Int))(r:Rw):Bool:=
 jx n (r.p,r.g)&& ((match r.c with|none=>Δ|some k=>decide (k∈i6 ç ps r.p))&& r.s.all λk=>decide (k∈i6 Â ps r.p))
noncomputable def qr(sel:Int×Int->Int)(ps:List (Int×Int))(pl:Int)(k:Nat):Bool:=decide (ps.length<=k)|| !decide (sel (ps.getD k (0,0))=pl)
noncomputable def re(n:Int)(ps:List (Int×Int))(ahead:List Rw)(r:Rw):Bool:=
 !jx n (r.p,r.g)||((match r.c with|none=>Ε|some k=>qr ç ps r.p k)||((r.s.any λk=>qr Â ps r.p k)||ahead.any λa=>decide (bB a=bB r)))
theorem uj:decide (k∈i6 sel ps pl)= !qr sel ps pl k:=by
 unfold i6 qr
 by_cases b:ps.length<=k
 ·rw[Ζ b,Η]
  ·rfl
  ·intro z
   have:=Ë.mp (Å.mp z).1
   omega
 ·rw[Η b]
  by_cases a:sel (ps.getD k (0,0))=pl
  ·rw[Ζ a,Ζ]
   ·rfl
   ·exact Å.mpr ⟨Ë.mpr (by omega),Ζ a⟩
  ·rw[Η a,Η]
   ·rfl
   ·intro z
    exact a (of_decide_eq_true (Å.mp z).2)
theorem AZ{l:List Nat}:(l.all λk=>!f k)= !(l.any f):=by
 induction l with
 |nil=>rfl
 |cons a l b=>rw[Rx,cy,b,Bool.not_or]
theorem ji(n:Int)(ps:List (Int×Int))(b:List Rw)(r:Rw):re n ps b r=(!fQ n ps r||b.any λa=>decide (bB a=bB r)):=by
 unfold re fQ
 have e:(r.s.all λk=>decide (k∈i6 Â ps r.p))= !(r.s.any λk=>qr Â ps r.p k):=by
  rw[←AZ]
  congr 1
  funext k
  exact uj
 rw[e]
 cases d:r.c with
 | none =>
  dsimp only
  cases jx n (r.p,r.g)<;>cases (r.s.any λk=>qr Â ps r.p k)<;>cases (b.any λa=>decide (bB a=bB r))<;>rfl
 | some k =>
  dsimp only
  rw[uj]
  cases jx n (r.p,r.g)<;>cases (qr ç ps r.p k)<;>cases (r.s.any λk=>qr Â ps r.p k)<;>cases (b.any λa=>decide (bB a=bB r))<;>rfl
noncomputable def eu(n:Int)(ps:List (Int×Int))(rs:List Rw)(m:Nat):Option Nat:=(ό m).find? λk=>re n ps (rs.take k) (rs.getD k ⟨0,0,Γ,[]⟩)
theorem gZ:∀{m:Nat},(∀k,k<m->re n ps (rs.take k) (rs.getD k ⟨0,0,Γ,[]⟩)=Ε)->eu n ps rs m=Γ:=by
 intro m h
 unfold eu
 rw[Ă]
 intro k a
 rw[h k (Ë.mp a)]
 decide
theorem mE(a:i<m)(h:∀k,k<i->re n ps (rs.take k) (rs.getD k ⟨0,0,Γ,[]⟩)=Ε)(b:re n ps (rs.take i) (rs.getD i ⟨0,0,Γ,[]⟩)=Δ):eu n ps rs m=Β i:=by
 unfold eu
 rw[List.find?_range_eq_some]
 refine⟨b,Ë.mpr a,λj c=>?_⟩
 rw[h j c]
 rfl
noncomputable def dJ(rs:List Rw)(k:cC):Option Rw:=rs.reverse.find? λr=>decide (bB r=k)
theorem sy:dJ (rs++[r]) k=if k=bB r then Β r else dJ rs k:=by
 unfold dJ
 rw[Lj,List.reverse_singleton,List.singleton_append,õ]
 by_cases h:bB r=k
 ·rw[Ζ h,Ι h.symm]
 ·rw[Η h,Θ (ϛ h)]
theorem pe:(dJ rs k).isSome=rs.any λr=>decide (bB r=k):=by
 unfold dJ
 rw[ĸ,List.find?_isSome,List.any_eq_true]
 exact⟨λa=>by obtain⟨x,b,h⟩:=a;exact⟨x,GZ.mp b,h⟩,λa=>by obtain⟨x,b,h⟩:=a;exact⟨x,GZ.mpr b,h⟩⟩
noncomputable def cV:Option Nat->V
 |none =>.Eg
 |some k =>.int k
noncomputable def ci(ks:List Nat):List V:=ks.map λk:Nat=>V.int k
theorem iU(ks:List Nat):ci ks=(iz ks).map V.int:=(Do ks).symm
def Nt(H:Hp)(t l:Ν)(r:Rw):Prop:=H t=Β (.tup [.int r.p,.int r.g,cV r.c,.ref l])/\H l=Β (.ρ (ci r.s))
def Nu(H:Hp)(v:V)(r:Rw):Prop:=∃t l,v=.ref t/\Nt H t l r
abbrev Jc(H:Hp):List V->List Rw->Prop:=Paired (Nu H)
theorem Nt.same(h:DP H H')(x:Nt H t l r):Nt H' t l r:=⟨h _ _ x.1,h _ _ x.2⟩
theorem Nu.same(h:DP H H'):Nu H v r->Nu H' v r:=λa=>by obtain⟨t,l,e,x⟩:=a;exact⟨t,l,e,x.same h⟩
theorem Jc.imp(h:∀v r,Nu H v r->Nu H' v r):∀{a:List V}{b:List Rw},Jc H a b->Jc H' a b:=λc=>by
 induction c with
 |nil=>exact .nil
 |cons x r d=>exact .cons (h _ _ x) d
theorem Jc.same(h:DP H H')(x:Jc H vs rs):Jc H' vs rs:=Jc.imp (λ_ _ z=>z.same h) x
theorem Jc.get:∀{a:List V}{b:List Rw}{i:Nat}{v:V},Jc H a b->a[i]?=Β v->∃r,b[i]?=Β r/\Nu H v r
 |_,_,_,_,.nil,e=>by simp at e
 |_,_,0,_,.cons x _,e=>by simp at e;subst e;exact⟨_,Λ,x⟩
 | _,_,i+1,v,.cons _ t,e=>by
  obtain⟨r,c,d⟩:=Jc.get (i:=i) (v:=v) t (by simpa using e)
  exact⟨r,by simpa using c,d⟩
theorem ud(r:Rw):(bB r).map si=[.int r.p,.int r.g,cV r.c]:=by
 cases r with
 |mk p g c s=>cases c<;>rfl
theorem sD:pi sel ps pl ps.length=(iz (i6 sel ps pl)).map V.int:=by rw[Do];rfl
theorem pf{k:Nat}:decide ((k:Int)∈iz l)=decide (k∈l):=by
 congr 1
 refine propext ⟨λh=>?_,λh=>Fb.mpr ⟨k,h,Λ⟩⟩
 obtain⟨n,a,e⟩:=Fb.mp h
 have:n=k:=by omega
 rw[←this]
 exact a
theorem uA(ks l:List Nat):((ci ks).filter λ_=>Δ).map (λv=>match v with|.int i=>V.bl (decide (i∈iz l))|_ =>.Eg)=(ks.map λk=>decide (k∈l)).map V.bl:=by
 rw[cc.mpr (λ_ _=>rfl)]
 unfold ci
 rw[ê,ê]
 refine ŗ λk _=>?_
 show V.bl (decide ((k:Int)∈iz l))=V.bl (decide (k∈l))
 rw[pf]
theorem sR(ks:List Nat)(p:Nat->Bool):(ks.map p).all id=ks.all p:=by rw[all_map];rfl
inductive Br(K:ϣ)(vs:List V)(H:Hp)(Q:VK)(E:XK):Prop
 |mk (i:Int) (p:Ν) (ns:List Int) (_:vs=[.int i,.ref p]) (_:DS K H p (ns.map V.int)) (_:Q (.bl (decide (i∈ns))) H)
inductive wH(c:Cs)(vs:List V)(H:Hp)(Q:VK)(E:XK):Prop
 |mk (x dx lt t l:Ν) (n:Int) (DX:List V) (ps:List (Int×Int)) (r:Rw) (_:vs=[.ref x,.ref t]) (_:eR H c x dx lt n DX ps) (_:Nt H t l r) (_:ps.length<=1000) (_:r.s.length<=1000) (_:∀H',DP H H'->Q (.bl (fQ n ps r)) H')
structure QA(K:ϣ)(c:Cs)(f3 f4:Ν)(d3 d4:Ñ):Prop where
 m3:bW K c.land "out_of" f3
 m4:bW K c.land "into" f4
 b3:Binds K d3 ["self","place"] []
 b4:Binds K d4 ["self","place"] []
abbrev NF:List Str:=["land","row","place","came","begin_here"]
noncomputable def yO(s:Ã):Scope:=match s with
 |.Return (Β (.Call _ [.ListComp _ _ sc _] _ _)) _=>sc
 |_=>zQ0
theorem QB:ar ["value","numbers"] ["value","numbers"] (aj Ce):=L2.Ez
theorem CA(F:Et K "is_one_of" "is_one_of" Ce f fd)(T:eK mg)(b:mg "is_whole"=Β (.ref fh))(a:Et K "is_whole" "is_whole" ij fh Hz)(c:Binds K Hz ["value"] []):
  DQ P w K mg ν aB 2 f fd ["value","numbers"] (Br K):=by
 have G:DQ P w K mg ν aB 1 fh Hz ["value"] oq:=qo a T
 refine F.ok QB λ_ _ _ s H _ Q E d h=>?_
 obtain⟨i,p,e,rfl,g,q⟩:=h
 refine⟨_,ah (au (cP (aq G d Λ b a.kp c .nil ao (aa (pv 0) ad)) (cF (bY uV (pv 0) (pv 1) (by with_unfolding_all rfl))))),i,Λ,Δ,Λ,aK ?_⟩
 refine⟨p,_,Λ,.inl g,Λ,gN _,?_⟩
 rw[kB]
 exact q
theorem Hq:ar NF ["land","row"] (aj qh):=L2.Ez
theorem DC:EV NF (aj qh) (yO ((aJ qh).getD 5 (.Pass ⟨0,0,0,0⟩))) ["begin_here"] [4]:=L2.FH
theorem CW:(["lane","begin_here"]:List Str).Nodup:=by decide +kernel
theorem Al(F:Et K "row_fits" "row_fits" qh f fd)(T:eK mg)(L:rp K c)(M:QA K c f3 f4 d3 d4)
  (mt:mg "are_two_places"=Β (.ref ft)) (kt:ϳ K (.ref ft)=Δ) (bt:Binds K dt ["places","one","other"] []) (Gt:DQ P w K mg ν aB 3 ft dt ["places","one","other"] we)
  (mo:mg "is_one_of"=Β (.ref fo)) (ko:ϳ K (.ref fo)=Δ) (bo:Binds K d1 ["value","numbers"] []) (Go:DQ P w K mg ν aB 2 fo d1 ["value","numbers"] (Br K))
  (G3:DQ P w K mg ν aB 1 f3 d3 ["self","place"] (zl c Â)) (G4:DQ P w K mg ν aB 1 f4 d4 ["self","place"] (zl c ç)):
  DQ P w K mg ν aB 4 f fd ["land","row"] (wH c):=by
 refine F.ok Hq λ_ _ _ s H _ Q E O h=>?_
 obtain⟨x,z,lt,t,l,n,R,ps,r,rfl,b,hR,d,UM,q⟩:=h
 have EF:DZ 1 _:=O.mono (by decide)
 have F3:DZ 2 _:=O.mono (by decide)
 refine⟨_,ae (av (i:=2) Hq.nd Λ (ύ Λ) (aD aH (pv 1) ai (λ_ _=>rfl)))
  (ae (av (i:=3) Hq.nd Λ (ύ Λ) (aD aH (pv 1) ai (λ_ _=>rfl)))
  (ae (aO (cE (bH (aq Gt O Λ mt kt bt .nil ao (aa (ap (pv 0) Λ) (aa (pv 2) (aa (aD aH (pv 1) ai (λ_ _=>rfl)) ad)))))) (ah (au jH)) aE)
  (ae (aO (PW.pt (lh (az ku (pv 3) cz (aA _)) (iL (cE (bH (aq Go F3 Λ mo ko bo .nil ao (aa (pv 3) (aa (aI (pv 0) L.cl M.m4 G4 EF M.b4 .nil ao (aa (pv 2) ad)) ad)))))))) (ah (au jH)) aE)
  (ae (av (i:=4) Hq.nd Λ (ġ Λ) (aI (pv 0) L.cl M.m3 G3 EF M.b3 .nil ao (aa (pv 2) ad)))
  (ah (au (ay (jh Λ) Λ T.all Ĝ (aa (b5 (own:=["lane"]) (capN:=["begin_here"]) (cap:=[4]) DC Λ (aV (aD aH (pv 1) ai (λ_ _=>rfl)))
   (λC s' H' fp=>⟨ax (i:=0) CW Λ (ύ Λ),bX,aq Go F3 Λ mo ko bo .nil ao (aa (pv 0) (aa (pv 1) ad))⟩)) ad)))))))),?_⟩
 obtain⟨S,I⟩:=hR
 have U:DY K H t [.int r.p,.int r.g,cV r.c,.ref l]:=DY.of S
 refine⟨t,_,0,_,Λ,Λ,U,al (j:=0) Λ,t,_,2,_,Λ,Λ,U,al (j:=2) Λ,x,c.land,z,_,_,Λ,b.1,L.cl,L.np,Λ,t,_,1,_,Λ,Λ,U,al (j:=1) Λ,n,r.p,r.g,Λ,_,Λ,?_⟩
 cases J:jx n (r.p,r.g) with
 | false =>
  have e:fQ n ps r=Ε:=by unfold fQ;rw[J];rfl
  refine aK ?_
  have:=q H (DP.refl H)
  rw[e]at this
  exact this
 | true =>
  refine aG ?_
  cases X:r.c with
  | none =>
   refine⟨Λ,_,Λ,aG (aG ?_)⟩
   have a:=DP.refl H
   have Y:fQ n ps r=r.s.all λk=>decide (k∈i6 Â ps r.p):=by unfold fQ;rw[J,X];rfl
   refine⟨x,z,_,Λ,a _ _ b.1,Λ,x,z,lt,n,R,ps,r.p,Λ,⟨a _ _ b.1,a _ _ b.2.1,Eu.same a b.2.2⟩,d,λA u Z FP=>?_⟩
   have m:=(a.trans Z).new (o:=.ρ (pi Â ps r.p ps.length)) FP
   have B:(π A u (.ρ (pi Â ps r.p ps.length))) u=Β (.ρ (pi Â ps r.p ps.length)):=ac
   generalize π A u (.ρ (pi Â ps r.p ps.length))=H3 at m B⊢
   refine⟨t,_,3,_,Λ,Λ,DY.of (m _ _ S),al (j:=3) Λ,l,Λ,⟨_,DS.of (m _ _ I)⟩,?_⟩
   refine je (xs:=ci r.s) (λ_=>Δ) (λv=>match v with|.int i =>.bl (decide (i∈iz (i6 Â ps r.p)))|_ =>.Eg) (by rw[ϗ];simp only[ci,Ο];omega) (DS.of (m _ _ I)) (λy acc N hy h=>?_) (λD G=>?_)
   ·obtain⟨k',_,rfl⟩:=Õ.mp hy
    exact⟨(k':Int),u,iz (i6 Â ps r.p),Λ,by rw[←sD];exact DS.of B,by simpa using h⟩
   ·rw[uA]
    refine⟨D,r.s.map λk=>decide (k∈i6 Â ps r.p),Λ,DS.of ac,?_⟩
    have:=q _ (m.new (o:=.ρ ((r.s.map λk=>decide (k∈i6 Â ps r.p)).map V.bl)) G)
    rw[Y]at this
    rw[sR]
    exact this
  | some k =>
   refine⟨Λ,_,Λ,aK ?_⟩
   refine⟨x,z,_,Λ,b.1,Λ,x,z,lt,n,R,ps,r.p,Λ,b,d,λH' D s' G=>?_⟩
   have a:=s'.new (o:=.ρ (pi ç ps r.p ps.length)) G
   refine⟨(k:Int),D,iz (i6 ç ps r.p),Λ,by rw[←sD];exact DS.of ac,_,Λ,?_⟩
   rw[pf]
   cases hk:decide (k∈i6 ç ps r.p) with
   | false =>
    refine aK ?_
    have e:fQ n ps r=Ε:=by unfold fQ;rw[J,X];dsimp only;rw[hk];rfl
    have:=q _ a
    rw[e]at this
    exact this
   | true =>
    have Y:fQ n ps r=r.s.all λk=>decide (k∈i6 Â ps r.p):=by unfold fQ;rw[J,X];dsimp only;rw[hk];rfl
    refine aG ?_
    refine⟨x,z,_,Λ,a _ _ b.1,Λ,x,z,lt,n,R,ps,r.p,Λ,⟨a _ _ b.1,a _ _ b.2.1,Eu.same a b.2.2⟩,d,λA u Z FP=>?_⟩
    have m:=(a.trans Z).new (o:=.ρ (pi Â ps r.p ps.length)) FP
    have B:(π A u (.ρ (pi Â ps r.p ps.length))) u=Β (.ρ (pi Â ps r.p ps.length)):=ac
    generalize π A u (.ρ (pi Â ps r.p ps.length))=H3 at m B⊢
    refine⟨t,_,3,_,Λ,Λ,DY.of (m _ _ S),al (j:=3) Λ,l,Λ,⟨_,DS.of (m _ _ I)⟩,?_⟩
    refine je (xs:=ci r.s) (λ_=>Δ) (λv=>match v with|.int i =>.bl (decide (i∈iz (i6 Â ps r.p)))|_ =>.Eg) (by rw[ϗ];simp only[ci,Ο];omega) (DS.of (m _ _ I)) (λy acc N hy h=>?_) (λD G=>?_)
    ·obtain⟨k',_,rfl⟩:=Õ.mp hy
     exact⟨(k':Int),u,iz (i6 Â ps r.p),Λ,by rw[←sD];exact DS.of B,by simpa using h⟩
    ·rw[uA]
     refine⟨D,r.s.map λk=>decide (k∈i6 Â ps r.p),Λ,DS.of ac,?_⟩
     have:=q _ (m.new (o:=.ρ ((r.s.map λk=>decide (k∈i6 Â ps r.p)).map V.bl)) G)
     rw[Y]at this
     rw[sR]
     exact this
structure Ts where
 tab:Ν
 told:Ν
inductive Bo(K:ϣ)(vs:List V)(H:Hp)(Q:VK)(E:XK):Prop
 |mk (x C dx:Ν) (lv:V) (_:vs=[.ref x,lv]) (_:H x=Β (.ς C dx [])) (_:GV K C) (_:Ea K C "land") (_:Q .Eg (π H x (.ς C dx [("land",lv)])))
noncomputable def uL(r:Rw):V:=.int (Yd.Fj r.s 0:Nat)
inductive wg(P:Program)(w:Ϭ)(K:ϣ)(c:Cs)(ts:Ts)(vs:List V)(H:Hp)(Q:VK)(E:XK):Prop
 |mk (x dx lx Eh lt p:Ν) (n:Int) (DX Ei:List V) (ps:List (Int×Int)) (rs:List Rw) (_:vs=[.ref x,.ref lx,.ref p]) (_:H x=Β (.ς ts.told dx [])) (_:eR H c lx Eh lt n DX ps) (_:DS K H p Ei) (_:Jc H Ei rs) (_:Ei.length<=100000) (_:ps.length<=1000) (_:(∀r∈rs,(∀k∈r.s,k<=1000)/\r.s.length<=1000)) (_:(∀i,eu n ps rs rs.length=Β i->False)) (_:(eu n ps rs rs.length=Γ->∀H' de kvs,Off x H H'->H' x=Β (.ς ts.told dx [("land",.ref lx),("entries",.ref de)])->EE P w H' de kvs->(∀k,dM kvs k=(dJ rs k).map uL)->Q .Eg H'))
inductive ou(P:Program)(w:Ϭ)(ts:Ts)(vs:List V)(H:Hp)(Q:VK)(E:XK):Prop
 |mk (x dx de:Ν) (lv:V) (kvs:List Ent) (r:Rw) (m:Nat) (_:vs=[.ref x,.int r.p,.int r.g,cV r.c]) (_:H x=Β (.ς ts.told dx [("land",lv),("entries",.ref de)])) (_:EE P w H de kvs) (_:(dM kvs (bB r)).getD (.int 0)=.int m) (_:m<2^400) (_:∀H' D,DP H H'->H' D=Γ->Q (.ref D) (π H' D (.ρ (yg m))))
structure Xl(K:ϣ)(mg:Str->Option Ρ)(ts:Ts)(f1:Ν)(d1:Ñ):Prop where
 ct:GV K ts.tab
 nt:Ea K ts.tab "land"
 cd:GV K ts.told
 QC:Ea K ts.told "land"
 UN:Ea K ts.told "entries"
 mt:mg "Table"=Β (.ref ts.tab)
 cm:BI K ts.tab "__init__" f1
 bt:Binds K d1 ["self","land"] []
abbrev NT:List Str:=["self","land","rows","number","row","key"]
theorem Off.land(o:Off x H H')(a:H x=Β (.ς C dx []))(h:eR H c lx Eh lt n DX ps):eR H' c lx Eh lt n DX ps:=
 ⟨o _ _ (aT h.1 a (by intro z;cases z)) h.1,o _ _ (aT h.2.1 a (by intro z;cases z)) h.2.1,o.JK a h.2.2⟩
theorem QD:ar ["self","land"] ["self","land"] (aj Cb):=L2.Ez
theorem C5(F:Et K "__init__" "Table.__init__" Cb f fd):DQ P w K mg ν aB 1 f fd ["self","land"] (Bo K):=by
 refine F.ok QD λ_ _ _ s H _ Q E e h=>?_
 obtain⟨x,C,a,g,rfl,b,c,d,q⟩:=h
 exact⟨_,ah (bu (pv 0) (pv 1) Λ),x,C,a,_,Λ,b,c,d,by show 0<1000;decide,q⟩
theorem zq:ar ["self","place","goal","came"] ["self","place","goal","came"] (aj rM):=L2.Ez
theorem xF(F:Et K "ways" "Told.ways" rM f fd)(B:Xl K mg ts f1 d1)(i:mg "members"=Β (.ref fm))(j:ϳ K (.ref fm)=Δ)(l:Binds K dm ["some"] [])
  (o:DQ P w K mg ν aB 2 fm dm ["some"] tw):DQ P w K mg ν aB 3 f fd ["self","place","goal","came"] (ou P w ts):=by
 refine F.ok zq λ_ _ _ s H _ Q E b h=>?_
 obtain⟨x,u,v,J,a,r,m,rfl,y,d,z,A,q⟩:=h
 have C:=yw b
 refine⟨_,ah (au (aq o b Λ i j l .nil ao (aa (xt C (ap (pv 0) Λ) (aa (bq (aa (pv 1) (aa (pv 2) (aa (pv 3) ad)))) (aa ai ad))) ad))),x,ts.told,u,_,_,Λ,y,B.cd,B.UN,Λ,v,a,Λ,d,by show 3<=Χ;decide,λt G=>?_⟩
 have e:DP H (π H t (.tup [.int r.p,.int r.g,cV r.c])):=(DP.refl H).new G
 refine⟨_,_,dM a (bB r),Λ,⟨a,bB r,t,d.same e,Λ,by rw[ud];exact ac,Λ⟩,?_⟩
 rw[z]
 exact⟨m,Λ,A,λD I=>q _ D e I⟩
theorem Hr:ar NT ["self","land","rows"] (aj wO):=L2.Ez
theorem zP(F:Et K "__init__" "Told.__init__" wO f fd)(T:eK mg)(B:Xl K mg ts f1 d1)(G1:DQ P w K mg ν aB 1 f1 d1 ["self","land"] (Bo K))
  (mf:mg "row_fits"=Β (.ref ff)) (kf:ϳ K (.ref ff)=Δ) (bf:Binds K df ["land","row"] []) (Gf:DQ P w K mg ν aB 4 ff df ["land","row"] (wH c))
  (ms:mg "set_of"=Β (.ref fs)) (ks:ϳ K (.ref fs)=Δ) (bs:Binds K ds ["numbers"] []) (Gs:DQ P w K mg ν aB 1 fs ds ["numbers"] (Bp K)):
  DQ P w K mg ν aB 5 f fd ["self","land","rows"] (wg P w K c ts):=by
 refine F.ok Hr λ_ _ _ s H _ Q E Z h=>?_
 obtain⟨x,C,J,Eh,lt,p,n,DX,Ei,ps,D,rfl,L,hL,hp,hR,hlen,KN,S,hE,hQ⟩:=h
 have EF:DZ 1 _:=Z.mono (by decide)
 have F3:DZ 2 _:=Z.mono (by decide)
 have hu:=yw Z
 refine⟨_,ae (aM (xw (gI (v:=.ref ts.tab) Λ B.mt Λ) B.cm G1 EF B.bt .nil ao (aa (pv 0) (aa (pv 1) ad))))
  (ae (bu (pv 0) (show PE _ _ (Bj P w) from zI) Λ)
  (ah (bz Ϟ Λ (lj Λ T.enum (aa (pv 2) ad)) (gh Λ (bP (ax (i:=3) Hr.nd Λ (ύ Λ)) (bP (ax (i:=4) Hr.nd Λ (ύ Λ)) eG)))
   (ae (av (i:=5) Hr.nd Λ (ύ Λ) (bq (aa (aD aH (pv 4) ai (λ_ _=>rfl)) (aa (aD aH (pv 4) ai (λ_ _=>rfl)) (aa (aD aH (pv 4) ai (λ_ _=>rfl)) ad)))))
   (ae (aO (PW.pt (gc (cE (bH (aq Gf Z Λ mf kf bf .nil ao (aa (pv 1) (aa (pv 4) ad))))) (ga (jt (Cy hu (pv 5) (ap (pv 0) Λ))))))
    (ah ce) aE)
   (ah (zG hu (ap (pv 0) Λ) (pv 5) (aq Gs EF Λ ms ks bs .nil ao (aa (aD aH (pv 4) ai (λ_ _=>rfl)) ad)) Λ))))))),?_⟩
 refine⟨Λ,x,ts.told,C,_,Λ,L,B.cd,B.QC,?_⟩
 refine λm UO=>⟨x,ts.told,C,[("land",.ref J)],Λ,by rw[af (ag ac UO)];exact ac,B.cd,B.UN,by show 1<1000;decide,?_⟩
 have UP:=ag ac UO
 have QE:H m=Γ:=by rw[af (ϛ UP)]at UO;exact UO
 generalize Nc:π (π (π H x (.ς ts.told C [("land",.ref J)])) m (rn P w m [])) x (.ς ts.told C (aP "entries" (.ref m) [("land",.ref J)]))=H2
 have o2:Off x H H2:=λb o M e=>by rw[←Nc,af M,af (ag e QE),af M];exact e
 have x2:H2 x=Β (.ς ts.told C [("land",.ref J),("entries",.ref m)]):=by rw[←Nc,ac];rfl
 have d2:EE P w H2 m []:=⟨by rw[←Nc,af (ϛ UP),ac],λy hy=>by cases hy⟩
 have Xm:=Paired.length hR
 refine⟨p,Λ,⟨_,o2.sq L hp⟩,gx (sq:=λH=>DS K H p) (xs:=Ei) (λi σ u=>∃(a b k:Option V)(d:List Ent),Off x H u/\u x=Β (.ς ts.told C [("land",.ref J),("entries",.ref m)])/\EE P w u m d/\d.length<=i/\
   (∀k,dM d k=(dJ (D.take i) k).map uL)/\(∀j,j<i->re n ps (D.take j) (D.getD j ⟨0,0,Γ,[]⟩)=Ε)/\σ=[Β (.ref x),Β (.ref J),Β (.ref p),a,b,k])
  ⟨Γ,Γ,Γ,[],o2,x2,d2,Ξ _,λk=>rfl,λj hj=>Κ hj (ī _),Λ⟩ (λi σ u _ DT=>by obtain⟨_,_,_,_,G,_⟩:=DT;exact G.sq L hp) ?_ ?_⟩
 ·rintro i v q σ u hv ⟨a,b,k,d,G,x3,d3,l3,N,U,rfl⟩ hq
  obtain⟨r,A,t,l,rfl,hT⟩:=Jc.get hR hv
  have hi:=(gQ0 A)
  have UQ:D.getD i ⟨0,0,Γ,[]⟩=r:=by rw[Ω,A];rfl
  have Lu:Nt u t l r:=⟨G _ _ (aT hT.1 L (by intro z;cases z)) hT.1,G _ _ (aT hT.2 L (by intro z;cases z)) hT.2⟩
  have Kk:=G.land L hL
  have s4:DP u (π u q (.tup [.int i,.ref t])):=(DP.refl u).new hq
  refine⟨q,_,Λ,DY.of ac,Λ,_,_,Λ,_,_,Λ,Λ,?_⟩
  generalize π u q (.tup [.int i,.ref t])=H4 at s4⊢
  have QF:DY K H4 t [.int r.p,.int r.g,cV r.c,.ref l]:=DY.of (s4 _ _ Lu.1)
  refine⟨t,_,0,_,Λ,Λ,QF,al (j:=0) Λ,t,_,1,_,Λ,Λ,QF,al (j:=1) Λ,t,_,2,_,Λ,Λ,QF,al (j:=2) Λ,by show 3<=Χ;decide,λI hkt=>?_⟩
  have O:DP u (π H4 I (.tup [.int r.p,.int r.g,cV r.c])):=s4.new hkt
  have k5:(π H4 I (.tup [.int r.p,.int r.g,cV r.c])) I=Β (.tup ((bB r).map si)):=by rw[ud];exact ac
  generalize π H4 I (.tup [.int r.p,.int r.g,cV r.c])=H5 at O k5⊢
  refine⟨J,Eh,lt,t,l,n,DX,ps,r,Λ,⟨O _ _ Kk.1,O _ _ Kk.2.1,Eu.same O Kk.2.2⟩,Lu.same O,KN,(S r (Ϗ A)).2,λH6 X=>⟨_,Λ,?_⟩⟩
  have s6:=O.trans X
  have k6:=X _ _ k5
  have x6:=s6 _ _ x3
  have R:=d3.same s6
  have Mn:=λM=>hE i (mE hi U (by rw[UQ];exact M))
  cases hf:fQ n ps r with
  | false =>
   exact aK (aK (Mn (by rw[ji,hf];rfl)))
  | true =>
   refine aG ⟨x,ts.told,C,_,_,Λ,x6,B.cd,B.UN,Λ,m,_,Λ,⟨d,bB r,I,R,Λ,k6,Λ⟩,_,Λ,?_⟩
   have eS:(dM d (bB r)).isSome=(D.take i).any λa=>decide (bB a=bB r):=by rw[N,è,pe]
   cases hS:(dM d (bB r)).isSome with
   | true =>
    exact aK (Mn (by rw[ji,hf,←eS,hS];rfl))
   | false =>
    refine aG ?_
    have Y:=Lu.same s6
    refine⟨t,_,3,_,Λ,Λ,DY.of Y.1,al (j:=3) Λ,l,r.s,Λ,DS.of Y.2,(S r (Ϗ A)).1,x,ts.told,C,_,_,Λ,x6,B.cd,B.UN,Λ,m,d,bB r,I,Λ,R,Λ,k6,by rw[ϗ];omega,?_⟩
    have hx6:=UP
    refine⟨_,_,_,js d (bB r) I (uL r),λb' o M e=>?_,?_,⟨ac,uP (F:=λk a=>(π H6 m (rn P w m (js d (bB r) I (uL r)))) a=Β (.tup (k.map si))) (λy hy=>?_) ?_⟩,?_,λk'=>?_,λj hj=>?_,Λ⟩
    ·rw[af (ag e QE)];exact s6 _ _ (G _ _ M e)
    ·rw[af UP];exact x6
    ·rw[af (aT (R.2 y hy) R.1 (by intro z;cases z))];exact R.2 y hy
    ·rw[af (aT k6 R.1 (by intro z;cases z))];exact k6
    ·exact Î jG (NO l3)
    ·rw[vN,ß,A,K2,sy,N]
     by_cases hk:k'=bB r
     ·rw[Ι hk,Ι hk];rfl
     ·rw[Θ hk,Θ hk]
    ·rcases Ĥ j i with h|h
     ·exact U j h
     ·have:j=i:=by omega
      subst this
      rw[UQ,ji,hf,←eS,hS];rfl
 ·rintro σ u ⟨a,b,k,d,G,x3,d3,l3,N,U,rfl⟩
  rw[Xm]at U N
  rw[Þ]at N
  exact hQ (gZ U) u m d G x3 d3 N
noncomputable def nV(ps:List Nat):List V:=ps.map λq:Nat=>V.int (q:Int)
theorem aU(ps:List Nat):(nV ps).length=ps.length:=by simp[nV]
theorem cZ{k q:Nat}(h:ps[k]?=Β q):(nV ps)[k]?=Β (V.int (q:Int)):=by simp[nV,h]
theorem ir(a b:List Nat):nV (a++b)=nV a++nV b:=by unfold nV;rw[ϯ]
theorem CZ(h:v∈nV ps):∃q:Nat,q∈ps/\v=.int (q:Int):=by
 obtain⟨q,a,e⟩:=Õ.mp h
 exact⟨q,a,e.symm⟩
inductive uK(c:Cs)(sel:Int×Int->Int)(vs:List V)(H:Hp)(Q:VK)(E:XK):Prop
 |mk (x dx t:Ν) (n:Int) (DX:List V) (ps:List (Int×Int)) (k:Nat) (pr:Int×Int) (_:vs=[.ref x,.int k]) (_:eR H c x dx t n DX ps) (_:ps[k]?=Β pr) (_:Q (.int (sel pr)) H)
structure vG(K:ϣ)(c:Cs)(f:Ν)(d:Ñ):Prop where
 m:bW K c.land "end_of" f
 b:Binds K d ["self","lane"] []
theorem bZ(a b:Int):decide (V.int a=V.int b)=decide (a=b):=by
 by_cases h:a=b
 ·rw[h];simp
 ·rw[Η h,Η λz=>h (by injection z)]
theorem oX(h:p<F.length):(nV F)[p]?=Β (V.int ((F.getD p 0:Nat):Int)):=by
 have e:=Μ h
 rw[cZ e,Ω,e];rfl
theorem CY(F:List Nat)(i v:Nat):(nV F).set i (.int (v:Int))=nV (F.set i v):=by unfold nV;rw[List.map_set]
theorem jb(h:i<n):AB n (i:Int)=Β i:=by
 unfold AB
 rw[Ι (by omega),Ι (by omega),ϋ]
noncomputable def mN(m:Nat):List Nat:=Yd.Iw m (Ó (m:Int))
theorem QG:ar ["self","lane"] ["self","lane"] (aj Ck):=L2.Ez
theorem CO(F:Et K "end_of" "Land.end_of" Ck f fd)(L:rp K c):DQ P w K mg ν aB 1 f fd ["self","lane"] (uK c ç):=by
 refine F.ok QG λ_ _ _ s H _ Q E m h=>?_
 obtain⟨x,a,t,n,o,ps,k,p,rfl,⟨b,d,e⟩,g,q⟩:=h
 refine⟨_,ah (au (aD aH (aD aH (ap (pv 0) Λ) (pv 1) (λ_ _=>rfl)) ai (λ_ _=>rfl))),?_⟩
 obtain⟨v,i,u,rfl,l⟩:=Eu.Nr e g
 refine⟨x,c.land,a,_,_,Λ,b,L.cl,L.nl,Λ,t,_,_,_,Λ,Λ,DY.of d,al i,u,_,1,_,Λ,Λ,DY.of l,al (j:=1) Λ,q⟩
noncomputable def isI:V->Bool
 |.int _=>Δ
 |_=>Ε
noncomputable def mX:V->Int->Int->Bool
 |.int i,a,b=>decide (a<=i/\i<=b)
 |_,_,_=>Ε
inductive vF:V->Prop
 |int (i:Int):vF (.int i)
 |bl (b:Bool):vF (.bl b)
 |Eg:vF .Eg
structure yX(K:ϣ):Prop where
 ii:Ğ K (.type "int") (.type "int")=Β Δ
 ib:Ğ K (.type "int") (.type "bool")=Β Ε
 bi:Ğ K (.type "bool") (.type "int")=Β Δ
 bb:Ğ K (.type "bool") (.type "bool")=Β Δ
 ni:Ğ K (.type "NoneType") (.type "int")=Β Ε
inductive i9(vs:List V)(H:Hp)(Q:VK)(_:XK):Prop
 |mk (v)(_:vs=[v])(_:vF v)(_:Q (.bl (isI v)) H)
inductive gH(vs:List V)(H:Hp)(Q:VK)(E:XK):Prop
 |mk (v:V) (a b:Int) (_:vs=[v,.int a,.int b]) (_:vF v) (_:Q (.bl (mX v a b)) H)
inductive oA(K:ϣ)(vs:List V)(H:Hp)(Q:VK)(E:XK):Prop
 |mk (a:Ν) (ns:List Int) (k:Nat) (_:vs=[.ref a,.int k]) (_:DS K H a (ns.map V.int)) (_:∀d,Q (.int d) H)
theorem Eu.imp(h:∀v p,Bg H v p->Bg H' v p):∀{a:List V}{ps:List (Int×Int)},Eu H a ps->Eu H' a ps:=λb=>by
 induction b with
 |nil=>exact .nil
 |cons z r c=>exact .cons (h _ _ z) c
noncomputable def hV:Option Int->V
 |none =>.Eg
 |some z =>.int z
abbrev Fs:=List (Str×V)
noncomputable def jO(r b:Int)(h:V)(pa:Ν):Fs:=[("rights",.int r),("returning",.int b),("holder",h),("pieces",.ref pa)]
structure Es(H:Hp)(C x dx pa:Ν)(r b:Int)(h:Option Int)(Ep:List V)(qs:List (Int×Int)):Prop where
 ς:H x=Β (.ς C dx (jO r b (hV h) pa))
 ρ:H pa=Β (.ρ Ep)
 Fc:Eu H Ep qs
def F4(x pa:Ν)(H H':Hp):Prop:=∀a o,a≠x->a≠pa->H a=Β o->H' a=Β o
theorem F4.JK{fs:Fs}(h:F4 x pa H H')(a:H x=Β (.ς C dx fs))(b:H pa=Β (.ρ Ep)):Eu H vs qs->Eu H' vs qs:=
 Eu.imp λ_ _ c=>by obtain⟨t,e,q⟩:=c;exact⟨t,e,h _ _ (aT q a (by intro z;cases z)) (aT q b (by intro z;cases z)) q⟩
theorem Es.same(L:Es H C x dx pa r b h Ep qs)(s:DP H H'):Es H' C x dx pa r b h Ep qs:=⟨s _ _ L.ς,s _ _ L.ρ,Eu.same s L.Fc⟩
noncomputable def c9(r:Int)(h:Option Int)(l c:Int):Bool:=if r=0 then Ε else if c=0 then decide (h=Γ) else decide (h=Β l)
theorem Dv(h:Option Int):decide (hV h=V.Eg)=decide (h=Γ):=by cases h<;>rfl
theorem Dw(h:Option Int)(l:Int):decide (hV h=V.int l)=decide (h=Β l):=by
 cases h with
 |none=>rfl
 | some z =>
  show decide (V.int z=V.int l)=_
  rw[bZ]
  by_cases e:z=l
  ·rw[Ζ e,Ζ (by rw[e])]
  ·rw[Η e,Η λq=>e (Ψ q)]
theorem AD(h:Option Int)(l:Int):BT (hV h) (.int l)=Δ:=by cases h<;>rfl
structure BH(K:ϣ)(C:Ν):Prop where
 cl:GV K C
 n1:Ea K C "rights"
 n2:Ea K C "returning"
 n3:Ea K C "holder"
 n4:Ea K C "pieces"
inductive wA(C:Ν)(vs:List V)(H:Hp)(Q:VK)(E:XK):Prop
 |mk (x dx:Ν) (room:Int) (_:vs=[.ref x,.int room]) (_:H x=Β (.ς C dx [])) (_:∀(pa:Ν)(H':Hp),H pa=Γ->(∀a o,a≠x->H a=Β o->H' a=Β o)->Es H' C x dx pa room 0 Γ [] []->Q .Eg H')
inductive oy(C:Ν)(vs:List V)(H:Hp)(Q:VK)(E:XK):Prop
 |mk (x dx pa:Ν) (r b:Int) (h:Option Int) (l c:Int) (_:vs=[.ref x,.int l,.int c]) (_:H x=Β (.ς C dx (jO r b (hV h) pa))) (_:Q (.bl (c9 r h l c)) H)
inductive Bq(C:Ν)(vs:List V)(H:Hp)(Q:VK)(E:XK):Prop
 |mk (x dx pa:Ν) (r b:Int) (h:Option Int) (Ep:List V) (qs:List (Int×Int)) (l c:Int) (last:Bool) (_:vs=[.ref x,.int l,.int c,.bl last]) (_:Es H C x dx pa r b h Ep qs) (_:Ep.length<100000) (_:(c9 r h l c=Ε->False)) (_:(c9 r h l c=Δ->∀(t:Ν)(H':Hp),F4 x pa H H'->Es H' C x dx pa (r - 1) b (if last then Γ else Β l) (Ep++[.ref t]) (qs++[(l,c)])->Q .Eg H'))
noncomputable def sG:List V->V
 |[] =>.Eg
 |v:: _=>v
inductive jV(C:Ν)(vs:List V)(H:Hp)(Q:VK)(E:XK):Prop
 |mk (x dx pa:Ν) (r b:Int) (h:Option Int) (Ep:List V) (qs:List (Int×Int)) (_:vs=[.ref x]) (_:Es H C x dx pa r b h Ep qs) (_:Q (sG Ep) H)
inductive rF(C:Ν)(vs:List V)(H:Hp)(Q:VK)(E:XK):Prop
 |mk (x dx pa:Ν) (r b:Int) (h:Option Int) (Ep:List V) (qs:List (Int×Int)) (_:vs=[.ref x]) (_:Es H C x dx pa r b h Ep qs) (_:(Ep=[]->False)) (_:(∀v rest,Ep=v:: rest->∀H':Hp,F4 x pa H H'->Es H' C x dx pa r (b+1) h rest qs.tail->Q v H'))
inductive tG(C:Ν)(vs:List V)(H:Hp)(Q:VK)(E:XK):Prop
 |mk (x dx pa:Ν) (r b:Int) (h:Option Int) (Ep:List V) (qs:List (Int×Int)) (_:vs=[.ref x]) (_:Es H C x dx pa r b h Ep qs) (_:(b=0->False)) (_:(b≠0->∀H':Hp,F4 x pa H H'->Es H' C x dx pa (r+1) (b - 1) h Ep qs->Q .Eg H'))
theorem Xn(n:Nat):r4 0 (n+1)=Β 0:=by
 unfold r4
 simp
theorem mY(F:Et K "is_whole" "is_whole" ij f fd)(T:eK mg)(Z:yX K):DQ P w K mg ν aB 1 f fd ["value"] i9:=by
 refine F.ok tI λ_ _ _ s H _ Q E c h=>?_
 obtain⟨v,rfl,a,q⟩:=h
 refine⟨_,ah (au (cP (ay jg Λ T.Mj Ì (aa (pv 0) (aa (eJ (v:=.ty "int") Λ T.int PySem.Pv.boot_int Λ) ad)))
  (cF (oR (ay jg Λ T.Mj Ì (aa (pv 0) (aa (eJ (v:=.ty "bool") Λ T.bool PySem.Pv.boot_bool Λ) ad))))))),?_⟩
 cases a with
 |int i=>exact⟨.int i,_,"int",Δ,Λ,.int i,Z.ii,Δ,Λ,aK ⟨.int i,_,"bool",Ε,Λ,.int i,Z.ib,Ε,Λ,q⟩⟩
 |bl b=>exact⟨.bl b,_,"int",Δ,Λ,.bl b,Z.bi,Δ,Λ,aK ⟨.bl b,_,"bool",Δ,Λ,.bl b,Z.bb,Δ,Λ,q⟩⟩
 |Eg=>exact⟨.Eg,_,"int",Ε,Λ,.Eg,Z.ni,Ε,Λ,aG q⟩
theorem sh(F:Et K "is_within" "is_within" jY f fd)(T:eK mg)(Z:yX K)(g:mg "is_whole"=Β (.ref fh))(e:Et K "is_whole" "is_whole" ij fh Hz)(j:Binds K Hz ["value"] []):
  DQ P w K mg ν aB 2 f fd ["value","least","most"] gH:=by
 have G:DQ P w K mg ν aB 1 fh Hz ["value"] i9:=mY e T Z
 refine F.ok pY λ_ _ _ s H _ Q E l h=>?_
 obtain⟨v,a,b,rfl,m,q⟩:=h
 refine⟨_,ah (au (cP (aq G l Λ g e.kp j .nil ao (aa (pv 0) ad)) (cF (qm tO tO (pv 1) (pv 0) (pv 2))))),?_⟩
 cases m with
 |bl x=>exact⟨_,Λ,.bl x,Ε,Λ,aG q⟩
 |Eg=>exact⟨_,Λ,.Eg,Ε,Λ,aG q⟩
 | int i =>
  refine⟨_,Λ,.int i,Δ,Λ,aK ?_⟩
  refine⟨_,_,Λ,Λ,_,Λ,?_⟩
  have q:Q (V.bl (decide (a<=i/\i<=b))) H:=q
  by_cases c:a<=i
  ·rw[Ζ c]
   refine aK ⟨_,_,Λ,Λ,?_⟩
   by_cases d:i<=b
   ·rw[Ζ d];rw[Ζ ⟨c,d⟩]at q;exact q
   ·rw[Η d];rw[Η λz=>d z.2]at q;exact q
  ·rw[Η c]
   refine aG ?_
   rw[Η λz=>c z.1]at q;exact q
theorem BZ:ar ["_law_script","_law_k"] ["_law_script","_law_k"] (aj xh):=L2.Ez
theorem Am(F:Et K "_law_cell_at" "_law_cell_at" xh f fd)(T:eK mg):DQ P w K mg ν aB 1 f fd ["_law_script","_law_k"] (oA K):=by
 refine F.ok BZ λ_ _ _ s H _ Q E g h=>?_
 obtain⟨a,b,k,rfl,c,q⟩:=h
 refine⟨_,ae (aO (az jI (pv 1) (ay aw Λ T.len PySem.boot_len (aa (pv 0) ad)) (aA _))
   (ah (au (aD aR (pv 0) (pv 1) (λ_ _=>rfl)))) aE) (ah (au ai)),?_⟩
 refine⟨a,_,Λ,.inl c,_,_,Λ,Λ,_,Λ,?_⟩
 refine AC (λh=>?_) λ_=>q _
 have d:=of_decide_eq_true h
 rw[Ο]at d
 have e:k<b.length:=by omega
 exact⟨a,_,k,V.int b[k],Λ,Λ,c,al (by simp[e]),q _⟩
theorem Mo:ar ["_law_cell","_law_k","_law_number"] ["_law_cell","_law_k"] (aj Cf):=L2.Ez
theorem QH:ar ["self","room"] ["self","room"] (aj Ch):=L2.Ez
theorem CJ(F:Et K "__init__" "Lane.__init__" Ch f fd)(L:BH K C):DQ P w K mg ν aB 1 f fd ["self","room"] (wA C):=by
 refine F.ok QH λ_ _ _ s H _ Q E p h=>?_
 obtain⟨x,c,room,rfl,m,q⟩:=h
 refine⟨_,ae (bu (pv 0) (pv 1) Λ) (ae (bu (pv 0) ai Λ) (ae (bu (pv 0) cz Λ) (ah (bu (pv 0) (aW ad) Λ)))),x,C,c,_,Λ,m,L.cl,L.n1,by show 0<1000;decide,x,C,c,_,Λ,ac,L.cl,L.n2,by show 1<1000;decide,x,C,c,_,Λ,ac,L.cl,L.n3,by show 2<1000;decide,Ϧ _,λd i=>?_⟩
 have b:=ag ac i
 refine⟨x,C,c,_,Λ,by rw[af b];exact ac,L.cl,L.n4,by show 3<1000;decide,?_⟩
 have l:H d=Γ:=by
  rw[af (ϛ b),af (ϛ b),af (ϛ b)]at i
  exact i
 refine q d _ l (λa o g e=>?_) ⟨ac,by rw[af (ϛ b)];exact ac,.nil⟩
 have j:a≠d:=λz=>by
  rw[z,l]at e
  cases e
 rw[af g,af j,af g,af g,af g]
 exact e
theorem BX:ar ["self","letter","count"] ["self","letter","count"] (aj wT):=L2.Ez
theorem zV(F:Et K "open_to" "Lane.open_to" wT f fd)(L:BH K C):DQ P w K mg ν aB 1 f fd ["self","letter","count"] (oy C):=by
 refine F.ok BX λ_ _ _ s H _ Q E i h=>?_
 obtain⟨x,e,j,r,b,h,l,c,rfl,g,q⟩:=h
 refine⟨_,ae (aO (az bT (ap (pv 0) Λ) ai (aA _)) (ah (au jH)) aE)
  (ae (aO (az bT (pv 2) ai (aA _)) (ah (au (bY oU (ap (pv 0) Λ) cz (aA _)))) aE)
  (ah (au (bY bT (ap (pv 0) Λ) (pv 1) (aA _))))),?_⟩
 refine⟨x,C,e,_,_,Λ,g,L.cl,L.n1,Λ,Λ,_,Λ,?_⟩
 rw[bZ]
 unfold c9 at q
 by_cases a:r=0
 ·rw[Ζ a]
  rw[Ι a]at q
  exact aK q
 rw[Η a]
 rw[Θ a]at q
 refine aG ⟨Λ,_,Λ,?_⟩
 rw[bZ]
 by_cases d:c=0
 ·rw[Ζ d]
  rw[Ι d]at q
  refine aK ⟨x,C,e,_,_,Λ,g,L.cl,L.n3,Λ,Λ,?_⟩
  rw[Dv]
  exact q
 ·rw[Η d]
  rw[Θ d]at q
  refine aG ⟨x,C,e,_,_,Λ,g,L.cl,L.n3,Λ,AD h l,?_⟩
  rw[Dw]
  exact q
theorem QI:ar ["self","letter","count","last"] ["self","letter","count","last"] (aj Cd):=L2.Ez
theorem C8(F:Et K "put" "Lane.put" Cd f fd)(L:BH K C)(Z:bW K C "open_to" fo)(bo:Binds K GL ["self","letter","count"] [])(Go:DQ P w K mg ν aB 1 fo GL ["self","letter","count"] (oy C)):
  DQ P w K mg ν aB 2 f fd ["self","letter","count","last"] (Bq C):=by
 refine F.ok QI λ_ _ _ s H _ Q E hr h=>?_
 obtain⟨x,g,d,r,b,h,j,qs,l,c,last,rfl,i,R,h1,S⟩:=h
 refine⟨_,ae (aO (cE (bH (aI (pv 0) L.cl Z Go hr bo .nil ao (aa (pv 1) (aa (pv 2) ad))))) (ah ce) aE)
  (ae (eW (pv 0) ai ul)
  (ae (aM (c8 plainAttrs_list PySem.F.slot_list_append PySem.F.type_list_append bD (ap (pv 0) Λ) (aa (bq (aa (pv 1) (aa (pv 2) ad))) ad)))
  (ah (bu (pv 0) (dG (bH (pv 3)) cz (pv 1)) Λ)))),?_⟩
 refine⟨x,g,_,Λ,i.ς,Λ,x,g,d,r,b,h,l,c,Λ,i.ς,_,Λ,?_⟩
 cases A:c9 r h l c with
 | false =>
  exact aK (h1 A)
 | true =>
  refine aG ?_
  refine⟨x,C,g,_,_,Λ,i.ς,L.cl,L.n1,Λ,_,_,Λ,Λ,g,_,i.ς,by show 4<1000;decide,?_⟩
  have B:=aT i.ρ i.ς (by intro z;cases z)
  have D:(π H x (.ς C g (aP "rights" (.int (r - 1)) (jO r b (hV h) d)))) x=Β (.ς C g (jO (r - 1) b (hV h) d)):=ac
  have v:(π H x (.ς C g (aP "rights" (.int (r - 1)) (jO r b (hV h) d)))) d=Β (.ρ j):=by rw[af B];exact i.ρ
  have T:F4 x d H (π H x (.ς C g (aP "rights" (.int (r - 1)) (jO r b (hV h) d)))):=λa o m _ e=>by rw[af m];exact e
  generalize π H x (.ς C g (aP "rights" (.int (r - 1)) (jO r b (hV h) d)))=G at D v T⊢
  refine⟨x,C,g,_,_,Λ,D,L.cl,L.n4,Λ,.inl ⟨Λ,_,DS.of v⟩,by show 2<=Χ;decide,λt ht=>?_⟩
  have q:=(DP.refl G).new (o:=.tup [.int l,.int c]) ht
  have gt:(π G t (.tup [.int l,.int c])) t=Β (.tup [.int l,.int c]):=ac
  generalize π G t (.tup [.int l,.int c])=u at q gt⊢
  refine⟨d,j,_,Λ,Λ,q _ _ v,by rw[ϗ];omega,?_⟩
  have y:(π u d (.ρ (j++[.ref t]))) x=Β (.ς C g (jO (r - 1) b (hV h) d)):=by rw[af (ϛ B)];exact q _ _ D
  have U:(π u d (.ρ (j++[.ref t]))) d=Β (.ρ (j++[.ref t])):=ac
  have I:F4 x d H (π u d (.ρ (j++[.ref t]))):=λa o m p e=>by rw[af p];exact q _ _ (T a o m p e)
  have J:=aT gt (q _ _ v) (by intro z;cases z)
  have M:(π u d (.ρ (j++[.ref t]))) t=Β (.tup [.int l,.int c]):=by rw[af J];exact gt
  generalize π u d (.ρ (j++[.ref t]))=X at y U I M⊢
  have N:=aT M y (by intro z;cases z)
  have fin:∀O:Option Int,Es (π X x (.ς C g (aP "holder" (hV O) (jO (r - 1) b (hV h) d)))) C x g d (r - 1) b O (j++[.ref t]) (qs++[(l,c)]):=λO =>
   ⟨ac,by rw[af B];exact U,Eu.snoc ⟨t,Λ,by rw[af N];exact M⟩ (F4.JK (λa o m p e=>by rw[af m];exact I a o m p e) i.ς i.ρ i.Fc)⟩
  have off:∀Y,F4 x d H (π X x Y):=λY a o m p e=>by rw[af m];exact I a o m p e
  refine⟨_,Λ,?_⟩
  cases last with
  |true=>exact aK ⟨x,C,g,_,Λ,y,L.cl,L.n3,by show 4<1000;decide,S A t _ (off _) (fin Γ)⟩
  |false=>exact aG ⟨x,C,g,_,Λ,y,L.cl,L.n3,by show 4<1000;decide,S A t _ (off _) (fin (Β l))⟩
theorem zt:ar ["self"] ["self"] (aj rT):=L2.Ez
theorem xN(F:Et K "front" "Lane.front" rT f fd)(L:BH K C):DQ P w K mg ν aB 1 f fd ["self"] (jV C):=by
 refine F.ok zt λ_ _ _ s H _ Q E g h=>?_
 obtain⟨x,c,d,r,b,h,e,i,rfl,a,q⟩:=h
 refine⟨_,ah (au (dG (iO (ap (pv 0) Λ) (λ_=>rfl)) (aD aR (ap (pv 0) Λ) ai (λ_ _=>rfl)) cz)),x,C,c,_,_,Λ,a.ς,L.cl,L.n4,Λ,_,.inl ⟨_,DS.of a.ρ,Λ⟩,?_⟩
 cases e with
 |nil=>exact aG q
 |cons v rest=>exact aK ⟨x,C,c,_,_,Λ,a.ς,L.cl,L.n4,Λ,d,_,0,v,Λ,Λ,DS.of a.ρ,al (j:=0) Λ,q⟩
theorem BU:ar ["self"] ["self"] (aj wP):=L2.Ez
theorem zR(F:Et K "pull" "Lane.pull" wP f fd)(L:BH K C):DQ P w K mg ν aB 1 f fd ["self"] (rF C):=by
 refine F.ok BU λ_ _ _ s H _ Q E G h=>?_
 obtain⟨x,g,c,r,b,h,y,I,rfl,d,A,B⟩:=h
 refine⟨_,ae (aO (cE (iO (ap (pv 0) Λ) (λ_=>rfl))) (ah ce) aE)
  (ae (eW (pv 0) ai pj)
  (ah (au (c8 plainAttrs_list PySem.F.slot_list_pop PySem.F.type_list_pop yb (ap (pv 0) Λ) (aa ai ad))))),?_⟩
 refine⟨x,C,g,_,_,Λ,d.ς,L.cl,L.n4,Λ,_,.inl ⟨_,DS.of d.ρ,Λ⟩,?_⟩
 have m:=aT d.ρ d.ς (by intro z;cases z)
 cases y with
 | nil =>
  exact aK (A Λ)
 | cons v rest =>
  refine aG ?_
  refine⟨x,C,g,_,_,Λ,d.ς,L.cl,L.n2,Λ,_,_,Λ,Λ,g,_,d.ς,by show 4<1000;decide,?_⟩
  have i:(π H x (.ς C g (aP "returning" (.int (b+1)) (jO r b (hV h) c)))) x=Β (.ς C g (jO r (b+1) (hV h) c)):=ac
  have j:(π H x (.ς C g (aP "returning" (.int (b+1)) (jO r b (hV h) c)))) c=Β (.ρ (v:: rest)):=by rw[af m];exact d.ρ
  have p:F4 x c H (π H x (.ς C g (aP "returning" (.int (b+1)) (jO r b (hV h) c)))):=λa o l _ e=>by rw[af l];exact e
  generalize π H x (.ς C g (aP "returning" (.int (b+1)) (jO r b (hV h) c)))=D at i j p⊢
  refine⟨x,C,g,_,_,Λ,i,L.cl,L.n4,Λ,.inl ⟨Λ,_,DS.of j⟩,c,v:: rest,0,0,v,Λ,Λ,j,by decide,by decide,Xn _,Λ,?_⟩
  have q:F4 x c H (π D c (.ρ rest)):=λa o l u e=>by rw[af u];exact p a o l u e
  refine B v rest Λ _ q ⟨by rw[af (ϛ m)];exact i,ac,?_⟩
  have z:=F4.JK q d.ς d.ρ d.Fc
  cases z with
  |cons _ t=>exact t
theorem zu:ar ["self"] ["self"] (aj rX):=L2.Ez
theorem xS(F:Et K "bring" "Lane.bring" rX f fd)(L:BH K C):DQ P w K mg ν aB 1 f fd ["self"] (tG C):=by
 refine F.ok zu λ_ _ _ s H _ Q E G h=>?_
 obtain⟨x,c,d,r,b,h,v,I,rfl,g,y,A⟩:=h
 refine⟨_,ae (aO (az bT (ap (pv 0) Λ) ai (aA _)) (ah ce) aE)
  (ae (eW (pv 0) ai ul) (ah (eW (pv 0) ai pj))),?_⟩
 refine⟨x,C,c,_,_,Λ,g.ς,L.cl,L.n2,Λ,Λ,_,Λ,?_⟩
 have m:=aT g.ρ g.ς (by intro z;cases z)
 rw[bZ]
 by_cases i:b=0
 ·rw[Ζ i]
  exact aK (y i)
 ·rw[Η i]
  refine aG ?_
  refine⟨x,C,c,_,_,Λ,g.ς,L.cl,L.n2,Λ,_,_,Λ,Λ,c,_,g.ς,by show 4<1000;decide,?_⟩
  have l:(π H x (.ς C c (aP "returning" (.int (b - 1)) (jO r b (hV h) d)))) x=Β (.ς C c (jO r (b - 1) (hV h) d)):=ac
  have p:F4 x d H (π H x (.ς C c (aP "returning" (.int (b - 1)) (jO r b (hV h) d)))):=λa o j _ e=>by rw[af j];exact e
  have q:(π H x (.ς C c (aP "returning" (.int (b - 1)) (jO r b (hV h) d)))) d=Β (.ρ v):=by rw[af m];exact g.ρ
  generalize π H x (.ς C c (aP "returning" (.int (b - 1)) (jO r b (hV h) d)))=B at l q p⊢
  refine⟨x,C,c,_,_,Λ,l,L.cl,L.n1,Λ,_,_,Λ,Λ,c,_,l,by show 4<1000;decide,?_⟩
  have t:∀u,F4 x d H (π B x u):=λu a o j D e=>by rw[af j];exact p a o j D e
  exact A i _ (t _) ⟨ac,by rw[af m];exact q,F4.JK (t _) g.ς g.ρ g.Fc⟩
noncomputable def l5(m:Nat)(Ei:List V):Bool:=decide (Ei.length=m)&& Ei.all λv=>mX v 1 60
def Sq(K:ϣ)(H:Hp)(a:Ν)(xs:List V):Prop:=DS K H a xs∨DY K H a xs
inductive tm(K:ϣ)(c:Cs)(vs:List V)(H:Hp)(Q:VK)(E:XK):Prop
 |mk (lx Eh lt:Ν) (n:Int) (DX:List V) (ps:List (Int×Int)) (rv:V) (_:vs=[.ref lx,rv]) (_:eR H c lx Eh lt n DX ps) (_:ps.length<=1000) (_:((rv=.Eg/\∀t H',DP H H'->H' t=Β (.tup (Ϫ ps.length (.int 1)))->Q (.ref t) H')∨(∃ra Ei,rv=.ref ra/\Sq K H ra Ei/\Ei.length<=1000/\(∀v∈Ei,vF v)/\(l5 ps.length Ei=Ε->False)/\(l5 ps.length Ei=Δ->∀t H',DP H H'->DY K H' t Ei->Q (.ref t) H'))))
noncomputable def Dt(s:Ã):Scope:=match s with
 |.If _ (.Return (Β (.Call _ [.ListComp _ _ sc _] _ _)) _:: _) _ _=>sc
 |_=>zQ0
noncomputable def C0(s:Ã):Scope:=match s with
 |.If (.BoolOp _ [_,.UnaryOp _ (.Call _ [.ListComp _ _ sc _] _ _) _] _) _ _ _=>sc
 |_=>zQ0
noncomputable def OE:V->Bool
 |.int i=>decide ((if i<0 then -i else i)<10^(60:Int).toNat)
 |_=>Ε
inductive wc(vs:List V)(H:Hp)(Q:VK)(_:XK):Prop
 |mk (v)(_:vs=[v])(_:vF v)(_:Q (.bl (OE v)) H)
theorem bK(e:DP H H')(h:DY K H a xs):DY K H' a xs:=by
 rcases h with h|h
 ·refine .inl ?_
  rcases h with h|⟨o,h⟩
  ·exact .inl (e _ _ h)
  ·exact .inr ⟨o,e _ _ h⟩
 ·exact .inr h
theorem QJ(e:PI X tg it a)(f:PI X tg it b):PI X tg it (λd H R=>a d H R∨b d H R):=λc s d H R I h=>h.elim (e c s d H R I) (f c s d H R I)
theorem qU{xs:List V}(f:V->V)(j:xs.length<Χ)(l:∀i,i<xs.length->J.go i H)(m:J.stop xs.length H)(o:∀i x a,J.KG i H x a->a=H/\xs[i]?=Β x)
  (p:∀(x:V)(N:V->Hp->Prop),x∈xs->N (f x) H->g x σ0 H λc b=>te c b N)
  (q:∀D,H D=Γ->Q (.ref D) (π H D (.ρ (xs.map f)))):e9 J g pR te σ0 Q H:=by
 refine bQ xs.length j (λi acc a=>a=H/\acc=(xs.take i).map f) ⟨Λ,Λ⟩ (λi acc a h=>by rw[h.2,Ο];exact Ą _ _) (λi acc a r h=>?_) (λacc a h=>?_)
 ·obtain⟨rfl,rfl⟩:=h
  refine⟨l i r,λv b y=>?_⟩
  obtain⟨e,d⟩:=o i v b y
  subst e
  exact p v (λy s=>s=b/\(xs.take i).map f++[y]=(xs.take (i+1)).map f) (Ϗ d) ⟨Λ,by rw[ß,d,ϯ];rfl⟩
 ·obtain⟨rfl,rfl⟩:=h
  rw[Þ]
  exact⟨m,q⟩
theorem D7(f:V->V)(d:xs.length<Χ)(b:DS K H a xs)(e:∀(x:V) (N:V->Hp->Prop),x∈xs->N (f x) H->g x σ0 H λc h=>te c h N)
  (j:∀D,H D=Γ->Q (.ref D) (π H D (.ρ (xs.map f)))):e9 (yY K a) g pR te σ0 Q H:=
 qU f d (λi l=>⟨xs,xs[i],b,by simp[l]⟩) ⟨xs,b,Ξ _⟩ (λi x m y=>⟨y.1,y.2 xs b⟩) e j
theorem yI(f:V->V)(d:xs.length<Χ)(b:DY K H a xs)(e:∀(x:V) (N:V->Hp->Prop),x∈xs->N (f x) H->g x σ0 H λc h=>te c h N)
  (j:∀D,H D=Γ->Q (.ref D) (π H D (.ρ (xs.map f)))):e9 (U2 K a) g pR te σ0 Q H:=
 qU f d (λi l=>⟨xs,xs[i],b,by simp[l]⟩) ⟨xs,b,Ξ _⟩ (λi x m y=>⟨y.1,y.2 xs b⟩) e j
theorem Xp:ar ["land","rooms"] ["land","rooms"] (aj ik):=L2.Ez
theorem Xq:EV ["land","rooms"] (aj ik) (Dt ((aJ ik).getD 0 (.Pass ⟨0,0,0,0⟩))) [] []:=L2.FH
theorem Xr:EV ["land","rooms"] (aj ik) (C0 ((aJ ik).getD 1 (.Pass ⟨0,0,0,0⟩))) [] []:=L2.FH
theorem Xs:(["lane"]:List Str).Nodup:=by decide +kernel
theorem QK:(["room"]:List Str).Nodup:=by decide +kernel
theorem xH(F:Et K "rooms_of" "rooms_of" ik f fd)(T:eK mg)(L:rp K c)
  (O:mg "is_within"=Β (.ref fw)) (R:ϳ K (.ref fw)=Δ) (S:Binds K dw ["value","least","most"] []) (U:DQ P w K mg ν aB 2 fw dw ["value","least","most"] gH) (X:mg "MOST_ROOM"=Β (.int 60 t1)):
  DQ P w K mg ν aB 3 f fd ["land","rooms"] (tm K c):=by
 refine F.ok Xp λ_ _ _ s H _ Q E Y h=>?_
 obtain⟨A,B,lt,n,G,ps,rv,rfl,j,Hl,Z⟩:=h
 refine⟨_,ae (aO (az oU (pv 1) cz (aA _)) (ah (au (aN aY Λ T.tuple PySem.Pv.boot_tuple (aa (b5 (own:=["lane"]) (capN:=[]) (cap:=[]) Xq Λ (ju (ap (pv 0) Λ))
    (λC g m fp=>⟨ax (i:=0) Xs Λ (ύ Λ),bX,ai⟩)) ad)))) aE)
  (ae (aO (fG (PW.pt (gc (az mW (ay aw Λ T.len PySem.boot_len (aa (pv 1) ad)) (ay aw Λ T.len PySem.boot_len (aa (ap (pv 0) Λ) ad)) (aA _))
    (ga (cE (bH (ay (jh Λ) Λ T.all Ĝ (aa (b5 (own:=["room"]) (capN:=[]) (cap:=[]) Xr Λ (QJ (aV (pv 1)) (ju (pv 1)))
     (λC g m fp=>⟨ax (i:=0) QK Λ (ύ Λ),bX,aq U Y Λ O R S .nil ao (aa (pv 0) (aa ai (aa (gI (v:=.int 60) Λ X ⟨_,Λ⟩) ad)))⟩)) ad))))))))
   (ah ce) aE)
  (ah (au (aN aY Λ T.tuple PySem.Pv.boot_tuple (aa (pv 1) ad))))),?_⟩
 have I:=Paired.length j.2.2
 refine⟨Λ,_,Λ,?_⟩
 rcases Z with ⟨rfl,q⟩|⟨e,a,rfl,d,HA,r,qE,q⟩
 ·refine aK ⟨A,c.land,B,_,_,Λ,j.1,L.cl,L.nl,Λ,lt,Λ,⟨_,DY.of j.2.1⟩,?_⟩
  refine yI (λ_ =>.int 1) (by rw[ϗ];omega) (DY.of j.2.1) (λx N l h=>h) (λD u=>?_)
  have s1:=(DP.refl H).new (o:=.ρ (G.map λ_=>V.int 1)) u
  refine⟨D,_,Λ,.inl ⟨DS.of ac,λt y=>q t _ (s1.new y) ?_⟩⟩
  rw[ac,List.map_const',I]
 ·refine aG ?_
  have J:∀{H:Hp},Sq K H e a->(DS K H e a∨DY K H e a):=λh=>h
  refine⟨λb m=>DP H m/\b= !l5 ps.length a,?_,?_⟩
  ·refine⟨e,a,Λ,d,A,c.land,B,_,_,Λ,j.1,L.cl,L.nl,Λ,lt,_,Λ,.inr (DY.of j.2.1),Λ,_,Λ,?_⟩
   rw[bZ,I]
   by_cases M:a.length=ps.length
   rotate_left
   ·rw[Η (show ¬((a.length:Nat):Int)=(ps.length:Nat) by omega)]
    refine aK ⟨DP.refl H,?_⟩
    unfold l5
    rw[Η M];rfl
   rw[Ζ (show((a.length:Nat):Int)=(ps.length:Nat) by omega)]
   have fin:∀D,H D=Γ->∃(p:Ν)(bs:List Bool),[V.ref D]=[.ref p]/\DS K (π H D (.ρ (a.map λv=>V.bl (mX v 1 60)))) p (bs.map V.bl)/\Uaa (λc r=>DP H r/\(!c)= !l5 ps.length a) (.bl (bs.all id)) (π H D (.ρ (a.map λv=>V.bl (mX v 1 60)))):=λD u=>by
    refine⟨D,a.map λv=>mX v 1 60,Λ,DS.of (by rw[ac,ê];rfl),_,Λ,(DP.refl H).new u,?_⟩
    unfold l5
    rw[Ζ M,Ě,all_map];rfl
   refine aG ?_
   rcases d with d|d
   ·refine .inl ⟨e,Λ,⟨_,d⟩,?_⟩
    exact D7 (λv =>.bl (mX v 1 60)) (by rw[ϗ];omega) d (λx N l h=>⟨x,1,60,Λ,r x l,h⟩) fin
   ·refine .inr ⟨e,Λ,⟨_,d⟩,?_⟩
    exact yI (λv =>.bl (mX v 1 60)) (by rw[ϗ];omega) d (λx N l h=>⟨x,1,60,Λ,r x l,h⟩) fin
  rintro b m ⟨g,rfl⟩
  cases z:l5 ps.length a with
  |false=>exact aK (qE z)
  | true =>
   refine aG ⟨e,a,Λ,?_⟩
   rcases d with d|d
   ·exact .inl ⟨g.seq d,λt y=>q z t _ (g.new y) (DY.of ac)⟩
   ·exact .inr ⟨bK g d,q z e _ g (bK g d)⟩
theorem Xt:ar ["word"] ["word"] (aj wN):=L2.Ez
theorem zO(F:Et K "is_word" "is_word" wN f fd)(T:eK mg)(a:mg "is_whole"=Β (.ref fh))(c:ϳ K (.ref fh)=Δ)(d:Binds K dh ["value"] [])(G:DQ P w K mg ν aB 1 fh dh ["value"] i9):
  DQ P w K mg ν aB 2 f fd ["word"] wc:=by
 refine F.ok Xt λ_ _ _ s H _ Q E e h=>?_
 obtain⟨v,rfl,g,q⟩:=h
 refine⟨_,ah (au (cP (aq G e Λ a c d .nil ao (aa (pv 0) ad)) (cF (bY jI (ay yK Λ T.abs PyProof.Rows.boot_abs (aa (pv 0) ad)) (aC oT ai ai) (aA _))))),?_⟩
 cases g with
 |int i=>exact⟨_,Λ,.int i,Δ,Λ,aK ⟨i,Λ,_,_,Λ,Λ,⟨by decide,by decide,by decide⟩,_,_,Λ,Λ,q⟩⟩
 |bl b=>exact⟨_,Λ,.bl b,Ε,Λ,aG q⟩
 |Eg=>exact⟨_,Λ,.Eg,Ε,Λ,aG q⟩
abbrev Wf:=Nat->Nat->Option Nat->List Nat
abbrev TJ:=Hp->Ν->Nat->Wf->Prop
def NL:HO->Prop
 |.ρ _=>False
 |.ς _ _ []=>False
 |.LX _=>False
 |_=>True
def E5(H H':Hp):Prop:=∀b o,H b=Β o->NL o->H' b=Β o
theorem DP.Ed(s:DP H H'):E5 H H':=λb o e _=>s b o e
theorem E5.trans(a:E5 H H1)(b:E5 H1 H2):E5 H H2:=λx o e n=>b x o (a x o e n) n
theorem E5.JK(k:E5 H H')(h:Eu H vs ps):Eu H' vs ps:=Eu.imp (λ_ _ ⟨t,e,q⟩=>⟨t,e,k _ _ q À⟩) h
structure EL(c:Cs)(C:Ν)(J:TJ)(H:Hp)(x lx Eh lt:Ν)(n:Nat)(DX:List V)(ps:List (Int×Int))(wy:Wf):Prop where
 j:J H x n wy
 i:∃dx fs,H x=Β (.ς C dx fs)/\fs.lookup ("land":Str)=Β (.ref lx)/\fs.lookup ("ways":Str)=Γ
 l:eR H c lx Eh lt (n:Int) DX ps
 JL:n<=12
 E4:ps.length<=40
 ok:∀p g k,p<n->g<n->∀z∈wy p g k,z<ps.length
structure Wy(K:ϣ)(C fw:Ν)(dw:Ñ)(J:TJ):Prop where
 cl:GV K C
 nl:Ea K C "land"
 m:bW K C "ways" fw
 b:Binds K dw ["self","place","goal","came"] []
 EU:∀H H' x n wy,J H x n wy->E5 H H'->J H' x n wy
theorem EL.keep(W:Wy K C fw dw J)(h:EL c C J H x lx Eh lt n DX ps wy)(k:E5 H H'):EL c C J H' x lx Eh lt n DX ps wy:=
 ⟨W.EU _ _ _ _ _ h.j k,let ⟨dx,fs,h1,h2⟩:=h.i;⟨dx,fs,k _ _ h1 (by cases fs with|nil=>cases h2.1|cons _ _=>exact À),h2⟩,⟨k _ _ h.l.1 À,k _ _ h.l.2.1 À,k.JK h.l.2.2⟩,h.JL,h.E4,h.ok⟩
inductive iA(J:TJ)(vs:List V)(H:Hp)(Q:VK)(E:XK):Prop
 |mk (x:Ν) (n:Nat) (wy:Wf) (p g:Nat) (k:Option Nat) (_:vs=[.ref x,.int p,.int g,cV k]) (_:J H x n wy) (_:p<n) (_:g<n) (_:∀(D:Ν)(H':Hp),DP H H'->H D=Γ->H' D=Β (.ρ (nV (wy p g k)))->Q (.ref D) H')
structure bO where
 r:Int
 b:Int
 h:Option Int
 qs:List (Int×Int)
structure bE where
 start:Int
 μ:Int
 len:Int
 word:Int
 ε:Int
 Α:List Nat
structure YS where
 rooms:List V
 δ:List bO
 U:List bE
 ι:List (List (Int×Int))
 done:List (List V)
structure Ys where
 DR:Ν
 Ek:Ν
 DU:Ν
 ex:List Ν
def G8(H:Hp)(C:Ν)(ex:List Ν)(v:V)(s:bO):Prop:=∃x dx pa Ep,v=.ref x/\Es H C x dx pa s.r s.b s.h Ep s.qs/\pa∉ex
noncomputable def su(s:bE)(wa:Ν):Fs:=[("start",.int s.start),("goal",.int s.μ),("length",.int s.len),("word",.int s.word),("gone",.int s.ε),("way",.ref wa)]
def Hs(H:Hp)(C:Ν)(ex:List Ν)(v:V)(s:bE):Prop:=∃x dx wa,v=.ref x/\H x=Β (.ς C dx (su s wa))/\H wa=Β (.ρ (nV s.Α))/\wa∉ex
def F6(H:Hp)(v:V)(qs:List (Int×Int)):Prop:=∃t vs,v=.ref t/\H t=Β (.tup vs)/\Eu H vs qs
def EY(H:Hp)(v:V)(m:List V):Prop:=∃t,v=.ref t/\H t=Β (.tup m)
theorem Paired.mono{R c:α->β->Prop}(h:∀a b,R a b->c a b):∀{as:List α}{bs:List β},Paired R as bs->Paired c as bs:=λd=>by
 induction d with
 |nil=>exact .nil
 |cons x r e=>exact .cons (h _ _ x) e
theorem Paired.snoc{a:α}{b:β}(h:R a b):∀{as:List α}{bs:List β},Paired R as bs->Paired R (as++[a]) (bs++[b]):=λc=>by
 induction c with
 |nil=>exact .cons h .nil
 |cons x r d=>exact .cons x d
theorem Paired.at:∀{as:List α}{bs:List β}{i:Nat}{a:α},Paired R as bs->as[i]?=Β a->∃b,bs[i]?=Β b/\R a b:=by
 intro _ _ i _ c
 induction c generalizing i with
 |nil=>intro h;cases h
 | cons x r d =>
  intro h
  cases i with
  |zero=>cases h;exact⟨_,Λ,x⟩
  |succ i=>exact d (i:=i) h
theorem Paired.at2:∀{as:List α}{bs:List β}{i:Nat}{b:β},Paired R as bs->bs[i]?=Β b->∃a,as[i]?=Β a/\R a b:=by
 intro _ _ i _ c
 induction c generalizing i with
 |nil=>intro h;cases h
 | cons x r d =>
  intro h
  cases i with
  |zero=>cases h;exact⟨_,Λ,x⟩
  |succ i=>exact d (i:=i) h
def Ee(ex:List Ν)(H H':Hp):Prop:=∀b o,b∉ex->H b=Β o->H' b=Β o
theorem DP.EA(s:DP H H'):Ee ex H H':=λb o _ e=>s b o e
theorem Ee.trans(a:Ee ex H H1)(b:Ee ex H1 H2):Ee ex H H2:=λx o n e=>b x o n (a x o n e)
theorem Eu.EA(c:∀b∈ex,∃xs,H b=Β (.ρ xs))(o:Ee ex H H')(h:Eu H vs ps):Eu H' vs ps:=
 Eu.imp (λ_ _ d=>by obtain⟨t,e,q⟩:=d;exact⟨t,e,o _ _ (λz=>by obtain⟨xs,a⟩:=c _ z;rw[q]at a;cases a) q⟩) h
theorem Ee.Mp(c:∀b∈ex,∃o,H b=Β o/\¬NL o)(o:Ee ex H H'):E5 H H':=λb u e n=>o b u (λz=>by obtain⟨f,a,d⟩:=c _ z;rw[e]at a;cases a;exact d n) e
theorem Ee.Ed(a:∀b∈ex,∃xs,H b=Β (.ρ xs))(o:Ee ex H H'):E5 H H':=o.Mp λb c=>let ⟨xs,hz⟩:=a b c;⟨_,hz,id⟩
theorem G8.EA(a:∀b∈ex,∃xs,H b=Β (.ρ xs))(o:Ee ex H H')(h:G8 H C ex v s):G8 H' C ex v s:=by
 obtain⟨x,c,d,f,e,L,n⟩:=h
 have k:=o.Ed a
 exact⟨x,c,d,f,e,⟨k _ _ L.ς À,o _ _ n L.ρ,Eu.EA a o L.Fc⟩,n⟩
theorem Hs.EA(a:∀b∈ex,∃xs,H b=Β (.ρ xs))(o:Ee ex H H')(h:Hs H C ex v s):Hs H' C ex v s:=by
 obtain⟨x,c,d,e,f,g,n⟩:=h
 exact⟨x,c,d,e,o.Ed a _ _ f À,o _ _ n g,n⟩
theorem F6.keep(k:E5 H H')(h:F6 H v qs):F6 H' v qs:=by
 obtain⟨t,a,e,b,c⟩:=h
 exact⟨t,a,e,k _ _ b À,k.JK c⟩
theorem EY.keep(k:E5 H H')(h:EY H v m):EY H' v m:=by
 obtain⟨t,e,a⟩:=h
 exact⟨t,e,k _ _ a À⟩
noncomputable def rq(tb ro la le li dn:Ν):Fs:=[("table",.ref tb),("rooms",.ref ro),("lanes",.ref la),("letters",.ref le),("lies",.ref li),("done",.ref dn)]
structure Ec(K:ϣ)(ys:Ys)(H:Hp)(y dy tb ro la le li dn:Ν)(s:YS):Prop where
 ς:H y=Β (.ς ys.DR dy (rq tb ro la le li dn))
 Mq:DY K H ro s.rooms
 χ:∃vs,H la=Β (.ρ vs)/\Paired (G8 H ys.Ek (la:: le:: li:: dn:: ys.ex)) vs s.δ
 ω:∃vs,H le=Β (.ρ vs)/\Paired (Hs H ys.DU (la:: le:: li:: dn:: ys.ex)) vs s.U
 FQ:∃vs,H li=Β (.ρ vs)/\Paired (F6 H) vs s.ι
 Fw:∃vs,H dn=Β (.ρ vs)/\Paired (EY H) vs s.done
 ne:[la,le,li,dn].Nodup
 hex:∀b∈ys.ex,∃xs,H b=Β (.ρ xs)
theorem Ec.G9(h:Ec K ys H y dy tb ro la le li dn s):∀b∈[la,le,li,dn],∃xs,H b=Β (.ρ xs):=by
 intro b a
 obtain⟨g,c,_⟩:=h.χ
 obtain⟨i,d,_⟩:=h.ω
 obtain⟨j,e,_⟩:=h.FQ
 obtain⟨l,f,_⟩:=h.Fw
 simp only[Ϯ,É,or_false]at a
 rcases a with rfl|rfl|rfl|rfl
 ·exact⟨_,c⟩
 ·exact⟨_,d⟩
 ·exact⟨_,e⟩
 ·exact⟨_,f⟩
theorem Ec.HN(h:Ec K ys H y dy tb ro la le li dn s):∀b∈la:: le:: li:: dn:: ys.ex,∃xs,H b=Β (.ρ xs):=by
 intro b a
 have e:la:: le:: li:: dn:: ys.ex=[la,le,li,dn]++ys.ex:=rfl
 rw[e]at a
 rcases Ϣ.mp a with a|a
 ·exact h.G9 b a
 ·exact h.hex b a
theorem Ec.same(h:Ec K ys H y dy tb ro a le li dn s)(e:DP H H'):Ec K ys H' y dy tb ro a le li dn s:=by
 have c:=h.HN
 obtain⟨d,f,g⟩:=h.χ
 obtain⟨i,j,l⟩:=h.ω
 obtain⟨m,p,q⟩:=h.FQ
 obtain⟨r,t,u⟩:=h.Fw
 have o:Ee (a:: le:: li:: dn:: ys.ex) H H':=DP.EA e
 exact⟨e _ _ h.ς,bK e h.Mq,⟨d,e _ _ f,Paired.mono (λ_ _ z=>z.EA c o) g⟩,⟨i,e _ _ j,Paired.mono (λ_ _ z=>z.EA c o) l⟩,⟨m,e _ _ p,Paired.mono (λ_ _ z=>z.keep (DP.Ed e)) q⟩,⟨r,e _ _ t,Paired.mono (λ_ _ z=>z.keep (DP.Ed e)) u⟩,h.ne,λb v=>let ⟨xs,hz⟩:=h.hex b v;⟨xs,e _ _ hz⟩⟩
structure jo(K:ϣ)(ys:Ys):Prop where
 cl:GV K ys.DR
 n1:Ea K ys.DR "table"
 n2:Ea K ys.DR "rooms"
 n3:Ea K ys.DR "lanes"
 n4:Ea K ys.DR "letters"
 n5:Ea K ys.DR "lies"
 n6:Ea K ys.DR "done"
 ct:GV K ys.DU
 t1:Ea K ys.DU "start"
 t2:Ea K ys.DU "goal"
 t3:Ea K ys.DU "length"
 t4:Ea K ys.DU "word"
 t5:Ea K ys.DU "gone"
 t6:Ea K ys.DU "way"
 L:BH K ys.Ek
inductive wz(C:Ν)(vs:List V)(H:Hp)(Q:VK)(E:XK):Prop
 |mk (x dx:Ν) (a b l u:Int) (_:vs=[.ref x,.int a,.int b,.int l,.int u]) (_:H x=Β (.ς C dx [])) (_:∀(wa:Ν)(H':Hp),H wa=Γ->(∀z o,z≠x->H z=Β o->H' z=Β o)->H' x=Β (.ς C dx (su ⟨a,b,l,u,0,[]⟩ wa))->H' wa=Β (.ρ (nV []))->Q .Eg H')
theorem QM:ar ["self","start","goal","length","word"] ["self","start","goal","length","word"] (aj xc):=L2.Ez
theorem CH(F:Et K "__init__" "Letter.__init__" xc f fd)(Y:jo K ys):DQ P w K mg ν aB 1 f fd ["self","start","goal","length","word"] (wz ys.DU):=by
 refine F.ok QM λ_ _ _ s H _ Q E t h=>?_
 obtain⟨x,d,a,b,l,u,rfl,r,q⟩:=h
 refine⟨_,ae (bu (pv 0) (pv 1) Λ) (ae (bu (pv 0) (pv 2) Λ) (ae (bu (pv 0) (pv 3) Λ) (ae (bu (pv 0) (pv 4) Λ) (ae (bu (pv 0) ai Λ) (ah (bu (pv 0) (aW ad) Λ)))))),x,ys.DU,d,_,Λ,r,Y.ct,Y.t1,by show 0<1000;decide,x,ys.DU,d,_,Λ,ac,Y.ct,Y.t2,by show 1<1000;decide,x,ys.DU,d,_,Λ,ac,Y.ct,Y.t3,by show 2<1000;decide,x,ys.DU,d,_,Λ,ac,Y.ct,Y.t4,by show 3<1000;decide,x,ys.DU,d,_,Λ,ac,Y.ct,Y.t5,by show 4<1000;decide,Ϧ _,λi j=>?_⟩
 have c:=ag ac j
 refine⟨x,ys.DU,d,_,Λ,by rw[af c];exact ac,Y.ct,Y.t6,by show 5<1000;decide,?_⟩
 have p:H i=Γ:=by
  rw[af (ϛ c),af (ϛ c),af (ϛ c),af (ϛ c),af (ϛ c)]at j
  exact j
 refine q i _ p (λz o g e=>?_) ac (by rw[af (ϛ c)];exact ac)
 have m:=ag e p
 rw[af g,af m,af g,af g,af g,af g,af g]
 exact e
noncomputable def vI:V->Int
 |.int i=>i
 |_=>0
noncomputable def tY(v:V):bO:=⟨vI v,0,Γ,[]⟩
noncomputable def Y0(rooms:List V)(n:Nat):YS:=⟨rooms,rooms.map tY,[],Ϫ n [],[]⟩
def FR(H0 H:Hp)(C:Ν)(v:V)(s:bO):Prop:=∃x dx pa,v=.ref x/\Es H C x dx pa s.r s.b s.h [] []/\s.qs=[]/\H0 x=Γ/\H0 pa=Γ
theorem FR.same(h:FR H0 H C v s)(e:DP H H'):FR H0 H' C v s:=by
 obtain⟨x,a,b,c,d,f⟩:=h
 exact⟨x,a,b,c,d.same e,f⟩
def E7(y:Ν)(ex:List Ν)(H:Hp)(C:Ν)(v:V)(s:bO):Prop:=∃x dx pa,v=.ref x/\Es H C x dx pa s.r s.b s.h [] []/\s.qs=[]/\x≠y/\pa≠y/\pa∉ex
theorem FR.QO(h:FR H0 H C v s)(c:H0 y=Β u)(f:∀b∈ex,∃o,H0 b=Β o):E7 y ex H C v s:=by
 obtain⟨x,g,i,j,l,m,d,a⟩:=h
 exact⟨x,g,i,j,l,m,(λz=>by rw[z,c]at d;cases d),(λz=>by rw[z,c]at a;cases a),λz=>by obtain⟨o,e⟩:=f _ z;rw[a]at e;cases e⟩
theorem E7.same(h:E7 y ex H C v s)(e:DP H H'):E7 y ex H' C v s:=by
 obtain⟨x,a,b,c,d,f⟩:=h
 exact⟨x,a,b,c,d.same e,f⟩
theorem E7.π(h:E7 y ex H C v s):E7 y ex (π H y o) C v s:=by
 obtain⟨x,d,e,f,a,g,b,c,i⟩:=h
 exact⟨x,d,e,f,⟨by rw[af b];exact a.ς,by rw[af c];exact a.ρ,.nil⟩,g,b,c,i⟩
theorem E7.new{ex:List Ν}{H:Hp}{C:Ν}{v:V}{s:bO}{o:HO}(h:E7 y ex H C v s)(b:H a=Γ):E7 y (a:: ex) (L2.π H a o) C v s:=by
 obtain⟨x,d,e,f,c,g,i,j,l⟩:=h
 exact⟨x,d,e,f,c.same ((DP.refl H).new b),g,i,j,λz=>(Ϯ.mp z).elim (λz=>by rw[z]at c;rw[c.ρ]at b;cases b) l⟩
theorem E7.QP(h:E7 y ex H C v s)(b:∀a∈O1,a∈ex):G8 H C O1 v s:=by
 obtain⟨x,c,d,e,f,g,j,l,i⟩:=h
 exact⟨x,c,d,[],e,by rw[g];exact f,λz=>i (b _ z)⟩
theorem sN(B:Ei.length<Χ)(m:DY K H ro Ei)(f:∀v∈Ei,∃r,v=.int r)
  (E:∀(r:Int)(a:Hp)(N:V->Hp->Prop),DP H a->(∀x o j c,a x=Γ->a j=Γ->DP a c->Es c C x o j r 0 Γ [] []->N (.ref x) c)->g (.int r) σ0 a λp c=>te p c N)
  (F:∀D q a,DP H a->a D=Γ->Paired (FR H a C) q (Ei.map tY)->Q (.ref D) (π a D (.ρ q))):e9 (U2 K ro) g pR te σ0 Q H:=by
 refine bQ Ei.length B (λi acc d=>DP H d/\Paired (FR H d C) acc ((Ei.take i).map tY)) ⟨DP.refl _,.nil⟩ (λi acc d h=>by have:=Paired.length h.2;rw[this,Ο];exact Ą _ _) (λi acc d G h=>?_) (λacc d h=>?_)
 ·obtain⟨s,l⟩:=h
  refine⟨⟨Ei,Ei[i],bK s m,by simp[G]⟩,λv c y=>?_⟩
  obtain⟨e,y⟩:=y
  subst e
  have t:=y _ (bK s m)
  obtain⟨r,rfl⟩:=f v (Ϗ t)
  refine E r c (λy u=>DP H u/\Paired (FR H u C) (acc++[y]) ((Ei.take (i+1)).map tY)) s λx o j M nx I A J=>⟨s.trans A,?_⟩
  rw[ß,t,K2,ϯ]
  exact Paired.snoc (b:=tY (.int r)) ⟨x,o,j,Λ,J,Λ,s.free nx,s.free I⟩ (Paired.mono (λ_ _ z=>z.same A) l)
 ·obtain⟨s,l⟩:=h
  rw[Þ]at l
  exact⟨⟨Ei,bK s m,Ξ _⟩,λD L=>F D acc d s L l⟩
theorem v9(x:n<=1000)
  (m:∀(i:Nat)(a:Hp)(N:V->Hp->Prop),DP H a->(∀t,a t=Γ->N (.ref t) (π a t (.tup [])))->g (.int (0+i)) σ0 a λd c=>te d c N)
  (o:∀D f a,DP H a->a D=Γ->Paired (F6 a) f (Ϫ n [])->Q (.ref D) (π a D (.ρ f))):e9 (Bh 0 n) g pR te σ0 Q H:=by
 refine bQ n (by rw[ϗ];omega) (λi acc b=>DP H b/\Paired (F6 b) acc (Ϫ i [])) ⟨DP.refl _,.nil⟩ (λi acc b h=>by have:=Paired.length h.2;rw[this,é];exact Ξ _) (λi acc b p h=>?_) (λacc b h=>?_)
 ·obtain⟨s,e⟩:=h
  refine⟨p,λv c y=>?_⟩
  obtain⟨q,r⟩:=y
  subst q r
  refine m i c (λy j=>DP H j/\Paired (F6 j) (acc++[y]) (Ϫ (i+1) [])) s λt l=>⟨s.new l,?_⟩
  rw[HK]
  exact Paired.snoc ⟨t,[],Λ,ac,.nil⟩ (Paired.mono (λ_ _ z=>z.keep (DP.Ed ((DP.refl c).new l))) e)
 ·obtain⟨s,e⟩:=h
  exact⟨Ξ n,λD u=>o D acc b s u e⟩
theorem fE{fs:Fs}(b:H y=Β (.ς C d fs))(h:DY K H a xs):DY K (π H y o) a xs:=by
 rcases h with h|h
 ·refine .inl ?_
  rcases h with h|⟨u,h⟩
  ·exact .inl (by rw[af (aT h b (by intro z;cases z))];exact h)
  ·exact .inr ⟨u,by rw[af (aT h b (by intro z;cases z))];exact h⟩
 ·exact .inr h
theorem zj{fs:Fs}(b:H y=Β (.ς C d fs))(h:DS K H a xs):DS K (π H y o) a xs:=by
 rcases h with h|h
 ·refine .inl ?_
  rcases h with h|⟨u,h⟩
  ·exact .inl (by rw[af (aT h b (by intro z;cases z))];exact h)
  ·exact .inr ⟨u,by rw[af (aT h b (by intro z;cases z))];exact h⟩
 ·exact .inr h
inductive kN(K:ϣ)(c:Cs)(TC:Ν)(J:TJ)(ys:Ys)(vs:List V)(H:Hp)(Q:VK)(E:XK):Prop
 |mk (y dy tb lx Eh lt:Ν) (n:Nat) (DX:List V) (ps:List (Int×Int)) (wy:Wf) (rv:V) (Ei:List V) (_:vs=[.ref y,.ref tb,rv]) (_:H y=Β (.ς ys.DR dy [])) (_:EL c TC J H tb lx Eh lt n DX ps wy) (_:(∀b∈ys.ex,∃xs,H b=Β (.ρ xs))) (_:((rv=.Eg/\Ei=Ϫ ps.length (.int 1))∨(∃ra,rv=.ref ra/\Sq K H ra Ei/\Ei.length<=1000/\(∀v∈Ei,vF v)/\(l5 ps.length Ei=Ε->False)))) (_:(l5 ps.length Ei=Δ->∀(ro la le li dn:Ν)(H':Hp),Ee [y] H H'->H la=Γ->H le=Γ->H li=Γ->H dn=Γ->Ec K ys H' y dy tb ro la le li dn (Y0 Ei n)->Q .Eg H'))
noncomputable def QQ(s:Ã):Scope:=match s with
 |.Assign _ (.ListComp _ _ sc _) _=>sc
 |_=>zQ0
theorem iS(h:mX v a b=Δ):∃r,v=.int r:=by
 cases v<;>first|exact⟨_,Λ⟩|cases h
theorem Xu:ar ["self","table","rooms"] ["self","table","rooms"] (aj jr):=L2.Ez
theorem QR:EV ["self","table","rooms"] (aj jr) (QQ ((aJ jr).getD 2 (.Pass ⟨0,0,0,0⟩))) [] []:=L2.FH
theorem QS:EV ["self","table","rooms"] (aj jr) (QQ ((aJ jr).getD 4 (.Pass ⟨0,0,0,0⟩))) [] []:=L2.FH
theorem QT:(["place"]:List Str).Nodup:=by decide +kernel
theorem C3(F:Jr K "__init__" "Yard.__init__" jr f fd)(T:eK mg)(L:rp K c)(Y:jo K ys)(W:Wy K TC Mr Ms J)
  (mr:mg "rooms_of"=Β (.ref fr)) (kr:ϳ K (.ref fr)=Δ) (br:Binds K dr ["land","rooms"] []) (Gr:DQ P w K mg ν aB 3 fr dr ["land","rooms"] (tm K c))
  (ml:mg "Lane"=Β (.ref ys.Ek)) (Ml:Mk K ys.Ek fl) (bl:Binds K dl ["self","room"] []) (Gl:DQ P w K mg ν aB 1 fl dl ["self","room"] (wA ys.Ek)):
  DQ P w K mg ν aB 4 f fd ["self","table","rooms"] (kN K c TC J ys):=by
 refine F.ok Xu λ_ _ _ s H _ Q E hr h=>?_
 obtain⟨y,j,m,lx,Eh,lt,n,DX,ps,wy,rv,G,rfl,hy,hT,hex,hrv,q⟩:=h
 have Mu:∀b∈ys.ex,b∉[y]:=λb R z=>by obtain⟨xs,hz⟩:=hex b R;rw[Φ.mp z,hy]at hz;cases hz
 have F3:DZ 2 _:=hr.mono (by decide)
 refine⟨_,ae (bu (pv 0) (pv 1) Λ)
  (ae (bu (pv 0) (oQ (aq Gr hr Λ mr kr br .nil ao (aa (ap (pv 1) Λ) (aa (pv 2) ad)))) Λ)
  (ae (bu (pv 0) (b5 (own:=["room"]) (capN:=[]) (cap:=[]) QR Λ (ju (ap (pv 0) Λ)) (λC s' H' fp=>⟨ax (i:=0) QK Λ (ύ Λ),bX,eI Ml Gl F3 Λ ml bl .nil ao (aa (pv 0) ad)⟩)) Λ)
  (ae (bu (pv 0) (aW ad) Λ)
  (ae (bu (pv 0) (b5 (own:=["place"]) (capN:=[]) (cap:=[]) QS Λ (bL Λ T.range (aa (ap (ap (pv 1) Λ) Λ) ad)) (λC s' H' fp=>⟨ax (i:=0) QT Λ (ύ Λ),bX,bq ad⟩)) Λ)
  (ah (bu (pv 0) (aW ad) Λ)))))),?_⟩
 have hm40:=hT.E4
 have Xv:=hT.JL
 obtain⟨Jy,fst,Jd,Fg,_⟩:=hT.i
 have kp:∀{H':Hp},Ee [y] H H'->E5 H H':=λo=>o.Mp λb R=>by rw[Φ.mp R];exact⟨_,hy,id⟩
 have Xw:=aT Jd hy (λz=>by injection z with _ _ z3;rw[z3]at Fg;cases Fg)
 refine⟨y,ys.DR,j,_,Λ,hy,Y.cl,Y.n1,by show 0<1000;decide,?_⟩
 have o1:Ee [y] H (π H y (.ς ys.DR j (aP "table" (.ref m) []))):=λb o nb e=>by rw[af (λz=>nb (by rw[z];exact Φ.mpr Λ))];exact e
 have g1:(π H y (.ς ys.DR j (aP "table" (.ref m) []))) y=Β (.ς ys.DR j [("table",.ref m)]):=ac
 have sq1:∀ra,Sq K H ra G->Sq K (π H y (.ς ys.DR j (aP "table" (.ref m) []))) ra G:=λra h=>h.elim (λh =>.inl (zj hy h)) λh =>.inr (fE hy h)
 generalize π H y (.ς ys.DR j (aP "table" (.ref m) []))=A1 at o1 g1 sq1⊢
 have hT1:=hT.keep W (kp o1)
 have OF:∀{Ha Hb:Hp}{o:HO},Ee [y] Ha Hb->Ee [y] Ha (π Hb y o):=λ{Ha Hb o} h b u nb e=>by rw[af (λz=>nb (by rw[z];exact Φ.mpr Λ))];exact h b u nb e
 refine⟨λv S=>∃p,v=.ref p/\DP A1 S/\DY K S p G/\l5 ps.length G=Δ,?_,?_⟩
 ·refine⟨m,TC,Jy,fst,_,Λ,o1 _ _ (λz=>Xw (Φ.mp z)) Jd,W.cl,W.nl,Fg,lx,Eh,lt,(n:Int),DX,ps,rv,Λ,hT1.l,by omega,?_⟩
  rcases hrv with ⟨rfl,rfl⟩|⟨ra,rfl,hR,HA,QL,qE⟩
  ·refine .inl ⟨Λ,λt S s2 ht=>⟨t,Λ,s2,DY.of ht,?_⟩⟩
   unfold l5
   rw[é,Ζ Λ,Ě,ĭ]
   intro v hv
   rw[Ġ hv];rfl
  ·have hR1:=sq1 ra hR
   exact .inr ⟨ra,G,Λ,hR1,HA,QL,qE,λDW t S s2 ht=>⟨t,Λ,s2,ht,DW⟩⟩
 rintro v S ⟨p,rfl,s2,Mq,DW⟩
 have FY:G.length=ps.length/\∀v∈G,∃r,v=.int r:=by
  unfold l5 at DW
  rw[Ö,decide_eq_true_eq,ĭ]at DW
  exact⟨DW.1,λv hv=>iS (DW.2 v hv)⟩
 have o2:=o1.trans (DP.EA s2)
 have g2:=s2 _ _ g1
 refine⟨y,ys.DR,j,_,Λ,g2,Y.cl,Y.n2,by show 1<1000;decide,?_⟩
 have o3:=OF (o:=.ς ys.DR j (aP "rooms" (.ref p) [("table",.ref m)])) o2
 have g3:(π S y (.ς ys.DR j (aP "rooms" (.ref p) [("table",.ref m)]))) y=Β (.ς ys.DR j [("table",.ref m),("rooms",.ref p)]):=ac
 have L4:DY K (π S y (.ς ys.DR j (aP "rooms" (.ref p) [("table",.ref m)]))) p G:=fE g2 Mq
 generalize π S y (.ς ys.DR j (aP "rooms" (.ref p) [("table",.ref m)]))=A3 at o3 g3 L4⊢
 have Xx:∀b∈ys.ex,∃o,A3 b=Β o:=λb R=>let ⟨xs,hz⟩:=hex b R;⟨_,o3 b _ (Mu b R) hz⟩
 refine⟨y,ys.DR,j,_,_,Λ,g3,Y.cl,Y.n2,Λ,p,Λ,⟨_,L4⟩,?_⟩
 refine sN (C:=ys.Ek) (by rw[ϗ];omega) L4 FY.2 (λr B N sB hN=>?_) (λg D U s4 M HP=>?_)
 ·refine(λx dx nx QU Mu=>⟨x,dx,r,Λ,ac,λpa B2 Jv off hL=>⟨Λ,?_⟩⟩)
  have HM:B pa=Γ:=by
   by_cases e1:pa=x
   ·rw[e1,ac]at Jv;cases Jv
   ·by_cases e2:pa=dx
    ·rw[e2,af Mu,ac]at Jv;cases Jv
    ·rw[af e1,af e2]at Jv;exact Jv
  refine hN x dx pa B2 nx HM (λb o e=>off b o (ag e nx) ?_) hL
  rw[af (ag e nx),af (ag e QU)]
  exact e
 have o4:=o3.trans (DP.EA s4)
 have g4:=s4 _ _ g3
 have L5:=ϛ (ag g4 M)
 have Xy:H g=Γ:=by
  cases e:H g with
  |none=>rfl
  |some u=>rw[o4 _ _ (λz=>L5 (Φ.mp z)) e]at M;cases M
 have hX5:Paired (E7 y (g:: ys.ex) (π U g (.ρ D)) ys.Ek) D (G.map tY):=Paired.mono (λ_ _ z=>(z.QO g3 Xx).new M) HP
 have o5:Ee [y] H (π U g (.ρ D)):=o4.trans (DP.EA ((DP.refl U).new M))
 have g5:(π U g (.ρ D)) y=Β (.ς ys.DR j [("table",.ref m),("rooms",.ref p)]):=by rw[af (ϛ L5)];exact g4
 have QV:(π U g (.ρ D)) g=Β (.ρ D):=ac
 have QW:DY K (π U g (.ρ D)) p G:=bK ((DP.refl U).new M) (bK s4 L4)
 refine⟨y,ys.DR,j,_,Λ,g5,Y.cl,Y.n3,by show 2<1000;decide,?_⟩
 generalize π U g (.ρ D)=A5 at hX5 o5 g5 QV QW⊢
 have hX6:Paired (E7 y (g:: ys.ex) (π A5 y (.ς ys.DR j (aP "lanes" (.ref g) [("table",.ref m),("rooms",.ref p)]))) ys.Ek) D (G.map tY):=Paired.mono (λ_ _ z=>z.π) hX5
 have o6:=OF (o:=.ς ys.DR j (aP "lanes" (.ref g) [("table",.ref m),("rooms",.ref p)])) o5
 have g6:(π A5 y (.ς ys.DR j (aP "lanes" (.ref g) [("table",.ref m),("rooms",.ref p)]))) y=Β (.ς ys.DR j [("table",.ref m),("rooms",.ref p),("lanes",.ref g)]):=ac
 have Nw:(π A5 y (.ς ys.DR j (aP "lanes" (.ref g) [("table",.ref m),("rooms",.ref p)]))) g=Β (.ρ D):=by rw[af L5];exact QV
 have QX:=fE (o:=.ς ys.DR j (aP "lanes" (.ref g) [("table",.ref m),("rooms",.ref p)])) g5 QW
 generalize π A5 y (.ς ys.DR j (aP "lanes" (.ref g) [("table",.ref m),("rooms",.ref p)]))=X at hX6 o6 g6 Nw QX⊢
 refine⟨Ϧ _,λle I=>?_⟩
 have Mw:=ϛ (ag g6 I)
 have Mx:=ag Nw I
 have QY:H le=Γ:=by
  cases e:H le with
  |none=>rfl
  |some u=>rw[o6 _ _ (λz=>Mw (Φ.mp z)) e]at I;cases I
 have hX7:Paired (E7 y (le:: g:: ys.ex) (π X le (.ρ [])) ys.Ek) D (G.map tY):=Paired.mono (λ_ _ z=>z.new I) hX6
 have o7:Ee [y] H (π X le (.ρ [])):=o6.trans (DP.EA ((DP.refl X).new I))
 have g7:(π X le (.ρ [])) y=Β (.ς ys.DR j [("table",.ref m),("rooms",.ref p),("lanes",.ref g)]):=by rw[af (ϛ Mw)];exact g6
 have QZ:(π X le (.ρ [])) g=Β (.ρ D):=by rw[af Mx];exact Nw
 have Ra:(π X le (.ρ [])) le=Β (.ρ []):=ac
 have Rb:DY K (π X le (.ρ [])) p G:=bK ((DP.refl X).new I) QX
 refine⟨y,ys.DR,j,_,Λ,g7,Y.cl,Y.n4,by show 3<1000;decide,?_⟩
 generalize π X le (.ρ [])=A7 at hX7 o7 g7 QZ Ra Rb⊢
 have hX8:Paired (E7 y (le:: g:: ys.ex) (π A7 y (.ς ys.DR j (aP "letters" (.ref le) [("table",.ref m),("rooms",.ref p),("lanes",.ref g)]))) ys.Ek) D (G.map tY):=Paired.mono (λ_ _ z=>z.π) hX7
 have o8:=OF (o:=.ς ys.DR j (aP "letters" (.ref le) [("table",.ref m),("rooms",.ref p),("lanes",.ref g)])) o7
 have g8:(π A7 y (.ς ys.DR j (aP "letters" (.ref le) [("table",.ref m),("rooms",.ref p),("lanes",.ref g)]))) y=Β (.ς ys.DR j [("table",.ref m),("rooms",.ref p),("lanes",.ref g),("letters",.ref le)]):=ac
 have Ny:(π A7 y (.ς ys.DR j (aP "letters" (.ref le) [("table",.ref m),("rooms",.ref p),("lanes",.ref g)]))) g=Β (.ρ D):=by rw[af L5];exact QZ
 have Nz:(π A7 y (.ς ys.DR j (aP "letters" (.ref le) [("table",.ref m),("rooms",.ref p),("lanes",.ref g)]))) le=Β (.ρ []):=by rw[af Mw];exact Ra
 have Rc:=fE (o:=.ς ys.DR j (aP "letters" (.ref le) [("table",.ref m),("rooms",.ref p),("lanes",.ref g)])) g7 Rb
 generalize π A7 y (.ς ys.DR j (aP "letters" (.ref le) [("table",.ref m),("rooms",.ref p),("lanes",.ref g)]))=A8 at hX8 o8 g8 Ny Nz Rc⊢
 have hT8:=hT.keep W (kp o8)
 refine⟨m,TC,Jy,fst,_,Λ,o8 _ _ (λz=>Xw (Φ.mp z)) Jd,W.cl,W.nl,Fg,lx,c.land,Eh,_,_,Λ,hT8.l.1,L.cl,L.np,Λ,(n:Int),Λ,by omega,by omega,?_⟩
 rw[ϋ]
 refine v9 (by omega) (λi B N sB hN=>⟨Ϧ _,λt ht=>hN t ht⟩) (λA O A9 Z FQ hLi=>?_)
 have g9:=Z _ _ g8
 have o9:Ee [y] H A9:=o8.trans (DP.EA Z)
 have OG:A≠y:=ϛ (ag g9 FQ)
 have Rf:g≠A:=ag (Z _ _ Ny) FQ
 have Rg:le≠A:=ag (Z _ _ Nz) FQ
 have N0:H A=Γ:=by
  cases e:H A with
  |none=>rfl
  |some u=>rw[o9 _ _ (λz=>OG (Φ.mp z)) e]at FQ;cases FQ
 have OH:=(DP.refl A9).new (o:=.ρ O) FQ
 have Rh:Paired (E7 y (A:: le:: g:: ys.ex) (π A9 A (.ρ O)) ys.Ek) D (G.map tY):=Paired.mono (λ_ _ z=>(z.same Z).new FQ) hX8
 have Mz:Paired (F6 (π A9 A (.ρ O))) O (Ϫ n []):=Paired.mono (λ_ _ z=>z.keep (DP.Ed OH)) hLi
 have M0:(π A9 A (.ρ O)) A=Β (.ρ O):=ac
 have o10:Ee [y] H (π A9 A (.ρ O)):=o9.trans (DP.EA OH)
 have UT:=OH _ _ g9
 have M1:=OH _ _ (Z _ _ Ny)
 have M3:=OH _ _ (Z _ _ Nz)
 have M4:=bK OH (bK Z Rc)
 refine⟨y,ys.DR,j,_,Λ,UT,Y.cl,Y.n5,by show 4<1000;decide,?_⟩
 generalize π A9 A (.ρ O)=N1 at Rh Mz M0 o10 UT M1 M3 M4⊢
 have Ri:∀{B:Hp}{o:HO}{C d:Ν}{fs:Fs}{v:V}{qs:List (Int×Int)},B y=Β (.ς C d fs)->F6 B v qs->F6 (π B y o) v qs:=λ{B o C d fs v qs} hB h=>by
  obtain⟨t,ws,e,h1,h2⟩:=h
  exact⟨t,ws,e,by rw[af (aT h1 hB (by intro z;cases z))];exact h1,Eu.imp (λ_ _ DT=>by obtain⟨t',e',q'⟩:=DT;exact⟨t',e',by rw[af (aT q' hB (by intro z;cases z))];exact q'⟩) h2⟩
 have Rj:Paired (E7 y (A:: le:: g:: ys.ex) (π N1 y (.ς ys.DR j (aP "lies" (.ref A) [("table",.ref m),("rooms",.ref p),("lanes",.ref g),("letters",.ref le)]))) ys.Ek) D (G.map tY):=Paired.mono (λ_ _ z=>z.π) Rh
 have M5:Paired (F6 (π N1 y (.ς ys.DR j (aP "lies" (.ref A) [("table",.ref m),("rooms",.ref p),("lanes",.ref g),("letters",.ref le)])))) O (Ϫ n []):=Paired.mono (λ_ _ z=>Ri UT z) Mz
 have UU:=OF (o:=.ς ys.DR j (aP "lies" (.ref A) [("table",.ref m),("rooms",.ref p),("lanes",.ref g),("letters",.ref le)])) o10
 have Xz:(π N1 y (.ς ys.DR j (aP "lies" (.ref A) [("table",.ref m),("rooms",.ref p),("lanes",.ref g),("letters",.ref le)]))) y=Β (.ς ys.DR j [("table",.ref m),("rooms",.ref p),("lanes",.ref g),("letters",.ref le),("lies",.ref A)]):=ac
 have Kl:(π N1 y (.ς ys.DR j (aP "lies" (.ref A) [("table",.ref m),("rooms",.ref p),("lanes",.ref g),("letters",.ref le)]))) g=Β (.ρ D):=by rw[af L5];exact M1
 have Km:(π N1 y (.ς ys.DR j (aP "lies" (.ref A) [("table",.ref m),("rooms",.ref p),("lanes",.ref g),("letters",.ref le)]))) le=Β (.ρ []):=by rw[af Mw];exact M3
 have Ko:(π N1 y (.ς ys.DR j (aP "lies" (.ref A) [("table",.ref m),("rooms",.ref p),("lanes",.ref g),("letters",.ref le)]))) A=Β (.ρ O):=by rw[af OG];exact M0
 have M6:=fE (o:=.ς ys.DR j (aP "lies" (.ref A) [("table",.ref m),("rooms",.ref p),("lanes",.ref g),("letters",.ref le)])) UT M4
 generalize π N1 y (.ς ys.DR j (aP "lies" (.ref A) [("table",.ref m),("rooms",.ref p),("lanes",.ref g),("letters",.ref le)]))=A11 at Rj M5 UU Xz Kl Km Ko M6⊢
 refine⟨Ϧ _,λdn Fw=>?_⟩
 have OI:dn≠y:=ϛ (ag Xz Fw)
 have Rl:g≠dn:=ag Kl Fw
 have Rm:le≠dn:=ag Km Fw
 have Rn:A≠dn:=ag Ko Fw
 have X0:H dn=Γ:=by
  cases e:H dn with
  |none=>rfl
  |some u=>rw[UU _ _ (λz=>OI (Φ.mp z)) e]at Fw;cases Fw
 have M7:=(DP.refl A11).new (o:=.ρ []) Fw
 have X1:=M7 _ _ Xz
 refine⟨y,ys.DR,j,_,Λ,X1,Y.cl,Y.n6,by show 5<1000;decide,?_⟩
 refine q DW p g le A dn _ (OF (UU.trans (DP.EA M7))) Xy QY N0 X0 ⟨ac,fE X1 (bK M7 M6),⟨D,by rw[af L5];exact M7 _ _ Kl,?_⟩,⟨[],by rw[af Mw];exact M7 _ _ Km,.nil⟩,⟨O,by rw[af OG];exact M7 _ _ Ko,Paired.mono (λ_ _ z=>Ri X1 (z.keep (DP.Ed M7))) M5⟩,⟨[],by rw[af OI];exact ac,.nil⟩,?_,(λb R=>let ⟨xs,hz⟩:=hex b R;⟨xs,(OF (UU.trans (DP.EA M7))) b _ (Mu b R) hz⟩)⟩
 ·refine Paired.mono (λ_ _ z=>((z.new Fw).π).QP λa ha=>?_) Rj
  simp only[Ϯ]at ha⊢
  rcases ha with rfl|rfl|rfl|rfl|h
  ·exact .inr (.inr (.inr (.inl Λ)))
  ·exact .inr (.inr (.inl Λ))
  ·exact .inr (.inl Λ)
  ·exact .inl Λ
  ·exact .inr (.inr (.inr (.inr h)))
 ·simp only[ë,Ϯ,É,or_false,not_or,not_false_eq_true,and_true,ä]
  exact⟨⟨Mx,Rf,Rl⟩,⟨Rg,Rm⟩,Rn⟩
theorem Ec.off(h:Ec K ys H y dy tb ro c le li dn s)(o:Ee (c:: le:: li:: dn:: ys.ex) H H'):H' y=Β (.ς ys.DR dy (rq tb ro c le li dn))/\DY K H' ro s.rooms/\(∀a b,Paired (G8 H ys.Ek (c:: le:: li:: dn:: ys.ex)) a b->Paired (G8 H' ys.Ek (c:: le:: li:: dn:: ys.ex)) a b)/\(∀a b,Paired (Hs H ys.DU (c:: le:: li:: dn:: ys.ex)) a b->Paired (Hs H' ys.DU (c:: le:: li:: dn:: ys.ex)) a b)/\(∀a b,Paired (F6 H) a b->Paired (F6 H') a b)/\∀a b,Paired (EY H) a b->Paired (EY H') a b:=by
 have d:=h.HN
 have k:=o.Ed d
 refine⟨k _ _ h.ς À,?_,λa b=>Paired.mono λ_ _ z=>z.EA d o,λa b=>Paired.mono λ_ _ z=>z.EA d o,λa b=>Paired.mono λ_ _ z=>z.keep k,λa b=>Paired.mono λ_ _ z=>z.keep k⟩
 rcases h.Mq with r|r
 ·refine .inl ?_
  rcases r with r|⟨u,r⟩
  ·exact .inl (k _ _ r À)
  ·exact .inr ⟨u,k _ _ r À⟩
 ·exact .inr r
theorem dD(c:a∈ex):Ee ex H (π H a o):=λb u d e=>by rw[af (λz=>d (by rw[z];exact c))];exact e
theorem uo(h:∃xs,H b=Β (.ρ xs)):∃xs,(π H x (.ρ zs)) b=Β (.ρ xs):=by
 by_cases e:b=x
 ·exact⟨zs,by rw[e,ac]⟩
 ·obtain⟨xs,a⟩:=h
  exact⟨xs,by rw[af e];exact a⟩
theorem Ec.Rp(h:Ec K ys H y dy tb ro c le li dn s)(f:H le=Β (.ρ vs))(g:Hs H ys.DU (c:: le:: li:: dn:: ys.ex) v t):Ec K ys (π H le (.ρ (vs++[v]))) y dy tb ro c le li dn {s with U:=s.U++[t]}:=by
 obtain⟨i,j,l,d,m,p⟩:=h.off (dD (a:=le) (o:=.ρ (vs++[v])) (by simp))
 obtain⟨q,r,u⟩:=h.χ
 obtain⟨J,e,x⟩:=h.ω
 obtain⟨A,B,C⟩:=h.FQ
 obtain⟨D,E,F⟩:=h.Fw
 rw[f]at e
 cases e
 have ne:=h.ne
 simp only[ë,Ϯ,É,or_false,not_or,not_false_eq_true,and_true,ä]at ne
 have G:=d [v] [t] (.cons g .nil)
 exact⟨i,j,⟨q,by rw[af ne.1.1];exact r,l _ _ u⟩,⟨vs++[v],ac,Paired.snoc (by cases G with|cons z _=>exact z) (d _ _ x)⟩,⟨A,by rw[af (ϛ ne.2.1.1)];exact B,m _ _ C⟩,⟨D,by rw[af (ϛ ne.2.1.2)];exact E,p _ _ F⟩,h.ne,λb I=>uo (h.hex b I)⟩
theorem Ec.M8(h:Ec K ys H y dy tb ro la le li dn s)(e:H dn=Β (.ρ vs))(f:EY H v t):Ec K ys (π H dn (.ρ (vs++[v]))) y dy tb ro la le li dn {s with done:=s.done++[t]}:=by
 obtain⟨g,i,j,l,m,c⟩:=h.off (dD (a:=dn) (o:=.ρ (vs++[v])) (by simp))
 obtain⟨p,q,r⟩:=h.χ
 obtain⟨u,x,A⟩:=h.ω
 obtain⟨B,C,D⟩:=h.FQ
 obtain⟨I,d,E⟩:=h.Fw
 rw[e]at d
 cases d
 have ne:=h.ne
 simp only[ë,Ϯ,É,or_false,not_or,not_false_eq_true,and_true,ä]at ne
 have F:=c [v] [t] (.cons f .nil)
 exact⟨g,i,⟨p,by rw[af ne.1.2.2];exact q,j _ _ r⟩,⟨u,by rw[af ne.2.1.2];exact x,l _ _ A⟩,⟨B,by rw[af ne.2.2];exact C,m _ _ D⟩,⟨vs++[v],ac,Paired.snoc (by cases F with|cons z _=>exact z) (c _ _ E)⟩,h.ne,λb G=>uo (h.hex b G)⟩
inductive Pd
 |place|length|word|Α|full|good
noncomputable def oS(n:Nat)(wy:Wf)(m:Nat)(sv gv lv wv:V):Pd:=
 if (mX sv 0 ((n:Int) - 1)&& mX gv 0 ((n:Int) - 1))=Ε then .place else if mX lv 1 60=Ε then .length else if OE wv=Ε then .word
 else if vI sv=vI gv∨wy (vI sv).toNat (vI gv).toNat Γ=[] then .Α else if 60<=m then .full else .good
noncomputable def eE(s:YS)(a b l u:Int):YS:={s with U:=s.U++[⟨a,b,l,u,0,[]⟩],done:=s.done++[[.str "post",.int a,.int b,.int l,.int u]]}
inductive rG(K:ϣ)(c:Cs)(TC:Ν)(J:TJ)(ys:Ys)(vs:List V)(H:Hp)(Q:VK)(E:XK):Prop
 |mk (y dy tb ro la le li dn lx Eh lt:Ν) (n:Nat) (DX:List V) (ps:List (Int×Int)) (wy:Wf) (s:YS) (sv gv lv wv:V) (_:vs=[.ref y,sv,gv,lv,wv]) (_:Ec K ys H y dy tb ro la le li dn s) (_:EL c TC J H tb lx Eh lt n DX ps wy) (_:vF sv) (_:vF gv) (_:vF lv) (_:vF wv) (_:s.U.length<=900) (_:s.done.length<=10000) (_:(oS n wy s.U.length sv gv lv wv=.place->False)) (_:(oS n wy s.U.length sv gv lv wv=.length->False)) (_:(oS n wy s.U.length sv gv lv wv=.word->False)) (_:(oS n wy s.U.length sv gv lv wv=.Α->False)) (_:(oS n wy s.U.length sv gv lv wv=.full->False)) (_:(oS n wy s.U.length sv gv lv wv=.good->∀H',Ee [le,dn] H H'->Ec K ys H' y dy tb ro la le li dn (eE s (vI sv) (vI gv) (vI lv) (vI wv))->Q (.int s.U.length) H'))
abbrev NPo:List Str:=["self","start","goal","length","word","last_place"]
abbrev Rq:List Str:=["self","start","goal","length","word"]
theorem Rr:ar NPo Rq (aj iH):=L2.Ez
theorem zS(F:Jr K "post" "Yard.post" iH f fd)(T:eK mg)(L:rp K c)(Y:jo K ys)(W:Wy K TC Mr Ms J)(N2:DQ P w K mg ν aB 3 Mr Ms ["self","place","goal","came"] (iA J))
  (mw:mg "is_within"=Β (.ref fw)) (kw:ϳ K (.ref fw)=Δ) (bw:Binds K dw ["value","least","most"] []) (Gw:DQ P w K mg ν aB 2 fw dw ["value","least","most"] gH)
  (mwo:mg "is_word"=Β (.ref X3)) (kwo:ϳ K (.ref X3)=Δ) (bwo:Binds K dwo ["word"] []) (X4:DQ P w K mg ν aB 2 X3 dwo ["word"] wc)
  (ml:mg "Letter"=Β (.ref ys.DU)) (Ml:Mk K ys.DU fl) (bl:Binds K dl ["self","start","goal","length","word"] []) (Gl:DQ P w K mg ν aB 1 fl dl ["self","start","goal","length","word"] (wz ys.DU))
  (mL:mg "MOST_LENGTH"=Β (.int 60 t1)) (mM:mg "MOST_LETTERS"=Β (.int 60 t2)):
  DQ P w K mg ν aB 4 f fd Rq (rG K c TC J ys):=by
 refine F.ok Rr λ_ _ _ s H _ Q E hr h=>?_
 obtain⟨y,p,tb,ro,la,le,li,dn,lx,Eh,lt,n,DX,ps,wy,B,sv,gv,lv,Z,rfl,hY,hT,cs,cg,cl,cw,hl9,hd9,e1,e2,e3,r,g,q⟩:=h
 have C:DZ 2 _:=hr.mono (by decide)
 refine⟨_,ae (av (i:=5) Rr.nd Λ (ύ Λ) (aC dX (ap (ap (ap (pv 0) Λ) Λ) Λ) ai))
  (ae (aO (PW.pt (gc (cE (bH (aq Gw C Λ mw kw bw .nil ao (aa (pv 1) (aa ai (aa (pv 5) ad)))))) (ga (cE (bH (aq Gw C Λ mw kw bw .nil ao (aa (pv 2) (aa ai (aa (pv 5) ad)))))))))
   (ah ce) aE)
  (ae (aO (cE (bH (aq Gw C Λ mw kw bw .nil ao (aa (pv 3) (aa ai (aa (gI (v:=.int 60) Λ mL ⟨_,Λ⟩) ad))))))
   (ah ce) aE)
  (ae (aO (cE (bH (aq X4 C Λ mwo kwo bwo .nil ao (aa (pv 4) ad))))
   (ah ce) aE)
  (ae (aO (fG (PW.pt (gc (az bT (pv 1) (pv 2) (aA _)) (ga (cE (iO (aI (ap (pv 0) Λ) W.cl W.m N2 hr W.b .nil ao (aa (pv 1) (aa (pv 2) (aa cz ad)))) (λ_=>rfl)))))))
   (ah ce) aE)
  (ae (aO (az tP (ay aw Λ T.len PySem.boot_len (aa (ap (pv 0) Λ) ad)) (gI (v:=.int 60) Λ mM ⟨_,Λ⟩) (aA _))
   (ah ce) aE)
  (ae (aM (c8 plainAttrs_list PySem.F.slot_list_append PySem.F.type_list_append bD (ap (pv 0) Λ) (aa (eI Ml Gl C Λ ml bl .nil ao (aa (pv 1) (aa (pv 2) (aa (pv 3) (aa (pv 4) ad))))) ad)))
  (ae (aM (c8 plainAttrs_list PySem.F.slot_list_append PySem.F.type_list_append bD (ap (pv 0) Λ) (aa (bq (aa bR (aa (pv 1) (aa (pv 2) (aa (pv 3) (aa (pv 4) ad)))))) ad)))
  (ah (au (aC dX (ay aw Λ T.len PySem.boot_len (aa (ap (pv 0) Λ) ad)) ai)))))))))),?_⟩
 obtain⟨Jy,G,Jd,Fg,GA⟩:=hT.i
 unfold oS at e1 e2 e3 r g q
 refine⟨y,ys.DR,p,_,_,Λ,hY.ς,Y.cl,Y.n1,Λ,tb,TC,Jy,G,_,Λ,Jd,W.cl,W.nl,Fg,lx,c.land,Eh,_,_,Λ,hT.l.1,L.cl,L.np,Λ,_,_,Λ,Λ,sv,0,(n:Int) - 1,Λ,cs,_,Λ,?_⟩
 cases I:mX sv 0 ((n:Int) - 1) with
 | false =>
  exact aK (aK (e1 (by rw[I,Bool.false_and,Ι Λ])))
 |true =>
 refine aG ⟨gv,0,(n:Int) - 1,Λ,cg,_,Λ,?_⟩
 cases h2:mX gv 0 ((n:Int) - 1) with
 | false =>
  exact aK (e1 (by rw[I,h2,Bool.and_false,Ι Λ]))
 |true =>
 rw[I,h2,Ě,Θ (by decide)]at e2 e3 r g q
 refine aG ⟨lv,1,60,Λ,cl,_,Λ,?_⟩
 cases h3:mX lv 1 60 with
 | false =>
  exact aK (e2 (by rw[h3,Ι Λ]))
 |true =>
 rw[h3,Θ (by decide)]at e3 r g q
 refine aG ⟨Z,Λ,cw,_,Λ,?_⟩
 cases h4:OE Z with
 | false =>
  exact aK (e3 (by rw[h4,Ι Λ]))
 |true =>
 rw[h4,Θ (by decide)]at r g q
 refine aG ?_
 obtain⟨a,rfl⟩:=iS I
 obtain⟨b,rfl⟩:=iS h2
 obtain⟨l,rfl⟩:=iS h3
 obtain⟨u,rfl⟩:∃u,Z=.int u:=by
  cases Z<;>first|exact⟨_,Λ⟩|cases h4
 have ha:=of_decide_eq_true I
 have hb:=of_decide_eq_true h2
 obtain⟨d,rfl⟩:∃d:Nat,a=(d:Int):=⟨a.toNat,by omega⟩
 obtain⟨e,rfl⟩:∃e:Nat,b=(e:Int):=⟨b.toNat,by omega⟩
 have ev:∀z:Int,vI (.int z)=z:=λ_=>rfl
 rw[ev,ev,ϋ,ϋ]at r g q
 refine⟨λk M=>DP H M/\k=decide ((d:Int)=(e:Int)∨wy d e Γ=[]),?_,?_⟩
 ·refine⟨Λ,_,Λ,?_⟩
  rw[bZ]
  by_cases Kj:(d:Int)=(e:Int)
  ·rw[Ζ Kj]
   exact aK ⟨DP.refl H,by rw[Ζ (ύ Kj)]⟩
  ·rw[Η Kj]
   refine aG ⟨y,ys.DR,p,_,_,Λ,hY.ς,Y.cl,Y.n1,Λ,tb,Jy,G,Λ,Jd,GA,tb,n,wy,d,e,Γ,Λ,hT.j,by omega,by omega,λD M s1 hD gD=>⟨_,.inl ⟨_,DS.of gD,Λ⟩,s1,?_⟩⟩
   cases hw:wy d e Γ with
   |nil=>rw[Ζ (ġ Λ)];rfl
   |cons z zs=>rw[Η (λz=>z.elim Kj λz=>by cases z)];rfl
 rintro k M ⟨s1,rfl⟩
 have N:=hY.same s1
 by_cases L6:(d:Int)=(e:Int)∨wy d e Γ=[]
 ·rw[Ζ L6]
  exact aK (r (by rw[Ι L6]))
 rw[Η L6]
 rw[Θ L6]at g q
 refine aG ?_
 obtain⟨O,Fz,pl⟩:=N.ω
 have FZ:=Paired.length pl
 refine⟨y,ys.DR,p,_,_,Λ,N.ς,Y.cl,Y.n4,Λ,le,_,Λ,.inl (DS.of Fz),_,_,Λ,Λ,_,Λ,?_⟩
 by_cases Je:60<=B.U.length
 ·rw[Ζ (show (60:Int)<=(O.length:Nat) by omega)]
  exact aK (g (by rw[Ι Je]))
 rw[Η (show ¬(60:Int)<=(O.length:Nat) by omega)]
 rw[Θ Je]at q
 refine aG ?_
 refine⟨y,ys.DR,p,_,_,Λ,N.ς,Y.cl,Y.n4,Λ,.inl ⟨Λ,_,DS.of Fz⟩,λx FU nx QU Mu=>⟨x,FU,(d:Int),(e:Int),l,u,Λ,ac,λR H2 A off KO M9=>⟨Λ,?_⟩⟩⟩
 have Rt:=λz o ez=>off z o (ag ez nx) (by rw[af (ag ez nx),af (ag ez QU)];exact ez)
 have X5:M R=Γ:=by
  by_cases z1:R=x
  ·rw[z1,ac]at A;cases A
  ·by_cases z2:R=FU
   ·rw[z2,af Mu,ac]at A;cases A
   ·rw[af z1,af z2]at A;exact A
 have Jf:=N.same Rt
 have Ru:=Rt _ _ Fz
 have hlv:Hs H2 ys.DU (la:: le:: li:: dn:: ys.ex) (.ref x) ⟨(d:Int),(e:Int),l,u,0,[]⟩:=⟨x,FU,R,Λ,KO,M9,λz=>by obtain⟨xs,hz⟩:=N.HN R z;rw[X5]at hz;cases hz⟩
 refine⟨le,_,_,Λ,Λ,Ru,by rw[ϗ];omega,?_⟩
 have GO:=Jf.Rp Ru hlv
 have o3:Ee [le,dn] H (π H2 le (.ρ (O++[.ref x]))):=(DP.EA (s1.trans Rt)).trans (dD (by simp))
 generalize π H2 le (.ρ (O++[.ref x]))=H3 at GO o3⊢
 obtain⟨Fv,MA,pd⟩:=GO.Fw
 have IA:Fv.length=B.done.length:=Paired.length pd
 refine⟨y,ys.DR,p,_,_,Λ,GO.ς,Y.cl,Y.n6,Λ,.inl ⟨Λ,_,DS.of MA⟩,by show 5<=Χ;decide,λt ht=>?_⟩
 have UW:=(DP.refl H3).new (o:=.tup [.str "post",.int (d:Int),.int (e:Int),.int l,.int u]) ht
 have S:(π H3 t (.tup [.str "post",.int (d:Int),.int (e:Int),.int l,.int u])) t=Β (.tup [.str "post",.int (d:Int),.int (e:Int),.int l,.int u]):=ac
 generalize π H3 t (.tup [.str "post",.int (d:Int),.int (e:Int),.int l,.int u])=H4 at UW S⊢
 have OJ:=GO.same UW
 have Rv:=UW _ _ MA
 refine⟨dn,_,_,Λ,Λ,Rv,by rw[ϗ];omega,?_⟩
 have KP:=OJ.M8 Rv ⟨t,Λ,S⟩
 have o5:Ee [le,dn] H (π H4 dn (.ρ (Fv++[.ref t]))):=(o3.trans (DP.EA UW)).trans (dD (by simp))
 generalize π H4 dn (.ρ (Fv++[.ref t]))=H5 at KP o5⊢
 obtain⟨X,X6,pl5⟩:=KP.ω
 have hl5:X.length=B.U.length+1:=by rw[Paired.length pl5,Υ];rfl
 refine⟨y,ys.DR,p,_,_,Λ,KP.ς,Y.cl,Y.n4,Λ,le,_,Λ,.inl (DS.of X6),_,_,Λ,Λ,?_⟩
 have er:((X.length:Nat):Int) - 1=(B.U.length:Int):=by omega
 dsimp only
 rw[er]
 exact q Λ H5 o5 KP
theorem nP(f:Nat->V)(l:xs.length<Χ)(c:DS K H a xs)
  (m:∀(i:Nat)(x:V)(N:V->Hp->Prop),xs[i]?=Β x->N (f i) H->g x σ0 H λd j=>te d j N)
  (o:∀D,H D=Γ->Q (.ref D) (π H D (.ρ ((ό xs.length).map f)))):e9 (yY K a) g pR te σ0 Q H:=by
 refine bQ xs.length l (λi acc b=>b=H/\acc=(ό i).map f) ⟨Λ,Λ⟩ (λi acc b h=>by rw[h.2,Ο,å];exact Ξ _) (λi acc b p h=>?_) (λacc b h=>?_)
 ·obtain⟨rfl,rfl⟩:=h
  refine⟨⟨xs,xs[i],c,by simp[p]⟩,λv j y=>?_⟩
  obtain⟨e,y⟩:=y
  subst e
  exact m i v (λy q=>q=j/\(ό i).map f++[y]=(ό (i+1)).map f) (y xs c) ⟨Λ,by rw[ĩ,ϯ];rfl⟩
 ·obtain⟨rfl,rfl⟩:=h
  exact⟨⟨xs,c,Ξ _⟩,o⟩
theorem lg{a b:Type}(xs:List a)(d:a)(f:a->b):(ό xs.length).map (λi=>f (xs.getD i d))=xs.map f:=by
 refine List.ext_getElem (by simp) λi e c=>?_
 simp only[b6,List.getElem_range]
 rw[Ω,Μ (by simpa using c)];rfl
def X7(K:ϣ):List V->Hp->VK->Prop:=λxs H Q=>∃(p:Ν)(ys:List V),xs=[.ref p]/\(DS K H p ys∨DY K H p ys)/\Q (.int (ys.length:Nat)) H
inductive wF(K:ϣ)(ys:Ys)(vs:List V)(H:Hp)(Q:VK)(E:XK):Prop
 |mk (y dy tb ro la le li dn:Ν) (s:YS) (_:vs=[.ref y]) (_:Ec K ys H y dy tb ro la le li dn s) (_:∀(t:Ν)(vs:List V)(H':Hp),DP H H'->H t=Γ->H' t=Β (.ρ vs)->Paired (EY H') vs s.done->Q (.ref t) H')
theorem X8:ar ["self"] ["self"] (aj xf):=L2.Ez
theorem Aj(F:Et K "history" "Yard.history" xf f fd)(T:eK mg)(Y:jo K ys):DQ P w K mg ν aB 1 f fd ["self"] (wF K ys):=by
 refine F.ok X8 λ_ _ _ s H _ Q E i h=>?_
 obtain⟨y,c,j,l,m,le,o,dn,p,rfl,b,q⟩:=h
 refine⟨_,ah (au (aN cf Λ T.list PySem.Pv.boot_list (aa (ap (pv 0) Λ) ad))),?_⟩
 obtain⟨d,e,g⟩:=b.Fw
 refine⟨y,ys.DR,c,_,_,Λ,b.ς,Y.cl,Y.n6,Λ,dn,_,Λ,.inl (DS.of e),λt a=>?_⟩
 exact q t d _ ((DP.refl H).new a) a ac (Paired.mono (λ_ _ z=>z.keep (DP.Ed ((DP.refl H).new a))) g)
theorem sP{kV doc pm cdv ct:Ρ}(e:K.lookup T=Β o)(f:o.data=.seq #[Į] n):
  Binds K (gy "__init__" "Yard.__init__" (c7 jr) (aJ jr) (aj jr) (.ref T) kV doc pm an cdv ct) ["self","table","rooms"] []:=λs us g d=>by
 have d:us.length=3:=by rw[Ę]at d;exact d
 obtain⟨a,h,rfl,i⟩:=L2.LW d
 obtain⟨b,j,rfl,l⟩:=L2.LW i
 obtain⟨c,m,rfl,p⟩:=L2.LW l
 obtain rfl:=iy p
 exact IZ Λ (g _ _ e) f Λ Λ
theorem rc{kV doc pm cdv ct:Ρ}(i:K.lookup T=Β o)(j:o.data=.seq #[Ŗ 0 tk] n):
  Binds K (gy "post" "Yard.post" (c7 iH) (aJ iH) (aj iH) (.ref T) kV doc pm an cdv ct) Rq []:=λs us l f=>by
 have f:us.length=5:=by rw[Ę]at f;exact f
 obtain⟨a,m,rfl,p⟩:=L2.LW f
 obtain⟨b,q,rfl,r⟩:=L2.LW p
 obtain⟨c,t,rfl,u⟩:=L2.LW r
 obtain⟨d,v,rfl,g⟩:=L2.LW u
 obtain⟨e,x,rfl,h⟩:=L2.LW g
 obtain rfl:=iy h
 exact IZ Λ (l _ _ i) j Λ Λ
inductive Bv(C:Ν)(vs:List V)(H:Hp)(Q:VK)(E:XK):Prop
 |mk (x dx pa:Ν) (r b:Int) (h:Option Int) (Ep:List V) (qs:List (Int×Int)) (_:vs=[.ref x]) (_:Es H C x dx pa r b h Ep qs) (_:∀(x' Iq JM:Ν)(H':Hp),DP H H'->H x'=Γ->H JM=Γ->Es H' C x' Iq JM r b h Ep qs->Q (.ref x') H')
inductive Bu(C:Ν)(vs:List V)(H:Hp)(Q:VK)(E:XK):Prop
 |mk (x dx wa:Ν) (s:bE) (_:vs=[.ref x]) (_:H x=Β (.ς C dx (su s wa))) (_:H wa=Β (.ρ (nV s.Α))) (_:∀(x' Iq Jg:Ν)(H':Hp),DP H H'->H x'=Γ->H Jg=Γ->H' x'=Β (.ς C Iq (su s Jg))->H' Jg=Β (.ρ (nV s.Α))->Q (.ref x') H')
theorem MB:ar ["self","other"] ["self"] (aj Cg):=L2.Ez
theorem CI(F:Et K "twin" "Lane.twin" Cg f fd)(T:eK mg)(L:BH K C)(O:mg "Lane"=Β (.ref C))(R:Mk K C fl)(S:Binds K dl ["self","room"] [])(Gl:DQ P w K mg ν aB 1 fl dl ["self","room"] (wA C)):
  DQ P w K mg ν aB 3 f fd ["self"] (Bv C):=by
 refine F.ok MB λ_ _ _ s H _ Q E U h=>?_
 obtain⟨x,v,X,r,b,h,Y,qs,rfl,l,q⟩:=h
 refine⟨_,ae (av (i:=1) MB.nd Λ (ύ Λ) (eI R Gl U Λ O S .nil ao (aa (ap (pv 0) Λ) ad)))
  (ae (bu (pv 1) (ap (pv 0) Λ) Λ)
  (ae (bu (pv 1) (ap (pv 0) Λ) Λ)
  (ae (bu (pv 1) (aN cf Λ T.list PySem.Pv.boot_list (aa (ap (pv 0) Λ) ad)) Λ)
  (ah (au (pv 1)))))),?_⟩
 refine⟨x,C,v,_,_,Λ,l.ς,L.cl,L.n1,Λ,λa d nx Z ne=>⟨a,d,r,Λ,ac,λj m Lw off D=>⟨Λ,?_⟩⟩⟩
 have G:=λz o c=>off z o (ag c nx) (by rw[af (ag c nx),af (ag c Z)];exact c)
 have y:=D.ς
 clear Lw off D
 refine⟨x,C,v,_,_,Λ,G _ _ l.ς,L.cl,L.n2,Λ,a,C,d,_,Λ,y,L.cl,L.n2,by show 4<1000;decide,?_⟩
 have I:∀g,DP H (π m a g):=λg z o c=>by rw[af (ag c nx)];exact G _ _ c
 refine⟨x,C,v,_,_,Λ,I _ _ _ l.ς,L.cl,L.n3,Λ,a,C,d,_,Λ,ac,L.cl,L.n3,by show 4<1000;decide,?_⟩
 have o3:∀g p,DP H (π (π m a g) a p):=λg p z o c=>by rw[af (ag c nx)];exact I _ _ _ c
 have t:=o3 (.ς C d (aP "returning" (.int b) (jO r 0 (hV Γ) j))) (.ς C d (aP "holder" (hV h) (aP "returning" (.int b) (jO r 0 (hV Γ) j))))
 have A:(π (π m a (.ς C d (aP "returning" (.int b) (jO r 0 (hV Γ) j)))) a (.ς C d (aP "holder" (hV h) (aP "returning" (.int b) (jO r 0 (hV Γ) j))))) a=Β (.ς C d (jO r b (hV h) j)):=ac
 generalize π (π m a (.ς C d (aP "returning" (.int b) (jO r 0 (hV Γ) j)))) a (.ς C d (aP "holder" (hV h) (aP "returning" (.int b) (jO r 0 (hV Γ) j))))=H3 at t A⊢
 refine⟨x,C,v,_,_,Λ,t _ _ l.ς,L.cl,L.n4,Λ,X,_,Λ,.inl (DS.of (t _ _ l.ρ)),λu B=>?_⟩
 have J:H u=Γ:=by
  cases e:H u with
  |none=>rfl
  |some o=>rw[t _ _ e]at B;cases B
 have M:=ag A B
 refine⟨a,C,d,_,Λ,by rw[af M];exact A,L.cl,L.n4,by show 4<1000;decide,?_⟩
 have N:∀g,DP H (π (π H3 u (.ρ Y)) a g):=λg z o c=>by rw[af (ag c nx),af (ag c J)];exact t _ _ c
 exact q a d u _ (N _) nx J ⟨ac,by rw[af (ϛ M)];exact ac,Eu.same (N _) l.Fc⟩
theorem MC:ar ["self","other"] ["self"] (aj xb):=L2.Ez
theorem CG(F:Et K "twin" "Letter.twin" xb f fd)(T:eK mg)(Y:jo K ys)(G:mg "Letter"=Β (.ref ys.DU))(I:Mk K ys.DU fl)(J:Binds K dl ["self","start","goal","length","word"] [])(Gl:DQ P w K mg ν aB 1 fl dl ["self","start","goal","length","word"] (wz ys.DU)):
  DQ P w K mg ν aB 3 f fd ["self"] (Bu ys.DU):=by
 refine F.ok MC λ_ _ _ s H _ Q E L h=>?_
 obtain⟨x,d,M,t,rfl,g,N,q⟩:=h
 refine⟨_,ae (av (i:=1) MC.nd Λ (ύ Λ) (eI I Gl L Λ G J .nil ao (aa (ap (pv 0) Λ) (aa (ap (pv 0) Λ) (aa (ap (pv 0) Λ) (aa (ap (pv 0) Λ) ad))))))
  (ae (bu (pv 1) (ap (pv 0) Λ) Λ)
  (ae (bu (pv 1) (aN cf Λ T.list PySem.Pv.boot_list (aa (ap (pv 0) Λ) ad)) Λ)
  (ah (au (pv 1))))),?_⟩
 refine⟨x,ys.DU,d,_,_,Λ,g,Y.ct,Y.t1,Λ,x,ys.DU,d,_,_,Λ,g,Y.ct,Y.t2,Λ,x,ys.DU,d,_,_,Λ,g,Y.ct,Y.t3,Λ,x,ys.DU,d,_,_,Λ,g,Y.ct,Y.t4,Λ,λb c nx O ne=>⟨b,c,t.start,t.μ,t.len,t.word,Λ,ac,λm p r off R u=>⟨Λ,?_⟩⟩⟩
 have A:=λz o a=>off z o (ag a nx) (by rw[af (ag a nx),af (ag a O)];exact a)
 clear r off u
 refine⟨x,ys.DU,d,_,_,Λ,A _ _ g,Y.ct,Y.t5,Λ,b,ys.DU,c,_,Λ,R,Y.ct,Y.t5,by show 6<1000;decide,?_⟩
 have j:DP H (π p b (.ς ys.DU c (aP "gone" (.int t.ε) (su ⟨t.start,t.μ,t.len,t.word,0,[]⟩ m)))):=λz o a=>by rw[af (ag a nx)];exact A _ _ a
 have v:(π p b (.ς ys.DU c (aP "gone" (.int t.ε) (su ⟨t.start,t.μ,t.len,t.word,0,[]⟩ m)))) b=Β (.ς ys.DU c (su ⟨t.start,t.μ,t.len,t.word,t.ε,[]⟩ m)):=ac
 generalize π p b (.ς ys.DU c (aP "gone" (.int t.ε) (su ⟨t.start,t.μ,t.len,t.word,0,[]⟩ m)))=S at j v⊢
 refine⟨x,ys.DU,d,_,_,Λ,j _ _ g,Y.ct,Y.t6,Λ,M,_,Λ,.inl (DS.of (j _ _ N)),λl y=>?_⟩
 have B:H l=Γ:=by
  cases e:H l with
  |none=>rfl
  |some o=>rw[j _ _ e]at y;cases y
 have C:=ag v y
 refine⟨b,ys.DU,c,_,Λ,by rw[af C];exact v,Y.ct,Y.t6,by show 6<1000;decide,?_⟩
 have U:∀D,DP H (π (π S l (.ρ (nV t.Α))) b D):=λD z o a=>by rw[af (ag a nx),af (ag a B)];exact j _ _ a
 exact q b c l _ (U _) nx B ac (by rw[af (ϛ C)];exact ac)
structure YA where
 y:Ν
 dy:Ν
 tb:Ν
 ro:Ν
 la:Ν
 le:Ν
 li:Ν
 dn:Ν
 lx:Ν
 Eh:Ν
 lt:Ν
 n:Nat
 DX:List V
 ps:List (Int×Int)
 wy:Wf
abbrev E8(K:ϣ)(ys:Ys)(H:Hp)(a:YA)(s:YS):Prop:=Ec K ys H a.y a.dy a.tb a.ro a.la a.le a.li a.dn s
abbrev Bc(c:Cs)(TC:Ν)(J:TJ)(H:Hp)(a:YA):Prop:=EL c TC J H a.tb a.lx a.Eh a.lt a.n a.DX a.ps a.wy
abbrev YA.four(a:YA):List Ν:=[a.la,a.le,a.li,a.dn]
theorem Paired.set{v:α}{r:β}(h:R v r):∀{a:List α}{b:List β}(i:Nat),Paired R a b->Paired R (a.set i v) (b.set i r)
 |_,_,_,.nil =>.nil
 |_,_,0,.cons _ t =>.cons h t
 |_,_,i+1,.cons x t =>.cons x (Paired.set h i t)
theorem Ee.mono(h:∀b∈ex,b∈O1)(o:Ee ex H H'):Ee O1 H H':=λb u a e=>o b u (λz=>a (h b z)) e
theorem qu(h:E8 K ys H a s)(c:H p=Γ):p∉a.four:=λz=>by obtain⟨xs,b⟩:=h.G9 p z;rw[c]at b;cases b
theorem ng(h:E8 K ys H a s)(c:H p=Γ):p∉a.la:: a.le:: a.li:: a.dn:: ys.ex:=λz=>by obtain⟨xs,b⟩:=Ec.HN h p z;rw[c]at b;cases b
theorem py(o:Ee [x] H H2)(a:H2 x=Β (.ρ zs))(h:∃xs,H b=Β (.ρ xs)):∃xs,H2 b=Β (.ρ xs):=by
 by_cases e:b=x
 ·exact⟨zs,by rw[e];exact a⟩
 ·obtain⟨xs,c⟩:=h
  exact⟨xs,o _ _ (by simpa using e) c⟩
theorem E8.Ht(h:E8 K ys H a s)(f:H a.la=Β (.ρ vs))(o:Ee [a.la] H H2)(d:H2 a.la=Β (.ρ (vs.set k (.ref x))))
  (L:Es H2 ys.Ek x dx pa ln.r ln.b ln.h Ep ln.qs) (g:H pa=Γ):E8 K ys H2 a {s with δ:=s.δ.set k ln}:=by
 obtain⟨i,j,l,m,p,q⟩:=Ec.off h (o.mono (by simp))
 obtain⟨G,e,t⟩:=h.χ
 obtain⟨u,v,y⟩:=h.ω
 obtain⟨z,A,B⟩:=h.FQ
 obtain⟨C,D,E⟩:=h.Fw
 rw[f]at e
 cases e
 have ne:=h.ne
 simp only[ë,Ϯ,É,or_false,not_or,not_false_eq_true,and_true,ä]at ne
 exact⟨i,j,⟨_,d,Paired.set ⟨x,dx,pa,Ep,Λ,L,ng h g⟩ k (l _ _ t)⟩,⟨u,o _ _ (by simp;exact ϛ ne.1.1) v,m _ _ y⟩,⟨z,o _ _ (by simp;exact ϛ ne.1.2.1) A,p _ _ B⟩,⟨C,o _ _ (by simp;exact ϛ ne.1.2.2) D,q _ _ E⟩,h.ne,λb F=>py o d (h.hex b F)⟩
theorem E8.Kp(h:E8 K ys H a s)(e:H a.le=Β (.ρ vs))(o:Ee [a.le] H H2)(c:H2 a.le=Β (.ρ (vs.set k (.ref x))))
  (f:H2 x=Β (.ς ys.DU dx (su t wa))) (g:H2 wa=Β (.ρ (nV t.Α))) (i:H wa=Γ):E8 K ys H2 a {s with U:=s.U.set k t}:=by
 obtain⟨j,l,m,p,q,r⟩:=Ec.off h (o.mono (by simp))
 obtain⟨u,v,y⟩:=h.χ
 obtain⟨I,d,z⟩:=h.ω
 obtain⟨A,B,C⟩:=h.FQ
 obtain⟨D,E,F⟩:=h.Fw
 rw[e]at d
 cases d
 have ne:=h.ne
 simp only[ë,Ϯ,É,or_false,not_or,not_false_eq_true,and_true,ä]at ne
 exact⟨j,l,⟨u,o _ _ (by simp;exact ne.1.1) v,m _ _ y⟩,⟨_,c,Paired.set ⟨x,dx,wa,Λ,f,g,ng h i⟩ k (p _ _ z)⟩,⟨A,o _ _ (by simp;exact ϛ ne.2.1.1) B,q _ _ C⟩,⟨D,o _ _ (by simp;exact ϛ ne.2.1.2) E,r _ _ F⟩,h.ne,λb G=>py o c (h.hex b G)⟩
theorem E8.N8(h:E8 K ys H a s)(f:H a.li=Β (.ρ vs))(o:Ee [a.li] H H2)(c:H2 a.li=Β (.ρ (vs.set k v)))
  (L:F6 H2 v qs):E8 K ys H2 a {s with ι:=s.ι.set k qs}:=by
 obtain⟨g,i,j,l,m,p⟩:=Ec.off h (o.mono (by simp))
 obtain⟨q,r,t⟩:=h.χ
 obtain⟨u,x,y⟩:=h.ω
 obtain⟨E,e,z⟩:=h.FQ
 obtain⟨A,B,C⟩:=h.Fw
 rw[f]at e
 cases e
 have ne:=h.ne
 simp only[ë,Ϯ,É,or_false,not_or,not_false_eq_true,and_true,ä]at ne
 exact⟨g,i,⟨q,o _ _ (by simp;exact ne.1.2.1) r,j _ _ t⟩,⟨u,o _ _ (by simp;exact ne.2.1.1) x,l _ _ y⟩,⟨_,c,Paired.set L k (m _ _ z)⟩,⟨A,o _ _ (by simp;exact ϛ ne.2.2) B,p _ _ C⟩,h.ne,λb D=>py o c (h.hex b D)⟩
inductive wo(K:ϣ)(ys:Ys)(vs:List V)(H:Hp)(Q:VK)(E:XK):Prop
 |mk (a:YA) (s:YS) (k:Nat) (ln:bO) (Eb:List V) (_:vs=[.ref a.y,.int k]) (_:E8 K ys H a s) (_:s.δ[k]?=Β ln) (_:H a.la=Β (.ρ Eb)) (_:∀(x dx pa:Ν)(Ep:List V)(H':Hp),Ee [a.la] H H'->H x=Γ->H pa=Γ->H' a.la=Β (.ρ (Eb.set k (.ref x)))->Es H' ys.Ek x dx pa ln.r ln.b ln.h Ep ln.qs->Q (.ref x) H')
inductive wn(K:ϣ)(ys:Ys)(vs:List V)(H:Hp)(Q:VK)(E:XK):Prop
 |mk (a:YA) (s:YS) (k:Nat) (t:bE) (DX:List V) (_:vs=[.ref a.y,.int k]) (_:E8 K ys H a s) (_:s.U[k]?=Β t) (_:H a.le=Β (.ρ DX)) (_:∀(x dx wa:Ν)(H':Hp),Ee [a.le] H H'->H x=Γ->H wa=Γ->H' a.le=Β (.ρ (DX.set k (.ref x)))->H' x=Β (.ς ys.DU dx (su t wa))->H' wa=Β (.ρ (nV t.Α))->Q (.ref x) H')
inductive Bx(K:ϣ)(ys:Ys)(vs:List V)(H:Hp)(Q:VK)(E:XK):Prop
 |mk (a:YA) (s:YS) (v:V) (q:Int×Int) (p:Nat) (qs:List (Int×Int)) (_:vs=[.ref a.y,v,.int p]) (_:E8 K ys H a s) (_:Bg H v q) (_:s.ι[p]?=Β qs) (_:qs.length<=100000) (_:∀H',Ee [a.li] H H'->E8 K ys H' a {s with ι:=s.ι.set p (qs++[q])}->Q .Eg H')
theorem BW:ar ["self","lane"] ["self","lane"] (aj wR):=L2.Ez
theorem zU(F:Et K "own_lane" "Yard.own_lane" wR f fd)(Y:jo K ys)(R:bW K ys.Ek "twin" ft)(S:Binds K dt ["self"] [])(T:DQ P w K mg ν aB 3 ft dt ["self"] (Bv ys.Ek)):
  DQ P w K mg ν aB 4 f fd ["self","lane"] (wo K ys):=by
 refine F.ok BW λ_ _ _ s H _ Q E U h=>?_
 obtain⟨a,st,k,d,e,rfl,i,X,g,q⟩:=h
 refine⟨_,ae (oN (aQ (aD aR (ap (pv 0) Λ) (pv 1) (λ_ _=>rfl)) Y.L.cl R T U S .nil ao) (oP (ap (pv 0) Λ) (pv 1) iD))
  (ah (au (aD aR (ap (pv 0) Λ) (pv 1) (λ_ _=>rfl)))),?_⟩
 obtain⟨N9,B,pl⟩:=i.χ
 rw[g]at B
 cases B
 obtain⟨v,C,x,D,Z,o,rfl,G,_⟩:=Paired.at2 pl X
 have I:=(gQ0 C)
 refine⟨a.y,ys.DR,a.dy,_,_,Λ,i.ς,Y.cl,Y.n3,Λ,a.la,e,(k:Int),_,Λ,Λ,DS.of g,al C,x,D,_,Λ,G.ς,Λ,x,D,Z,d.r,d.b,d.h,o,d.qs,Λ,G,λc J p l j nx t m=>?_⟩
 refine⟨a.y,ys.DR,a.dy,_,_,Λ,j _ _ i.ς,Y.cl,Y.n3,Λ,a.la,e,(k:Int),k,Λ,Λ,j _ _ g,jb I,?_⟩
 have u:Ee [a.la] H (π l a.la (.ρ (e.set k (.ref c)))):=(DP.EA j).trans (dD (by simp))
 have A:(π l a.la (.ρ (e.set k (.ref c)))) a.la=Β (.ρ (e.set k (.ref c))):=ac
 have M:Es (π l a.la (.ρ (e.set k (.ref c)))) ys.Ek c J p d.r d.b d.h o d.qs:=by
  have n1:=aT m.ς (j _ _ g) (by intro z;cases z)
  have n2:p≠a.la:=λz=>by rw[z,g]at t;cases t
  exact⟨by rw[af n1];exact m.ς,by rw[af n2];exact m.ρ,Eu.EA (ex:=[a.la]) (λb N=>by simp at N;subst N;exact⟨_,j _ _ g⟩) (dD (by simp)) m.Fc⟩
 generalize π l a.la (.ρ (e.set k (.ref c)))=O at u A M⊢
 have X9:=u _ _ (by simp;exact aT i.ς g (by intro z;cases z)) i.ς
 exact⟨a.y,ys.DR,a.dy,_,_,Λ,X9,Y.cl,Y.n3,Λ,a.la,_,(k:Int),.ref c,Λ,Λ,DS.of A,al (by simp[I]),q c J p o O u nx t A M⟩
theorem BV:ar ["self","number"] ["self","number"] (aj wQ):=L2.Ez
theorem zT(F:Et K "own_letter" "Yard.own_letter" wQ f fd)(Y:jo K ys)(M:bW K ys.DU "twin" ft)(N:Binds K dt ["self"] [])(O:DQ P w K mg ν aB 3 ft dt ["self"] (Bu ys.DU)):
  DQ P w K mg ν aB 4 f fd ["self","number"] (wn K ys):=by
 refine F.ok BV λ_ _ _ s H _ Q E R h=>?_
 obtain⟨a,st,k,t,c,rfl,e,S,d,q⟩:=h
 refine⟨_,ae (oN (aQ (aD aR (ap (pv 0) Λ) (pv 1) (λ_ _=>rfl)) Y.ct M O R N .nil ao) (oP (ap (pv 0) Λ) (pv 1) iD))
  (ah (au (aD aR (ap (pv 0) Λ) (pv 1) (λ_ _=>rfl)))),?_⟩
 obtain⟨HQ,r,pl⟩:=e.ω
 rw[d]at r
 cases r
 obtain⟨v,u,x,A,T,rfl,B,U,_⟩:=Paired.at2 pl S
 have C:=(gQ0 u)
 refine⟨a.y,ys.DR,a.dy,_,_,Λ,e.ς,Y.cl,Y.n4,Λ,a.le,c,(k:Int),_,Λ,Λ,DS.of d,al u,x,A,_,Λ,B,Λ,x,A,T,t,Λ,B,U,λb D i g j nx l G m=>?_⟩
 refine⟨a.y,ys.DR,a.dy,_,_,Λ,j _ _ e.ς,Y.cl,Y.n4,Λ,a.le,c,(k:Int),k,Λ,Λ,j _ _ d,jb C,?_⟩
 have o:Ee [a.le] H (π g a.le (.ρ (c.set k (.ref b)))):=(DP.EA j).trans (dD (by simp))
 have p:(π g a.le (.ρ (c.set k (.ref b)))) a.le=Β (.ρ (c.set k (.ref b))):=ac
 have X:=aT G (j _ _ d) (by intro z;cases z)
 have Z:i≠a.le:=λz=>by rw[z,d]at l;cases l
 have I:(π g a.le (.ρ (c.set k (.ref b)))) b=Β (.ς ys.DU D (su t i)):=by rw[af X];exact G
 have J:(π g a.le (.ρ (c.set k (.ref b)))) i=Β (.ρ (nV t.Α)):=by rw[af Z];exact m
 generalize π g a.le (.ρ (c.set k (.ref b)))=L at o p I J⊢
 have X9:=o _ _ (by simp;exact aT e.ς d (by intro z;cases z)) e.ς
 exact⟨a.y,ys.DR,a.dy,_,_,Λ,X9,Y.cl,Y.n4,Λ,a.le,_,(k:Int),.ref b,Λ,Λ,DS.of p,al (by simp[C]),q b D i L o nx l p I J⟩
theorem R0:ar ["self","piece","place"] ["self","piece","place"] (aj Cj):=L2.Ez
theorem CL(F:Et K "lay" "Yard.lay" Cj f fd)(Y:jo K ys):DQ P w K mg ν aB 1 f fd ["self","piece","place"] (Bx K ys):=by
 refine F.ok R0 λ_ _ _ s H _ Q E hr h=>?_
 obtain⟨a,st,v,S,p,C,rfl,m,D,T,G,q⟩:=h
 refine⟨_,ah (oN (aC zM (aD aR (ap (pv 0) Λ) (pv 2) (λ_ _=>rfl)) (bq (aa (pv 1) ad))) (oP (ap (pv 0) Λ) (pv 2) iD)),?_⟩
 obtain⟨i,j,pl⟩:=m.FQ
 obtain⟨v0,I,U,l,rfl,X,x⟩:=Paired.at2 pl T
 have J:=(gQ0 I)
 have UX:=Paired.length x
 refine⟨a.y,ys.DR,a.dy,_,_,Λ,m.ς,Y.cl,Y.n5,Λ,a.li,i,(p:Int),_,Λ,Λ,DS.of j,al I,by show 1<=Χ;decide,λt Z=>?_⟩
 have d:=(DP.refl H).new (o:=.tup [v]) Z
 have A:(π H t (.tup [v])) t=Β (.tup [v]):=ac
 generalize π H t (.tup [v])=B at d A⊢
 have fin:∀(z:Ν)(g:Hp),DP H g->F6 g (.ref z) (C++[S])->Q .Eg (π g a.li (.ρ (i.set p (.ref z)))):=λz g c hz=>by
  have L:Ee [a.li] H (π g a.li (.ρ (i.set p (.ref z)))):=(DP.EA c).trans (dD (by simp))
  refine q _ L (E8.N8 m j L ac ?_)
  obtain⟨tz,vz,ez,M,UJ⟩:=hz
  cases ez
  have nz:=aT M (c _ _ j) (by intro y;cases y)
  exact⟨z,vz,Λ,by rw[af nz];exact M,Eu.EA (ex:=[a.li]) (λb N=>by simp at N;subst N;exact⟨_,c _ _ j⟩) (dD (by simp)) UJ⟩
 refine⟨U,t,l,[v],Λ,Λ,DY.of (d _ _ X),DY.of A,by simp,by rw[ϗ];simp;omega,λO=>?_,λO r Lo=>?_⟩
 ·subst O
  cases x
  refine⟨a.y,ys.DR,a.dy,_,_,Λ,d _ _ m.ς,Y.cl,Y.n5,Λ,a.li,i,(p:Int),p,Λ,Λ,d _ _ j,jb J,?_⟩
  exact fin t B d ⟨t,[v],Λ,A,.cons (let ⟨u,e,hu⟩:=D;⟨u,e,d _ _ hu⟩) .nil⟩
 ·have c:=d.new (o:=.tup (l++[v])) Lo
  have R:(π B r (.tup (l++[v]))) r=Β (.tup (l++[v])):=ac
  generalize π B r (.tup (l++[v]))=g at c R⊢
  refine⟨a.y,ys.DR,a.dy,_,_,Λ,c _ _ m.ς,Y.cl,Y.n5,Λ,a.li,i,(p:Int),p,Λ,Λ,c _ _ j,jb J,?_⟩
  exact fin r g c ⟨r,_,Λ,R,Eu.snoc (let ⟨u,e,hu⟩:=D;⟨u,e,c _ _ hu⟩) (Eu.same c x)⟩
noncomputable def fL(ln:bO)(m c len:Int):bO:={ln with r:=ln.r - 1,h:=if decide (c=len - 1)=Δ then Γ else Β m,qs:=ln.qs++[(m,c)]}
noncomputable def cn(s:YS)(m:Nat)(c:Int)(l:Nat)(t:bE)(ln:bO):YS:={s with U:=if c=0 then s.U.set m {t with Α:=t.Α++[l]} else s.U,δ:=s.δ.set l (fL ln m c t.len)}
inductive oz(K:ϣ)(ys:Ys)(vs:List V)(H:Hp)(Q:VK)(E:XK):Prop
 |mk (a:YA) (s:YS) (v:V) (m:Nat) (c:Int) (l:Nat) (t:bE) (ln:bO) (_:vs=[.ref a.y,v,.int l]) (_:E8 K ys H a s) (_:Bg H v ((m:Int),c)) (_:s.U[m]?=Β t) (_:s.δ[l]?=Β ln) (_:c9 ln.r ln.h m c=Δ) (_:t.Α.length<=1000) (_:ln.qs.length<100000) (_:∀H',Ee [a.la,a.le] H H'->E8 K ys H' a (cn s m c l t ln)->Q .Eg H')
noncomputable def cN(s:YS)(m:Nat)(t:bE):YS:={s with U:=s.U.set m {t with ε:=t.ε+1}}
inductive wG(K:ϣ)(ys:Ys)(vs:List V)(H:Hp)(Q:VK)(E:XK):Prop
 |mk (a:YA) (s:YS) (m l:Nat) (t:bE) (ln:bO) (_:vs=[.ref a.y,.int m,.int l]) (_:E8 K ys H a s) (_:s.U[m]?=Β t) (_:s.δ[l]?=Β ln) (_:c9 ln.r ln.h m t.ε=Δ) (_:t.Α.length<=1000) (_:ln.qs.length<100000) (_:∀H',Ee [a.la,a.le] H H'->E8 K ys H' a (cn (cN s m t) m t.ε l {t with ε:=t.ε+1} ln)->Q .Eg H')
structure Own(P:Program)(w:Ϭ)(K:ϣ)(mg:Str->Option Ρ)(ν:Ù)(ys:Ys)(fl ft fp:Ν)(dl dt dp:Ñ):Prop where
 ml:bW K ys.DR "own_lane" fl
 bl:Binds K dl ["self","lane"] []
 Gl:DQ P w K mg ν aB 4 fl dl ["self","lane"] (wo K ys)
 mt:bW K ys.DR "own_letter" ft
 bt:Binds K dt ["self","number"] []
 Gt:DQ P w K mg ν aB 4 ft dt ["self","number"] (wn K ys)
 mp:bW K ys.Ek "put" fp
 bp:Binds K dp ["self","letter","count","last"] []
 Gp:DQ P w K mg ν aB 2 fp dp ["self","letter","count","last"] (Bq ys.Ek)
abbrev NEn:List Str:=["self","piece","lane","last"]
abbrev NGi:List Str:=["self","number","lane","letter"]
theorem R3:ar NEn ["self","piece","lane"] (aj rV):=L2.Ez
theorem xP(F:Et K "enter" "Yard.enter" rV f fd)(Y:jo K ys)(O:Own P w K mg ν ys fl ft fp dl dt dp):
  DQ P w K mg ν aB 5 f fd ["self","piece","lane"] (oz K ys):=by
 refine F.ok R3 λ_ _ _ s H _ Q E hr h=>?_
 obtain⟨a,p,v,m,c,l,t,ln,rfl,B,⟨pt,rfl,T⟩,hm,hl,EI,Hy,hql,q⟩:=h
 have F3:DZ 2 _:=hr.mono (by decide)
 refine⟨_,ae (kg (aO (az bT (aD aH (pv 1) ai (λ_ _=>rfl)) ai (aA _))
   (ah (aM (c8 plainAttrs_list PySem.F.slot_list_append PySem.F.type_list_append bD (ap (aI (pv 0) Y.cl O.mt O.Gt hr O.bt .nil ao (aa (aD aH (pv 1) ai (λ_ _=>rfl)) ad)) Λ) (aa (pv 2) ad)))) aE))
  (ae (av (i:=3) R3.nd Λ (ύ Λ) (bY bT (aD aH (pv 1) ai (λ_ _=>rfl)) (aC dX (ap (aD aR (ap (pv 0) Λ) (aD aH (pv 1) ai (λ_ _=>rfl)) (λ_ _=>rfl)) Λ) ai) (aA _)))
  (ah (aM (aI (aI (pv 0) Y.cl O.ml O.Gl hr O.bl .nil ao (aa (pv 2) ad)) Y.L.cl O.mp O.Gp F3 O.bp .nil ao (aa (aD aH (pv 1) ai (λ_ _=>rfl)) (aa (aD aH (pv 1) ai (λ_ _=>rfl)) (aa (pv 3) ad))))))),?_⟩
 refine⟨λI H'=>I=start NEn [.ref a.y,.ref pt,.int l]/\Ee [a.le] H H'/\∃t1:bE,t1.len=t.len/\E8 K ys H' a {p with U:=if c=0 then p.U.set m {t with Α:=t.Α++[l]} else p.U}/\(if c=0 then p.U.set m {t with Α:=t.Α++[l]} else p.U)[m]?=Β t1,?_,?_⟩
 ·refine⟨pt,_,1,_,Λ,Λ,DY.of T,al (j:=1) Λ,Λ,_,Λ,?_⟩
  rw[bZ]
  by_cases C:c=0
  ·rw[Ζ C]
   obtain⟨DX,J,pl⟩:=B.ω
   refine aK ⟨a.y,a.dy,_,Λ,B.ς,Λ,pt,_,0,_,Λ,Λ,DY.of T,al (j:=0) Λ,a,p,m,t,DX,Λ,B,hm,J,λx dx wa X Z nx nw g1 M A=>?_⟩
   refine⟨x,ys.DU,dx,_,_,Λ,M,Y.ct,Y.t6,Λ,.inl ⟨Λ,_,DS.of A⟩,wa,_,_,Λ,Λ,A,by rw[aU,ϗ];omega,?_⟩
   have nxw:=aT M A (by intro z;cases z)
   have nlw:=ag J nw
   have N:Ee [a.le] H (π X wa (.ρ (nV t.Α++[.int l]))):=λb o nb e=>by rw[af (ag e nw)];exact Z b o nb e
   have Jf:=E8.Kp B J N (k:=m) (x:=x) (dx:=dx) (wa:=wa) (by rw[af nlw];exact g1) (t:={t with Α:=t.Α++[l]}) (by rw[af nxw];exact M) (by rw[ac,ir];rfl) nw
   have L7:=(gQ0 hm)
   refine⟨Λ,N,{t with Α:=t.Α++[l]},Λ,?_,?_⟩
   ·rw[Ι C];exact Jf
   ·rw[Ι C];simp[L7]
  ·rw[Η C]
   refine aG ⟨Λ,DP.EA (DP.refl H),t,Λ,?_,?_⟩
   ·rw[Θ C];exact B
   ·rw[Θ C];exact hm
 ·rintro I X ⟨rfl,Z,t1,R,G,OM⟩
  have L8:X pt=Β (.tup [.int m,.int c]):=by
   obtain⟨DX,J,_⟩:=B.ω
   exact Z _ _ (by simp;exact aT T J (by intro z;cases z)) T
  obtain⟨XA,XB,XC⟩:=G.ω
  obtain⟨v1,R4,x1,dx1,wa1,rfl,M,_⟩:=Paired.at2 XC OM
  refine⟨pt,_,1,_,Λ,Λ,DY.of L8,al (j:=1) Λ,a.y,ys.DR,a.dy,_,_,Λ,G.ς,Y.cl,Y.n4,Λ,pt,_,0,_,Λ,Λ,DY.of L8,al (j:=0) Λ,a.le,XA,(m:Int),_,Λ,Λ,DS.of XB,al R4,x1,ys.DU,dx1,_,_,Λ,M,Y.ct,Y.t3,Λ,_,_,Λ,Λ,Λ,?_⟩
  obtain⟨Eb,S,JN⟩:=G.χ
  refine⟨a.y,a.dy,_,Λ,G.ς,Λ,a,_,l,ln,Eb,Λ,G,hl,S,λx dx pa Ep H2 N nx np g2 G0=>?_⟩
  have Kr:=N _ _ (by simp;exact aT L8 S (by intro z;cases z)) L8
  have Hl:=Paired.length G0.Fc
  refine⟨x,dx,_,Λ,G0.ς,Λ,pt,_,0,_,Λ,Λ,DY.of Kr,al (j:=0) Λ,pt,_,1,_,Λ,Λ,DY.of Kr,al (j:=1) Λ,x,dx,pa,ln.r,ln.b,ln.h,Ep,ln.qs,(m:Int),c,decide (c=t.len - 1),?_,G0,by omega,(λho=>by rw[EI]at ho;cases ho),λ_ t3 H3 o3 Kk=>?_⟩
  ·rw[bZ,R];rfl
  have nxl:=ag S nx
  have npl:=ag S np
  have o4:Ee [a.la] X H3:=λb o nb e=>o3 b o (ag e nx) (ag e np) (N b o nb e)
  have GO:=E8.Ht G S o4 (k:=l) (x:=x) (dx:=dx) (pa:=pa) (o3 _ _ nxl npl g2) (ln:=fL ln m c t.len) Kk np
  exact q H3 ((Z.mono (by simp)).trans (o4.mono (by simp))) GO
theorem R5:ar NGi ["self","number","lane"] (aj xg):=L2.Ez
theorem Ak(F:Et K "go_in" "Yard.go_in" xg f fd)(Y:jo K ys)(O:Own P w K mg ν ys fl ft fp dl dt dp)(S:bW K ys.DR "enter" fe)(T:Binds K de ["self","piece","lane"] [])(X:DQ P w K mg ν aB 5 fe de ["self","piece","lane"] (oz K ys)):
  DQ P w K mg ν aB 6 f fd ["self","number","lane"] (wG K ys):=by
 refine F.ok R5 λ_ _ _ s H _ Q E M h=>?_
 obtain⟨a,r,m,l,t,Z,rfl,p,N,hl,EI,Hy,u,q⟩:=h
 have HL:DZ 4 _:=M.mono (by decide)
 refine⟨_,ae (av (i:=3) R5.nd Λ (ύ Λ) (aI (pv 0) Y.cl O.mt O.Gt HL O.bt .nil ao (aa (pv 1) ad)))
  (ae (eW (pv 3) ai pj)
  (ah (aM (aI (pv 0) Y.cl S X M T .nil ao (aa (bq (aa (pv 1) (aa (aC dX (ap (pv 3) Λ) ai) ad))) (aa (pv 2) ad)))))),?_⟩
 obtain⟨DX,v,pl⟩:=p.ω
 refine⟨a.y,a.dy,_,Λ,p.ς,Λ,a,r,m,t,DX,Λ,p,N,v,λx dx wa A o1 nx nw g1 B j=>?_⟩
 refine⟨x,ys.DU,dx,_,_,Λ,B,Y.ct,Y.t5,Λ,_,_,Λ,Λ,dx,_,B,by show 6<1000;decide,?_⟩
 have C:=ag v nx
 have Lz:=aT j B (by intro z;cases z)
 have D:Ee [a.le] H (π A x (.ς ys.DU dx (aP "gone" (.int (t.ε+1)) (su t wa)))):=λb o nb e=>by rw[af (ag e nx)];exact o1 b o nb e
 have G:(π A x (.ς ys.DU dx (aP "gone" (.int (t.ε+1)) (su t wa)))) x=Β (.ς ys.DU dx (su {t with ε:=t.ε+1} wa)):=ac
 have I:=E8.Kp p v D (k:=m) (x:=x) (dx:=dx) (wa:=wa) (by rw[af C];exact g1) (t:={t with ε:=t.ε+1}) G (by rw[af Lz];exact j) nw
 generalize π A x (.ς ys.DU dx (aP "gone" (.int (t.ε+1)) (su t wa)))=J at D G I⊢
 refine⟨a.y,a.dy,_,Λ,I.ς,Λ,x,ys.DU,dx,_,_,Λ,G,Y.ct,Y.t5,Λ,_,_,Λ,Λ,by show 2<=Χ;decide,λpt IG=>?_⟩
 have eg:t.ε+1 - 1=t.ε:=by omega
 have L:=(DP.refl J).new (o:=.tup [.int m,.int t.ε]) IG
 have R:(π J pt (.tup [.int m,.int t.ε])) pt=Β (.tup [.int m,.int t.ε]):=ac
 dsimp only
 rw[eg]
 generalize π J pt (.tup [.int m,.int t.ε])=H3 at L R⊢
 have L7:=(gQ0 N)
 refine⟨a,cN r m t,_,m,t.ε,l,{t with ε:=t.ε+1},Z,Λ,Ec.same I L,⟨pt,Λ,R⟩,by unfold cN;simp[L7],hl,EI,Hy,u,λH' o' NA=>?_⟩
 exact q H' ((D.mono (by simp)).trans ((DP.EA L).trans o')) NA
theorem sM(us:List Nat)(i:Nat):gB (nV us) Γ (Β (i:Int))=nV (us.take i):=by
 unfold gB
 have b:HT.G6 (nV us).length 0 Γ=0:=rfl
 rw[b,show HT.G6 (nV us).length (nV us).length (Β (i:Int))=min i (nV us).length from HT.Fy _ _ i,List.drop_zero,Nat.sub_zero]
 unfold nV
 rw[UA,Ο]
 refine qp λj=>?_
 simp only[Ni,ϝ]
 by_cases a:j<i
 ·by_cases c:j<us.length
  ·rw[Ι (by omega),Ι a]
  ·rw[Θ (by omega),Ι a,Í (by omega)];rfl
 ·rw[Θ (by omega),Θ a]
theorem AQ(us:List Nat)(i:Nat):gB (nV us) (Β (i:Int)) (Β ((i:Int)+1))=nV ((us.drop i).take 1):=by
 unfold gB
 rw[show HT.G6 (nV us).length 0 (Β (i:Int))=min i (nV us).length from HT.Fy _ _ i,show((i:Int)+1)=((i+1:Nat):Int) by omega,show HT.G6 (nV us).length (nV us).length (Β ((i+1:Nat):Int))=min (i+1) (nV us).length from HT.Fy _ _ (i+1),aU]
 by_cases h:i<us.length
 ·rw[GK (by omega),GK (by omega),show i+1 - i=1 by omega]
  unfold nV
  rw[UA,UD]
 ·rw[NX (by omega),NX (by omega),Nat.sub_self,List.take_zero,List.drop_eq_nil_of_le (by omega)];rfl
theorem tT(us:List Nat):nV us=(iz us).map V.int:=(Do us).symm
theorem yu(k:Nat):∀us:List Nat,(iz us).idxOf (k:Int)=us.idxOf k
 |[]=>rfl
 | u:: us=>by
  have a:=yu k us
  unfold iz at a⊢
  rw[Ç,JV,JV,a]
  by_cases h:u=k
  ·subst h;simp
  ·have b:((u:Int) == (k:Int))=Ε:=by simp;omega
   have c:(u == k)=Ε:=by simp;exact h
   rw[b,c]
inductive Mv
 |Fm (k l:Nat)|on (k l:Nat)|Fn (k:Nat)|back (k:Nat)
noncomputable def dA:Mv->List V
 |.Fm k l=>[.str "in",.int k,.int l]
 |.on k l=>[.str "on",.int k,.int l]
 |.Fn k=>[.str "lie",.int k]
 |.back k=>[.str "back",.int k]
noncomputable def dO(s:YS)(l:Nat)(m c:Int):Bool:=match s.δ[l]? with
 |some ln=>c9 ln.r ln.h m c
 |none=>Ε
noncomputable def bC(s:YS)(k:Nat):Option (Int×Int):=match s.δ[k]? with
 |some ln=>ln.qs.head?
 |none=>Γ
noncomputable def lz(a:YA)(l g:Nat):List Nat:=if (a.ps.getD l (0,0)).2=(g:Int) then [] else a.wy (a.ps.getD l (0,0)).2.toNat g (Β l)
noncomputable def ck(a:YA)(s:YS)(k:Nat):List Nat:=match bC s k with
 |none=>[]
 | some q=>match s.U[q.1.toNat]? with
  |none=>[]
  |some t=>if q.2=0 then (lz a k t.μ.toNat).filter λl=>!decide (l∈t.Α) else (t.Α.drop (t.Α.idxOf k+1)).take 1
noncomputable def c5(a:YA)(t:bE):List Nat:=if t.ε=0 then a.wy t.start.toNat t.μ.toNat Γ else t.Α.take 1
noncomputable def iV(a:YA)(s:YS)(k:Nat):List Mv:=match s.U[k]? with
 |none=>[]
 |some t=>if t.ε=t.len then [] else ((c5 a t).filter λl=>dO s l k t.ε).map (Mv.Fm k)
noncomputable def jz(a:YA)(s:YS)(k:Nat):List Mv:=match bC s k with
 |none=>[]
 |some q=>((ck a s k).filter λl=>dO s l q.1 q.2).map (Mv.on k)
noncomputable def fP(a:YA)(s:YS)(k:Nat):List Mv:=match bC s k with
 |none=>[]
 | some q=>match s.U[q.1.toNat]? with
  |none=>[]
  |some t=>if t.μ=(a.ps.getD k (0,0)).2 then [.Fn k] else []
noncomputable def dZ(s:YS)(k:Nat):List Mv:=match s.δ[k]? with
 |some ln=>if 0<ln.b then [.back k] else []
 |none=>[]
structure sT(a:YA):Prop where
 ends:∀(l:Nat)(pr:Int×Int),a.ps[l]?=Β pr->∃e:Nat,pr.2=(e:Int)/\e<a.n
 E4:∀p g k,(a.wy p g k).length<=400
structure XD(a:YA)(s:YS):Prop where
 δ:s.δ.length=a.ps.length
 ι:s.ι.length=a.n
 lets:∀(m:Nat)(t:bE),s.U[m]?=Β t->∃x y:Nat,t.start=(x:Int)/\t.μ=(y:Int)/\x<a.n/\y<a.n
 EH:∀(m:Nat)(t:bE),s.U[m]?=Β t->(∀l∈t.Α,l<a.ps.length)/\t.Α.length<=1000
 Fc:∀(k:Nat)(ln:bO),s.δ[k]?=Β ln->∀q∈ln.qs,∃(m:Nat)(t:bE),q.1=(m:Int)/\s.U[m]?=Β t/\k∈t.Α
 E4:s.U.length<=60
structure Ic(K:ϣ)(c:Cs)(TC:Ν)(J:TJ)(ys:Ys)(H:Hp)(a:YA)(s:YS):Prop where
 Y:E8 K ys H a s
 T:Bc c TC J H a
 O:sT a
 G:XD a s
theorem Ic.same(W:Wy K TC fw dw J)(h:Ic K c TC J ys H a s)(e:DP H H'):Ic K c TC J ys H' a s:=⟨Ec.same h.Y e,EL.keep W h.T (DP.Ed e),h.O,h.G⟩
inductive tq(K:ϣ)(c:Cs)(TC:Ν)(J:TJ)(ys:Ys)(f:YA->YS->Nat->List Mv)(len:YS->Nat)(vs:List V)(H:Hp)(Q:VK)(E:XK):Prop
 |mk (a:YA) (s:YS) (k:Nat) (_:vs=[.ref a.y,.int k]) (_:Ic K c TC J ys H a s) (_:k<len s) (_:∀(D:Ν)(En:List V)(H':Hp),DP H H'->H D=Γ->H' D=Β (.ρ En)->Paired (EY H') En ((f a s k).map dA)->Q (.ref D) H')
def rJ(K:ϣ)(c:Cs)(TC:Ν)(J:TJ)(ys:Ys):Sp:=tq K c TC J ys iV (λs=>s.U.length)
def rH(K:ϣ)(c:Cs)(TC:Ν)(J:TJ)(ys:Ys):Sp:=tq K c TC J ys jz (λs=>s.δ.length)
def tu(K:ϣ)(c:Cs)(TC:Ν)(J:TJ)(ys:Ys):Sp:=tq K c TC J ys fP (λs=>s.δ.length)
def kR(K:ϣ)(c:Cs)(TC:Ν)(J:TJ)(ys:Ys):Sp:=tq K c TC J ys (λ_ s k=>dZ s k) (λs=>s.δ.length)
inductive kP(K:ϣ)(c:Cs)(TC:Ν)(J:TJ)(ys:Ys)(vs:List V)(H:Hp)(Q:VK)(E:XK):Prop
 |mk (a:YA) (s:YS) (k:Nat) (_:vs=[.ref a.y,.int k]) (_:Ic K c TC J ys H a s) (_:k<s.δ.length) (_:∀(D:Ν)(H':Hp),DP H H'->H D=Γ->H' D=Β (.ρ (nV (ck a s k)))->Q (.ref D) H')
inductive Bs(c:Cs)(C:Ν)(J:TJ)(vs:List V)(H:Hp)(Q:VK)(E:XK):Prop
 |mk (a:YA) (l g:Nat) (_:vs=[.ref a.tb,.int l,.int g]) (_:Bc c C J H a) (_:sT a) (_:l<a.ps.length) (_:g<a.n) (_:∀(D:Ν)(H':Hp),DP H H'->H D=Γ->H' D=Β (.ρ (nV (lz a l g)))->Q (.ref D) H')
theorem pB(b:Nat->Bool)(f:Nat->Mv)(E:us.length<Χ)(r:H p=Β (.ρ (nV us)))
  (F:∀(u:Nat)(a:Hp)(acc:List V)(N:List V->Hp->Prop),u∈us->DP H a->(b u=Δ->∀v c,DP a c->EY c v (dA (f u))->N (acc++[v]) c)->(b u=Ε->N acc a)->
   g (.int u) σ0 a λj c=>tt j c λb t=>if b=Δ then te j t λy m=>N (acc++[y]) m else N acc t)
  (G:∀D A a,DP H a->a D=Γ->Paired (EY a) A (((us.filter b).map f).map dA)->Q (.ref D) (π a D (.ρ A))):e9 (yY K p) g tt te σ0 Q H:=by
 refine bQ us.length E (λi acc d=>DP H d/\Paired (EY d) acc ((((us.take i).filter b).map f).map dA)) ⟨DP.refl _,.nil⟩ (λi acc d h=>by
   rw[Paired.length h.2,Ο,Ο]
   have L:=Ò b (us.take i)
   have M:=Ą i us
   omega) (λi acc d B h=>?_) (λacc d h=>?_)
 ·obtain⟨s,l⟩:=h
  have o:=Μ B
  refine⟨⟨_,_,DS.of (s _ _ r),cZ o⟩,λv c y=>?_⟩
  obtain⟨rfl,y⟩:=y
  have q:=y _ (DS.of (s _ _ r))
  rw[cZ o]at q
  cases q
  refine F us[i] c acc (λI m=>DP H m/\Paired (EY m) I ((((us.take (i+1)).filter b).map f).map dA)) (ė B) s (λx v t C q=>⟨s.trans C,?_⟩) (λx=>⟨s,?_⟩)
  ·rw[ß,o,ÿ]
   have e:(Β us[i]).toList.filter b=[us[i]]:=by simp[x]
   rw[e,ϯ,ϯ]
   exact Paired.snoc q (Paired.mono (λ_ _ z=>z.keep (DP.Ed C)) l)
  ·rw[ß,o,ÿ]
   have e:(Β us[i]).toList.filter b=[]:=by simp[x]
   rw[e,Ę]
   exact l
 ·obtain⟨s,l⟩:=h
  rw[Þ]at l
  exact⟨⟨_,DS.of (s _ _ r),by rw[aU];exact Ξ _⟩,λD J=>G D acc d s J l⟩
noncomputable def Cp(s:Ã):Scope:=match s with
 |.Return (Β (.ListComp _ _ sc _)) _=>sc
 |_=>zQ0
noncomputable def Ds(s:Ã):Scope:=match s with
 |.If _ [s'] _ _=>Cp s'
 |_=>zQ0
abbrev NMi:List Str:=["self","number","letter","wanted"]
abbrev NWa:List Str:=["self","lane","piece","letter","behind"]
abbrev NMo:List Str:=["self","lane","piece","wanted"]
theorem NB:ar NMi ["self","number"] (aj qc):=L2.Ez
theorem XE:EV NMi (aj qc) (Cp ((aJ qc).getD 3 (.Pass ⟨0,0,0,0⟩))) ["self","number","letter"] [0,1,2]:=L2.FH
theorem XF:(["lane","self","number","letter"]:List Str).Nodup:=by decide +kernel
theorem Aa(F:Et K "moves_in" "Yard.moves_in" qc f fd)(Y:jo K ys)(W:Wy K TC fw dw J)(N2:DQ P w K mg ν aB 3 fw dw ["self","place","goal","came"] (iA J))
  (mo:bW K ys.Ek "open_to" fo) (bo:Binds K GL ["self","letter","count"] []) (Go:DQ P w K mg ν aB 1 fo GL ["self","letter","count"] (oy ys.Ek)):
  DQ P w K mg ν aB 4 f fd ["self","number"] (rJ K c TC J ys):=by
 refine F.ok NB λ_ _ _ s H _ Q E hr h=>?_
 obtain⟨a,I,k,rfl,e,hk,q⟩:=h
 have EF:DZ 1 _:=hr.mono (by decide)
 refine⟨_,ae (av (i:=2) NB.nd Λ (ġ Λ) (aD aR (ap (pv 0) Λ) (pv 1) (λ_ _=>rfl)))
  (ae (aO (az bT (ap (pv 2) Λ) (ap (pv 2) Λ) (aA _)) (ah (au (aW ad))) aE)
  (ae (av (i:=3) NB.nd Λ (ύ Λ) (oQ (dG (az bT (ap (pv 2) Λ) ai (aA _)) (aI (ap (pv 0) Λ) W.cl W.m N2 hr W.b .nil ao (aa (ap (pv 2) Λ) (aa (ap (pv 2) Λ) (aa cz ad)))) (dF eB (ap (pv 2) Λ) iP (cY ai)))))
  (ah (au (b5 (own:=["lane"]) (capN:=["self","number","letter"]) (cap:=[0,1,2]) XE Λ (aV (pv 3)) (λC s' H' fp=>⟨ax (i:=0) XF Λ (ύ Λ),cX (bH (aI (aD (show uB _ (xn K) from aR) (show PE _ _ (kJ K (jQ 1) "lanes") from ap (pv 1) Λ) (pv 0) (λ_ _=>rfl)) Y.L.cl mo Go EF bo .nil ao (aa (pv 2) (aa (show PE _ _ (kJ K (jQ 3) "gone") from ap (pv 3) Λ) ad)))),bq (aa bR (aa (pv 2) (aa (pv 0) ad)))⟩)))))),?_⟩
 have hY:=e.Y
 obtain⟨DX,Fz,pl⟩:=hY.ω
 obtain⟨t,ht⟩:∃t,I.U[k]?=Β t:=⟨_,Μ hk⟩
 obtain⟨v,hv,x,o,wa,rfl,p,hw,_⟩:=Paired.at2 pl ht
 obtain⟨x0,y0,e1,e2,Ks,M⟩:=e.G.lets k t ht
 obtain⟨Hy,hw9⟩:=e.G.EH k t ht
 unfold iV at q
 rw[ht]at q
 refine⟨a.y,ys.DR,a.dy,_,_,Λ,hY.ς,Y.cl,Y.n4,Λ,a.le,DX,(k:Int),_,Λ,Λ,DS.of Fz,al hv,x,ys.DU,o,_,_,Λ,p,Y.ct,Y.t5,Λ,x,ys.DU,o,_,_,Λ,p,Y.ct,Y.t3,Λ,Λ,_,Λ,?_⟩
 rw[bZ]
 by_cases X:t.ε=t.len
 ·rw[Ζ X]
  dsimp only at q
  rw[Ι X]at q
  exact aK ⟨Ϧ _,λD R=>q D [] _ ((DP.refl H).new R) R ac .nil⟩
 rw[Η X]
 dsimp only at q
 rw[Θ X]at q
 refine aG ⟨λv Z=>∃D,v=.ref D/\DP H Z/\Z D=Β (.ρ (nV (c5 a t))),?_,?_⟩
 ·refine⟨x,ys.DU,o,_,_,Λ,p,Y.ct,Y.t5,Λ,Λ,_,Λ,?_⟩
  rw[bZ]
  unfold c5
  by_cases d:t.ε=0
  ·rw[Ζ d,Ι d]
   obtain⟨Jy,fst,Jd,Fg,GA⟩:=e.T.i
   refine aK ⟨a.y,ys.DR,a.dy,_,_,Λ,hY.ς,Y.cl,Y.n1,Λ,a.tb,Jy,fst,Λ,Jd,GA,x,ys.DU,o,_,_,Λ,p,Y.ct,Y.t1,Λ,x,ys.DU,o,_,_,Λ,p,Y.ct,Y.t2,Λ,?_⟩
   rw[e1,e2,ϋ,ϋ]
   exact⟨a.tb,a.n,a.wy,x0,y0,Γ,Λ,e.T.j,Ks,M,λD Z B R gD=>⟨D,Λ,B,gD⟩⟩
  ·rw[Η d,Θ d]
   refine aG ⟨x,ys.DU,o,_,_,Λ,p,Y.ct,Y.t6,Λ,_,Λ,wa,_,Λ,DS.of hw,λD R=>⟨D,Λ,(DP.refl H).new R,?_⟩⟩
   rw[ac,show((1:Int))=((1:Nat):Int) from Λ,sM]
 rintro v Z ⟨D,rfl,B,gD⟩
 have Ie:=e.same W B
 have Hh:=Ie.Y
 have F8:=B _ _ p
 obtain⟨Eb,EO,JN⟩:=Hh.χ
 have UZ:(c5 a t).length<=1000:=by
  unfold c5
  by_cases d:t.ε=0
  ·rw[Ι d];exact Î (e.O.E4 _ _ _) (by decide)
  ·rw[Θ d];rw[ć];omega
 have HR:∀u∈c5 a t,u<a.ps.length:=λu A=>by
  unfold c5 at A
  by_cases d:t.ε=0
  ·rw[Ι d,e1,e2,ϋ,ϋ]at A;exact e.T.ok _ _ _ Ks M u A
  ·rw[Θ d]at A;exact Hy u (ì A)
 refine⟨D,Λ,⟨_,DS.of gD⟩,?_⟩
 refine pB (λl=>dO I l k t.ε) (Mv.Fm k) (by rw[ϗ];omega) gD (λu H2 acc N A S L9 J0=>?_) (λD2 NC H2 S FP hp=>?_)
 ·have HS:=Ie.same W S
  obtain⟨ND,NG,NH⟩:=HS.Y.χ
  have Va:u<I.δ.length:=by rw[e.G.δ];exact HR u A
  obtain⟨g,Ej⟩:∃g,I.δ[u]?=Β g:=⟨_,Μ Va⟩
  obtain⟨vl,Kt,xl,FU,MF,NJ,rfl,hL,_⟩:=Paired.at2 NH Ej
  refine⟨a.y,ys.DR,a.dy,_,_,Λ,HS.Y.ς,Y.cl,Y.n3,Λ,a.la,ND,(u:Int),_,Λ,Λ,DS.of NG,al Kt,xl,FU,_,Λ,hL.ς,Λ,x,ys.DU,o,_,_,Λ,S _ _ F8,Y.ct,Y.t5,Λ,xl,FU,MF,g.r,g.b,g.h,(k:Int),t.ε,Λ,hL.ς,_,Λ,?_⟩
  have eo:dO I u k t.ε=c9 g.r g.h k t.ε:=by unfold dO;rw[Ej]
  cases ho:c9 g.r g.h k t.ε with
  |false=>exact aG (J0 (by rw[eo,ho]))
  |true=>exact aK ⟨by show 3<=Χ;decide,λz hz=>L9 (by rw[eo,ho]) _ _ ((DP.refl H2).new hz) ⟨z,Λ,ac⟩⟩
 ·exact q D2 NC _ ((B.trans S).new FP) (B.free (S.free FP)) ac (Paired.mono (λ_ _ z=>z.keep (DP.Ed ((DP.refl H2).new FP))) hp)
theorem lR(h:Eu H Ep qs):(qs.head?=Γ/\sG Ep=.Eg)∨∃q pt,qs.head?=Β q/\sG Ep=.ref pt/\H pt=Β (.tup [.int q.1,.int q.2]):=by
 cases h with
 |nil=>exact .inl ⟨Λ,Λ⟩
 |cons x r=>obtain⟨t,rfl,a⟩:=x;exact .inr ⟨_,t,Λ,Λ,a⟩
theorem LA:ar ["table","lane","goal","end"] ["table","lane","goal"] (aj UL):=L2.Ez
theorem CB(F:Et K "onward" "onward" UL f fd)(L:rp K c)(W:Wy K C fw dw J)(x:DQ P w K mg ν aB 3 fw dw ["self","place","goal","came"] (iA J))
  (M:vG K c fe de) (y:DQ P w K mg ν aB 1 fe de ["self","lane"] (uK c ç)):DQ P w K mg ν aB 4 f fd ["table","lane","goal"] (Bs c C J):=by
 refine F.ok LA λ_ _ _ s H _ Q E t h=>?_
 obtain⟨a,l,g,rfl,d,z,A,B,q⟩:=h
 have G:DZ 1 _:=t.mono (by decide)
 refine⟨_,ae (av (i:=3) LA.nd Λ (ύ Λ) (aI (ap (pv 0) Λ) L.cl M.m y G M.b .nil ao (aa (pv 1) ad)))
  (ah (au (dG (az bT (pv 3) (pv 2) (aA _)) (aW ad) (aI (pv 0) W.cl W.m x t W.b .nil ao (aa (pv 3) (aa (pv 2) (aa (pv 1) ad))))))),?_⟩
 obtain⟨u,fs,v,I,N⟩:=d.i
 have r:=Μ A
 have O:a.ps.getD l (0,0)=a.ps[l]:=by rw[Ω,r];rfl
 unfold lz at q
 rw[O]at q
 obtain⟨e,ee,R⟩:=z.ends l _ r
 refine⟨a.tb,C,u,fs,_,Λ,v,W.cl,W.nl,I,a.lx,a.Eh,_,Λ,d.l.1,Λ,a.lx,a.Eh,a.lt,(a.n:Int),a.DX,a.ps,l,_,Λ,d.l,r,?_⟩
 rw[ee]at q⊢
 rw[ϋ]at q
 refine⟨Λ,_,Λ,?_⟩
 rw[bZ]
 by_cases o:(e:Int)=(g:Int)
 ·rw[Ζ o]
  rw[Ι o]at q
  exact aK ⟨Ϧ _,λD p=>q D _ ((DP.refl H).new p) p ac⟩
 ·rw[Η o]
  rw[Θ o]at q
  exact aG ⟨a.tb,u,fs,Λ,v,N,a.tb,a.n,a.wy,e,g,Β l,Λ,d.j,R,B,λD U S p T=>q D _ S p T⟩
theorem LB:ar NWa ["self","lane"] (aj iG):=L2.Ez
theorem XG:EV NWa (aj iG) (Ds ((aJ iG).getD 3 (.Pass ⟨0,0,0,0⟩))) ["letter"] [3]:=L2.FH
theorem XH:(["way","letter"]:List Str).Nodup:=by decide +kernel
theorem uY(F:Et K "wanted" "Yard.wanted" iG f fd)(Y:jo K ys)(W:Wy K TC fw dw J)
  (mf:bW K ys.Ek "front" ff) (bf:Binds K df ["self"] []) (Gf:DQ P w K mg ν aB 1 ff df ["self"] (jV ys.Ek))
  (mo:mg "onward"=Β (.ref fo)) (ko:ϳ K (.ref fo)=Δ) (bo:Binds K GL ["table","lane","goal"] []) (Go:DQ P w K mg ν aB 4 fo GL ["table","lane","goal"] (Bs c TC J)):
  DQ P w K mg ν aB 5 f fd ["self","lane"] (kP K c TC J ys):=by
 refine F.ok LB λ_ _ _ s H _ Q E hr h=>?_
 obtain⟨a,st,k,rfl,d,hk,q⟩:=h
 have EF:DZ 1 _:=hr.mono (by decide)
 refine⟨_,ae (av (i:=2) LB.nd Λ (ύ Λ) (aQ (aD aR (ap (pv 0) Λ) (pv 1) (λ_ _=>rfl)) Y.L.cl mf Gf EF bf .nil ao))
  (ae (aO (az oU (pv 2) cz (aA _)) (ah (au (aW ad))) aE)
  (ae (av (i:=3) LB.nd Λ (ġ Λ) (aD aR (ap (pv 0) Λ) (aD aH (pv 2) ai (λ_ _=>rfl)) (λ_ _=>rfl)))
  (ae (aO (az bT (aD aH (pv 2) ai (λ_ _=>rfl)) ai (aA _))
   (ah (au (b5 (own:=["way"]) (capN:=["letter"]) (cap:=[3]) XG Λ (aV (aq Go hr Λ mo ko bo .nil ao (aa (ap (pv 0) Λ) (aa (pv 1) (aa (ap (pv 3) Λ) ad))))) (λC s' H' fp=>⟨ax (i:=0) XH Λ (ύ Λ),cX (az (show fz _ (compareOp .NotIn) (U8 K Δ) from iR) (pv 0) (show PE _ _ (kJ K (jQ 1) "way") from ap (pv 1) Λ) (by with_unfolding_all rfl)),pv 0⟩)))) aE)
  (ae (av (i:=4) LB.nd Λ (ύ Λ) (aC bU (c8 plainAttrs_list slot_list_index PySem.F.type_list_index nh (ap (pv 3) Λ) (aa (pv 1) ad)) ai))
  (ah (au (dF eB (ap (pv 3) Λ) (cY (pv 4)) (cY (aC bU (pv 4) ai))))))))),?_⟩
 have p:=d.Y
 obtain⟨Eb,EO,JN⟩:=p.χ
 obtain⟨g,Ej⟩:∃g,st.δ[k]?=Β g:=⟨_,Μ hk⟩
 obtain⟨vl,Kt,xl,FU,MF,NJ,rfl,Z,_⟩:=Paired.at2 JN Ej
 refine⟨a.y,ys.DR,a.dy,_,_,Λ,p.ς,Y.cl,Y.n3,Λ,a.la,Eb,(k:Int),_,Λ,Λ,DS.of EO,al Kt,xl,FU,_,Λ,Z.ς,Λ,xl,FU,MF,g.r,g.b,g.h,NJ,g.qs,Λ,Z,?_⟩
 unfold ck bC at q
 rw[Ej]at q
 dsimp only at q
 rcases lR Z.Fc with ⟨B,ef⟩|⟨pq,pt,B,ef,IG⟩
 ·rw[B]at q
  rw[ef]
  exact⟨Λ,_,Λ,aK ⟨Ϧ _,λD o=>q D _ ((DP.refl H).new o) o ac⟩⟩
 rw[B]at q
 rw[ef]
 have hqm:=û B
 obtain⟨m,t,em,I,IH⟩:=d.G.Fc k g Ej pq hqm
 obtain⟨x0,A,e1,e2,Ks,hy0⟩:=d.G.lets m t I
 obtain⟨Hy,hw9⟩:=d.G.EH m t I
 rw[em]at IG
 dsimp only at q
 rw[em,ϋ,I]at q
 dsimp only at q
 refine⟨Λ,_,Λ,aG ?_⟩
 obtain⟨DX,Fz,pl⟩:=p.ω
 obtain⟨v,hv,x,M,wa,rfl,R,S,_⟩:=Paired.at2 pl I
 refine⟨a.y,ys.DR,a.dy,_,_,Λ,p.ς,Y.cl,Y.n4,Λ,pt,_,0,_,Λ,Λ,DY.of IG,al (j:=0) Λ,a.le,DX,(m:Int),_,Λ,Λ,DS.of Fz,al hv,pt,_,1,_,Λ,Λ,DY.of IG,al (j:=1) Λ,Λ,_,Λ,?_⟩
 rw[bZ]
 by_cases U:pq.2=0
 ·rw[Ζ U]
  rw[Ι U,e2,ϋ]at q
  refine aK ⟨a.y,ys.DR,a.dy,_,_,Λ,p.ς,Y.cl,Y.n1,Λ,x,ys.DU,M,_,_,Λ,R,Y.ct,Y.t2,Λ,?_⟩
  rw[e2]
  refine⟨a,k,A,Λ,d.T,d.O,by rw[←d.G.δ];exact hk,hy0,λD H1 X o gD=>⟨D,Λ,⟨_,DS.of gD⟩,?_⟩⟩
  have Ng:(lz a k A).length<=400:=by
   unfold lz
   by_cases z:(a.ps.getD k (0,0)).2=(A:Int)
   ·rw[Ι z];exact Ϧ _
   ·rw[Θ z];exact d.O.E4 _ _ _
  refine je (λv=>match v with|.int i=>!decide (i∈iz t.Α)|_=>Ε) (λv=>v) (by rw[aU,ϗ];omega) (DS.of gD) (λy acc N hy h=>?_) (λD2 FP=>?_)
  ·obtain⟨u,hu,rfl⟩:=CZ hy
   refine⟨x,ys.DU,M,_,_,Λ,X _ _ R,Y.ct,Y.t6,Λ,wa,_,Λ,.inl (DS.of (X _ _ S)),Λ,by rw[tT];exact gN _,_,Λ,?_⟩
   rw[tT,kB]
   have h:N (if (!decide ((u:Int)∈iz t.Α))=Δ then acc++[V.int u] else acc) H1:=h
   cases hb:decide ((u:Int)∈iz t.Α) with
   | true =>
    rw[hb]at h
    exact aG h
   | false =>
    rw[hb]at h
    exact aK (h)
  ·have e:((nV (lz a k A)).filter (λv=>match v with|.int i=>!decide (i∈iz t.Α)|_=>Ε)).map (λv=>v)=nV ((lz a k A).filter λl=>!decide (l∈t.Α)):=by
    rw[List.map_id']
    unfold nV
    rw[S8]
    congr 1
    refine OV λu _=>?_
    show(!decide ((u:Int)∈iz t.Α))=_
    rw[pf]
   rw[e]
   exact q D2 _ (X.new FP) (X.free FP) ac
 ·rw[Η U]
  rw[Θ U]at q
  refine aG ⟨x,ys.DU,M,_,_,Λ,R,Y.ct,Y.t6,Λ,.inl ⟨Λ,_,DS.of S⟩,wa,iz t.Α,(k:Int),Λ,Λ,by rw[←tT];exact S,Fb.mpr ⟨k,IH,Λ⟩,by unfold iz;rw[Ο];omega,_,_,Λ,Λ,?_⟩
  rw[yu]
  refine⟨x,ys.DU,M,_,_,Λ,R,Y.ct,Y.t6,Λ,_,Λ,_,_,Λ,Λ,_,Λ,wa,_,Λ,DS.of S,λD o=>?_⟩
  have e:gB (nV t.Α) (Β (((t.Α.idxOf k:Nat):Int)+1)) (Β (((t.Α.idxOf k:Nat):Int)+1+1))=nV ((t.Α.drop (t.Α.idxOf k+1)).take 1):=by
   have:=AQ t.Α (t.Α.idxOf k+1)
   rw[←this]
   rfl
  dsimp only
  rw[e]
  exact q D _ ((DP.refl H).new o) o ac
theorem NK:ar NMo ["self","lane"] (aj qb):=L2.Ez
theorem XI:EV NMo (aj qb) (Cp ((aJ qb).getD 2 (.Pass ⟨0,0,0,0⟩))) ["self","lane","piece"] [0,1,2]:=L2.FH
theorem XJ:(["other","self","lane","piece"]:List Str).Nodup:=by decide +kernel
theorem zZ(F:Et K "moves_on" "Yard.moves_on" qb f fd)(Y:jo K ys)(W:Wy K TC fw dw J)
  (mf:bW K ys.Ek "front" ff) (bf:Binds K df ["self"] []) (Gf:DQ P w K mg ν aB 1 ff df ["self"] (jV ys.Ek))
  (ma:bW K ys.DR "wanted" fa) (ba:Binds K da ["self","lane"] []) (Ga:DQ P w K mg ν aB 5 fa da ["self","lane"] (kP K c TC J ys))
  (mo:bW K ys.Ek "open_to" fo) (bo:Binds K GL ["self","letter","count"] []) (Go:DQ P w K mg ν aB 1 fo GL ["self","letter","count"] (oy ys.Ek)):
  DQ P w K mg ν aB 6 f fd ["self","lane"] (rH K c TC J ys):=by
 refine F.ok NK λ_ _ _ s H _ Q E hr h=>?_
 obtain⟨a,o,k,rfl,p,hk,q⟩:=h
 have EF:DZ 1 _:=hr.mono (by decide)
 refine⟨_,ae (av (i:=2) NK.nd Λ (ġ Λ) (aQ (aD aR (ap (pv 0) Λ) (pv 1) (λ_ _=>rfl)) Y.L.cl mf Gf EF bf .nil ao))
  (ae (av (i:=3) NK.nd Λ (ύ Λ) (aI (pv 0) Y.cl ma Ga hr ba .nil ao (aa (pv 1) ad)))
  (ah (au (b5 (own:=["other"]) (capN:=["self","lane","piece"]) (cap:=[0,1,2]) XI Λ (aV (pv 3)) (λC s' H' fp=>⟨ax (i:=0) XJ Λ (ύ Λ),cX (bH (aI (aD (show uB _ (xn K) from aR) (show PE _ _ (kJ K (jQ 1) "lanes") from ap (pv 1) Λ) (pv 0) (λ_ _=>rfl)) Y.L.cl mo Go EF bo .nil ao (aa (aD (show uB _ (qk K) from aH) (pv 3) ai (λ_ _=>rfl)) (aa (aD (show uB _ (qk K) from aH) (pv 3) ai (λ_ _=>rfl)) ad)))),bq (aa bR (aa (pv 2) (aa (pv 0) ad)))⟩))))),?_⟩
 have hY:=p.Y
 obtain⟨Eb,EO,JN⟩:=hY.χ
 obtain⟨v,Ej⟩:∃v,o.δ[k]?=Β v:=⟨_,Μ hk⟩
 obtain⟨vl,Kt,xl,FU,MF,NJ,rfl,hL,_⟩:=Paired.at2 JN Ej
 refine⟨a.y,ys.DR,a.dy,_,_,Λ,hY.ς,Y.cl,Y.n3,Λ,a.la,Eb,(k:Int),_,Λ,Λ,DS.of EO,al Kt,xl,FU,_,Λ,hL.ς,Λ,xl,FU,MF,v.r,v.b,v.h,NJ,v.qs,Λ,hL,a.y,a.dy,_,Λ,hY.ς,Λ,a,o,k,Λ,p,hk,λD H1 B hD X=>?_⟩
 refine⟨D,Λ,⟨_,DS.of X⟩,?_⟩
 have Ie:=p.same W B
 have eF:bC o k=v.qs.head?:=by unfold bC;rw[Ej]
 have HR:∀u∈ck a o k,u<a.ps.length:=λu d=>by
  unfold ck at d
  rw[eF]at d
  cases hq:v.qs.head? with
  |none=>rw[hq]at d;cases d
  | some g =>
   rw[hq]at d
   obtain⟨m,t,em,hm,IH⟩:=p.G.Fc k v Ej g (û hq)
   obtain⟨x0,y0,e1,e2,Ks,hy0⟩:=p.G.lets m t hm
   dsimp only at d
   rw[em,ϋ,hm]at d
   dsimp only at d
   by_cases M:g.2=0
   ·rw[Ι M,e2,ϋ]at d
    have d:=(Å.mp d).1
    unfold lz at d
    by_cases z:(a.ps.getD k (0,0)).2=(y0:Int)
    ·rw[Ι z]at d;cases d
    ·rw[Θ z]at d
     have ON:k<a.ps.length:=by rw[←p.G.δ];exact hk
     obtain⟨e,ee,R6⟩:=p.O.ends k _ (Μ ON)
     have JP:a.ps.getD k (0,0)=a.ps[k]:=by rw[Ω,Μ ON];rfl
     rw[JP,ee,ϋ]at d
     exact p.T.ok _ _ _ R6 hy0 u d
   ·rw[Θ M]at d
    exact(p.G.EH m t hm).1 u (ű (ì d))
 have Hy:(ck a o k).length<=1000:=by
  unfold ck
  cases bC o k with
  |none=>exact Ϧ _
  | some g =>
   dsimp only
   cases o.U[g.1.toNat]? with
   |none=>exact Ϧ _
   | some t =>
    dsimp only
    by_cases M:g.2=0
    ·rw[Ι M]
     refine Î (Ò _ _) ?_
     unfold lz
     by_cases z:(a.ps.getD k (0,0)).2=((t.μ.toNat:Nat):Int)
     ·rw[Ι z];exact Ϧ _
     ·rw[Θ z];exact Î (p.O.E4 _ _ _) (by decide)
    ·rw[Θ M,ć];omega
 unfold jz at q
 rw[eF]at q
 rcases lR hL.Fc with ⟨Z,ef⟩|⟨g,pt,Z,ef,IG⟩
 ·have e0:ck a o k=[]:=by unfold ck;rw[eF,Z]
  rw[Z]at q
  rw[e0]at X
  refine pB (λl=>Ε) (Mv.on k) (by rw[ϗ];decide) X (λu I acc N d x L9 J0=>by cases d) (λD2 NC I x A hp=>?_)
  exact q D2 NC _ ((B.trans x).new A) (B.free (x.free A)) ac (Paired.mono (λ_ _ z=>z.keep (DP.Ed ((DP.refl I).new A))) hp)
 rw[Z]at q
 dsimp only at q
 rw[ef]
 refine pB (λl=>dO o l g.1 g.2) (Mv.on k) (by rw[ϗ];omega) X (λu I acc N d x L9 J0=>?_) (λD2 NC I x A hp=>?_)
 ·have HS:=Ie.same W x
  obtain⟨ND,NG,NH⟩:=HS.Y.χ
  have Va:u<o.δ.length:=by rw[p.G.δ];exact HR u d
  obtain⟨EB,ER⟩:∃v,o.δ[u]?=Β v:=⟨_,Μ Va⟩
  obtain⟨vu,hvu,xu,R,pau,pvu,rfl,S,_⟩:=Paired.at2 NH ER
  have Kr:=x _ _ (B _ _ IG)
  refine⟨a.y,ys.DR,a.dy,_,_,Λ,HS.Y.ς,Y.cl,Y.n3,Λ,a.la,ND,(u:Int),_,Λ,Λ,DS.of NG,al hvu,xu,R,_,Λ,S.ς,Λ,pt,_,0,_,Λ,Λ,DY.of Kr,al (j:=0) Λ,pt,_,1,_,Λ,Λ,DY.of Kr,al (j:=1) Λ,xu,R,pau,EB.r,EB.b,EB.h,g.1,g.2,Λ,S.ς,_,Λ,?_⟩
  have eo:dO o u g.1 g.2=c9 EB.r EB.h g.1 g.2:=by unfold dO;rw[ER]
  cases ho:c9 EB.r EB.h g.1 g.2 with
  |false=>exact aG (J0 (by rw[eo,ho]))
  |true=>exact aK ⟨by show 3<=Χ;decide,λz hz=>L9 (by rw[eo,ho]) _ _ ((DP.refl I).new hz) ⟨z,Λ,ac⟩⟩
 ·exact q D2 NC _ ((B.trans x).new A) (B.free (x.free A)) ac (Paired.mono (λ_ _ z=>z.keep (DP.Ed ((DP.refl I).new A))) hp)
theorem R7:ar ["self","lane","piece"] ["self","lane"] (aj rQ):=L2.Ez
theorem xI(F:Et K "moves_lie" "Yard.moves_lie" rQ f fd)(Y:jo K ys)(L:rp K c)(W:Wy K TC fw dw J)
  (mf:bW K ys.Ek "front" ff) (bf:Binds K df ["self"] []) (Gf:DQ P w K mg ν aB 1 ff df ["self"] (jV ys.Ek)) (M:vG K c fe de) (Ge:DQ P w K mg ν aB 1 fe de ["self","lane"] (uK c ç)):
  DQ P w K mg ν aB 2 f fd ["self","lane"] (tu K c TC J ys):=by
 refine F.ok R7 λ_ _ _ s H _ Q E N h=>?_
 obtain⟨a,O,k,rfl,g,R,q⟩:=h
 refine⟨_,ae (av (i:=2) R7.nd Λ (ύ Λ) (aQ (aD aR (ap (pv 0) Λ) (pv 1) (λ_ _=>rfl)) Y.L.cl mf Gf N bf .nil ao))
  (ae (aO (PW.pt (gc (az oU (pv 2) cz (aA _)) (ga (az mW (ap (aD aR (ap (pv 0) Λ) (aD aH (pv 2) ai (λ_ _=>rfl)) (λ_ _=>rfl)) Λ) (aI (ap (ap (pv 0) Λ) Λ) L.cl M.m Ge N M.b .nil ao (aa (pv 1) ad)) (aA _))))) (ah (au (aW ad))) aE)
  (ah (au (aW (aa (bq (aa bR (aa (pv 1) ad))) ad))))),?_⟩
 have p:=g.Y
 obtain⟨Eb,EO,JN⟩:=p.χ
 obtain⟨e,Ej⟩:∃e,O.δ[k]?=Β e:=⟨_,Μ R⟩
 obtain⟨vl,Kt,S,U,MF,NJ,rfl,B,_⟩:=Paired.at2 JN Ej
 refine⟨a.y,ys.DR,a.dy,_,_,Λ,p.ς,Y.cl,Y.n3,Λ,a.la,Eb,(k:Int),_,Λ,Λ,DS.of EO,al Kt,S,U,_,Λ,B.ς,Λ,S,U,MF,e.r,e.b,e.h,NJ,e.qs,Λ,B,?_⟩
 have eF:bC O k=e.qs.head?:=by unfold bC;rw[Ej]
 unfold fP at q
 rw[eF]at q
 rcases lR B.Fc with ⟨u,C⟩|⟨pq,pt,u,C,X⟩
 ·rw[u]at q
  rw[C]
  exact⟨Λ,_,Λ,aK (aK ⟨Ϧ _,λD d=>q D [] _ ((DP.refl H).new d) d ac .nil⟩)⟩
 rw[u]at q
 rw[C]
 obtain⟨m,t,Z,hm,IH⟩:=g.G.Fc k e Ej pq (û u)
 rw[Z]at X
 dsimp only at q
 rw[Z,ϋ,hm]at q
 dsimp only at q
 obtain⟨DX,Fz,pl⟩:=p.ω
 obtain⟨v,hv,x,dx,wa,rfl,hx,hw,_⟩:=Paired.at2 pl hm
 obtain⟨Jy,I,Jd,Fg,GA⟩:=g.T.i
 have ON:k<a.ps.length:=by rw[←g.G.δ];exact R
 have he:=Μ ON
 have JP:a.ps.getD k (0,0)=a.ps[k]:=by rw[Ω,he];rfl
 rw[JP]at q
 refine⟨Λ,_,Λ,aG ⟨a.y,ys.DR,a.dy,_,_,Λ,p.ς,Y.cl,Y.n4,Λ,pt,_,0,_,Λ,Λ,DY.of X,al (j:=0) Λ,a.le,DX,(m:Int),_,Λ,Λ,DS.of Fz,al hv,x,ys.DU,dx,_,_,Λ,hx,Y.ct,Y.t2,Λ,a.y,ys.DR,a.dy,_,_,Λ,p.ς,Y.cl,Y.n1,Λ,a.tb,TC,Jy,I,_,Λ,Jd,W.cl,W.nl,Fg,a.lx,a.Eh,_,Λ,g.T.l.1,Λ,a.lx,a.Eh,a.lt,(a.n:Int),a.DX,a.ps,k,_,Λ,g.T.l,he,Λ,_,Λ,?_⟩⟩
 rw[bZ]
 by_cases A:t.μ=a.ps[k].2
 ·rw[Ζ A]
  rw[Ι A]at q
  refine aG ⟨by show 2<=Χ;decide,λz hz=>⟨by show 1<=Χ;decide,λD d=>?_⟩⟩
  have s2:=(DP.refl H).new (o:=.tup [.str "lie",.int k]) hz
  have gz:(π H z (.tup [.str "lie",.int k])) z=Β (.tup [.str "lie",.int k]):=ac
  exact q D [.ref z] _ (s2.new d) (s2.free d) ac (.cons ⟨z,Λ,by rw[af (ag gz d)];exact gz⟩ .nil)
 ·rw[Η A]
  rw[Θ A]at q
  exact aK ⟨Ϧ _,λD d=>q D [] _ ((DP.refl H).new d) d ac .nil⟩
theorem XM:ar ["self","lane"] ["self","lane"] (aj oG):=L2.Ez
theorem va(F:Et K "moves_back" "Yard.moves_back" oG f fd)(Y:jo K ys):DQ P w K mg ν aB 1 f fd ["self","lane"] (kR K c TC J ys):=by
 refine F.ok XM λ_ _ _ s H _ Q E G h=>?_
 obtain⟨a,l,k,rfl,m,p,q⟩:=h
 refine⟨_,ah (au (dG (az x8 (ap (aD aR (ap (pv 0) Λ) (pv 1) (λ_ _=>rfl)) Λ) ai (aA _)) (aW (aa (bq (aa bR (aa (pv 1) ad))) ad)) (aW ad))),?_⟩
 have i:=m.Y
 obtain⟨r,t,u⟩:=i.χ
 obtain⟨g,Ej⟩:∃g,l.δ[k]?=Β g:=⟨_,Μ p⟩
 obtain⟨I,v,x,A,M,N,rfl,B,_⟩:=Paired.at2 u Ej
 unfold dZ at q
 rw[Ej]at q
 dsimp only at q
 refine⟨a.y,ys.DR,a.dy,_,_,Λ,i.ς,Y.cl,Y.n3,Λ,a.la,r,(k:Int),_,Λ,Λ,DS.of t,al v,x,ys.Ek,A,_,_,Λ,B.ς,Y.L.cl,Y.L.n2,Λ,_,_,Λ,Λ,_,Λ,?_⟩
 by_cases e:0<g.b
 ·rw[Ζ e]
  rw[Ι e]at q
  refine aK ⟨by show 2<=Χ;decide,λz C=>⟨by show 1<=Χ;decide,λD d=>?_⟩⟩
  have j:=(DP.refl H).new (o:=.tup [.str "back",.int k]) C
  have gz:(π H z (.tup [.str "back",.int k])) z=Β (.tup [.str "back",.int k]):=ac
  exact q D [.ref z] _ (j.new d) (j.free d) ac (.cons ⟨z,Λ,by rw[af (ag gz d)];exact gz⟩ .nil)
 ·rw[Η e]
  rw[Θ e]at q
  exact aG ⟨Ϧ _,λD d=>q D [] _ ((DP.refl H).new d) d ac .nil⟩
theorem iX(h:H F=Β (.ρ xs)):E5 H (π H F o):=λb u e n=>by
 have a:b≠F:=λz=>by rw[z,h]at e;cases e;exact n
 rw[af a];exact e
theorem fu{a:Type}(f:Nat->List a)(i:Nat):(ό (i+1)).flatMap f=(ό i).flatMap f++f i:=by
 rw[ĩ,Kd];simp
theorem bI{a:Type}{f:Nat->List a}(h:∀i,(f i).length<=1000):∀i,((ό i).flatMap f).length<=1000* i
 |0=>by simp
 |i+1=>by rw[fu,Υ];have:=bI h i;have:=h i;omega
theorem eY(O:sT a)(G:XD a s)(k:Nat):(iV a s k).length<=1000:=by
 unfold iV
 cases d:s.U[k]? with
 |none=>exact Ϧ _
 | some t =>
  dsimp only
  by_cases b:t.ε=t.len
  ·rw[Ι b];exact Ϧ _
  rw[Θ b,Ο]
  refine Î (Ò _ _) ?_
  unfold c5
  by_cases c:t.ε=0
  ·rw[Ι c];exact Î (O.E4 _ _ _) (by decide)
  ·rw[Θ c,ć];omega
theorem eX(O:sT a)(k:Nat):(jz a s k).length<=1000:=by
 unfold jz
 cases d:bC s k with
 |none=>exact Ϧ _
 | some b =>
  dsimp only
  rw[Ο]
  refine Î (Ò _ _) ?_
  unfold ck
  rw[d]
  dsimp only
  cases s.U[b.1.toNat]? with
  |none=>exact Ϧ _
  | some t =>
   dsimp only
   by_cases c:b.2=0
   ·rw[Ι c]
    refine Î (Ò _ _) ?_
    unfold lz
    by_cases z:(a.ps.getD k (0,0)).2=((t.μ.toNat:Nat):Int)
    ·rw[Ι z];exact Ϧ _
    ·rw[Θ z];exact Î (O.E4 _ _ _) (by decide)
   ·rw[Θ c,ć];omega
theorem dQ(a:YA)(s:YS)(k:Nat):(fP a s k).length<=1000:=by
 unfold fP
 cases bC s k with
 |none=>exact Ϧ _
 | some c =>
  dsimp only
  cases s.U[c.1.toNat]? with
  |none=>exact Ϧ _
  | some t =>
   dsimp only
   by_cases b:t.μ=(a.ps.getD k (0,0)).2
   ·rw[Ι b];show 1<=1000;decide
   ·rw[Θ b];exact Ϧ _
theorem l6(s:YS)(k:Nat):(dZ s k).length<=1000:=by
 unfold dZ
 cases s.δ[k]? with
 |none=>exact Ϧ _
 | some c =>
  dsimp only
  by_cases a:0<c.b
  ·rw[Ι a];show 1<=1000;decide
  ·rw[Θ a];exact Ϧ _
noncomputable def aF(a:YA)(s:YS):List Mv:=(ό s.U.length).flatMap (iV a s)++(ό s.δ.length).flatMap (jz a s)++(ό s.δ.length).flatMap (fP a s)++(ό s.δ.length).flatMap (dZ s)
inductive iB(K:ϣ)(c:Cs)(TC:Ν)(J:TJ)(ys:Ys)(vs:List V)(H:Hp)(Q:VK)(E:XK):Prop
 |mk (a:YA) (s:YS) (_:vs=[.ref a.y]) (_:Ic K c TC J ys H a s) (_:∀(D:Ν)(En:List V)(H':Hp),DP H H'->H D=Γ->H' D=Β (.ρ En)->Paired (EY H') En ((aF a s).map dA)->Q (.ref D) H')
theorem Paired.app{a:List α}{b:List β}(h:Paired R a b):∀{as:List α}{bs:List β},Paired R as bs->Paired R (as++a) (bs++b):=λc=>by
 induction c with
 |nil=>exact h
 |cons x r d=>exact .cons x d
theorem k4{xs c:List Mv}(f:H F=Γ)(g:DP H H2)(h:H2 F=Β (.ρ vs))(i:Paired (EY H2) vs (xs.map dA))(a:DP H2 H3)(j:Paired (EY H3) En (c.map dA)):
  DP H (π H3 F (.ρ (vs++En)))/\(π H3 F (.ρ (vs++En))) F=Β (.ρ (vs++En))/\Paired (EY (π H3 F (.ρ (vs++En)))) (vs++En) ((xs++c).map dA):=by
 refine⟨λb o e=>by rw[af (ag e f)];exact a _ _ (g _ _ e),ac,?_⟩
 have d:E5 H3 (π H3 F (.ρ (vs++En))):=iX (a _ _ h)
 rw[ϯ]
 have l:=Paired.mono (λ_ _ z=>z.keep (E5.trans (DP.Ed a) d)) i
 have m:=Paired.mono (λ_ _ z=>z.keep d) j
 exact Paired.app m l
abbrev NMs:List Str:=["self","found","number","lane"]
theorem J4:ar NMs ["self"] (aj rR):=L2.Ez
structure XN(P:Program)(w:Ϭ)(K:ϣ)(mg:Str->Option Ρ)(ν:Ù)(c:Cs)(TC:Ν)(J:TJ)(ys:Ys)(fi fo fl fb:Ν)(di GL dl db:Ñ):Prop where
 mi:bW K ys.DR "moves_in" fi
 bi:Binds K di ["self","number"] []
 Gi:DQ P w K mg ν aB 4 fi di ["self","number"] (rJ K c TC J ys)
 mo:bW K ys.DR "moves_on" fo
 bo:Binds K GL ["self","lane"] []
 Go:DQ P w K mg ν aB 6 fo GL ["self","lane"] (rH K c TC J ys)
 ml:bW K ys.DR "moves_lie" fl
 bl:Binds K dl ["self","lane"] []
 Gl:DQ P w K mg ν aB 2 fl dl ["self","lane"] (tu K c TC J ys)
 mb:bW K ys.DR "moves_back" fb
 bb:Binds K db ["self","lane"] []
 Gb:DQ P w K mg ν aB 1 fb db ["self","lane"] (kR K c TC J ys)
theorem xJ(F:Et K "moves" "Yard.moves" rR f fd)(T:eK mg)(Y:jo K ys)(W:Wy K TC fw dw J)(M:XN P w K mg ν c TC J ys fi fo fl fb di GL dl db):
  DQ P w K mg ν aB 7 f fd ["self"] (iB K c TC J ys):=by
 refine F.ok J4 λ_ _ _ s H _ Q E hr h=>?_
 obtain⟨a,b,rfl,e,q⟩:=h
 have EF:DZ 1 _:=hr.mono (by decide)
 have F3:DZ 2 _:=hr.mono (by decide)
 have HL:DZ 4 _:=hr.mono (by decide)
 refine⟨_,ae (av (i:=1) J4.nd Λ (ύ Λ) (aW ad))
  (ae (bz Ϟ Λ (bL Λ T.range (aa (ay aw Λ T.len PySem.boot_len (aa (ap (pv 0) Λ) ad)) ad)) (ax (i:=2) J4.nd Λ (ύ Λ)) (ah (aM (c8 plainAttrs_list slot_list_extend type_list_extend eZ (pv 1) (aa (aI (pv 0) Y.cl M.mi M.Gi HL M.bi .nil ao (aa (pv 2) ad)) ad)))))
  (ae (bz Ϟ Λ (bL Λ T.range (aa (ay aw Λ T.len PySem.boot_len (aa (ap (pv 0) Λ) ad)) ad)) (ax (i:=3) J4.nd Λ (ύ Λ)) (ah (aM (c8 plainAttrs_list slot_list_extend type_list_extend eZ (pv 1) (aa (aI (pv 0) Y.cl M.mo M.Go hr M.bo .nil ao (aa (pv 3) ad)) ad)))))
  (ae (bz Ϟ Λ (bL Λ T.range (aa (ay aw Λ T.len PySem.boot_len (aa (ap (pv 0) Λ) ad)) ad)) (ax (i:=3) J4.nd Λ (ύ Λ)) (ah (aM (c8 plainAttrs_list slot_list_extend type_list_extend eZ (pv 1) (aa (aI (pv 0) Y.cl M.ml M.Gl F3 M.bl .nil ao (aa (pv 3) ad)) ad)))))
  (ae (bz Ϟ Λ (bL Λ T.range (aa (ay aw Λ T.len PySem.boot_len (aa (ap (pv 0) Λ) ad)) ad)) (ax (i:=3) J4.nd Λ (ύ Λ)) (ah (aM (c8 plainAttrs_list slot_list_extend type_list_extend eZ (pv 1) (aa (aI (pv 0) Y.cl M.mb M.Gb EF M.bb .nil ao (aa (pv 3) ad)) ad)))))
  (ah (au (pv 1))))))),?_⟩
 have hlet:=e.G.E4
 have Ku:b.δ.length<=40:=by rw[e.G.δ];exact e.T.E4
 refine⟨Ϧ _,λj R=>?_⟩
 have s0:=(DP.refl H).new (o:=.ρ []) R
 have g0:(π H j (.ρ [])) j=Β (.ρ []):=ac
 generalize π H j (.ρ [])=H0 at s0 g0⊢
 have XO:∃d,DP H H0/\H0 j=Β (.ρ d)/\Paired (EY H0) d (([]:List Mv).map dA):=⟨[],s0,g0,.nil⟩
 obtain⟨MD,S,g0',p0'⟩:=XO
 have X:=(e.same W S).Y
 obtain⟨Z,gl0,pl0⟩:=X.ω
 have XQ:=Paired.length pl0
 refine⟨a.y,ys.DR,a.dy,_,_,Λ,X.ς,Y.cl,Y.n4,Λ,a.le,_,Λ,.inl (DS.of gl0),((Z.length:Nat):Int),Λ,by omega,by omega,?_⟩
 rw[ϋ,XQ]
 refine cT (n:=b.U.length) (λi t g=>∃u v:Option V,(∃d,DP H g/\g j=Β (.ρ d)/\Paired (EY g) d (((ό i).flatMap (iV a b)).map dA))/\t=[Β (.ref a.y),Β (.ref j),u,v]) ?_ ?_ ?_
 ·exact⟨_,_,⟨MD,S,g0',by simpa using p0'⟩,Λ⟩
 ·rintro i t g B ⟨u,v,⟨d,p,l,r⟩,rfl⟩
  rw[ĥ]
  have x:=e.same W p
  refine⟨.inl ⟨Λ,_,DS.of l⟩,a.y,a.dy,_,Λ,x.Y.ς,Λ,a,b,i,Λ,x,B,λD m H3 z hD C A=>?_⟩
  have l1:d.length<=1000000:=by
   rw[Paired.length r,Ο]
   have h0:=bI (eY e.O e.G) b.U.length
   have h1:=bI (eX (s:=b) e.O) b.δ.length
   have h2:=bI (dQ a b) b.δ.length
   have hh:=bI (eY e.O e.G) i
   try simp only[Υ]
   omega
  have l2:m.length<=1000:=by rw[Paired.length A,Ο];exact(eY e.O e.G) i
  obtain⟨I,L,N⟩:=k4 R p l r z A
  refine⟨j,D,d,m,Λ,Λ,z _ _ l,C,by rw[ϗ];omega,_,_,⟨d++m,I,L,?_⟩,Λ⟩
  rw[fu]
  exact N
 rintro σ0 H1 ⟨a20,a30,inv1,rfl⟩
 obtain⟨vs1,s1',R8,p1'⟩:=inv1
 have Hh:=(e.same W s1').Y
 obtain⟨tv1,Vb,XC⟩:=Hh.χ
 have XR:=Paired.length XC
 refine⟨a.y,ys.DR,a.dy,_,_,Λ,Hh.ς,Y.cl,Y.n3,Λ,a.la,_,Λ,.inl (DS.of Vb),((tv1.length:Nat):Int),Λ,by omega,by omega,?_⟩
 rw[ϋ,XR]
 refine cT (n:=b.δ.length) (λi t g=>∃u v:Option V,(∃d,DP H g/\g j=Β (.ρ d)/\Paired (EY g) d ((((ό b.U.length).flatMap (iV a b))++(ό i).flatMap (jz a b)).map dA))/\t=[Β (.ref a.y),Β (.ref j),u,v]) ?_ ?_ ?_
 ·exact⟨_,_,⟨vs1,s1',R8,by simpa using p1'⟩,Λ⟩
 ·rintro i t g B ⟨u,v,⟨d,p,l,r⟩,rfl⟩
  rw[ĥ]
  have x:=e.same W p
  refine⟨.inl ⟨Λ,_,DS.of l⟩,a.y,a.dy,_,Λ,x.Y.ς,Λ,a,b,i,Λ,x,B,λD m H3 z hD C A=>?_⟩
  have l1:d.length<=1000000:=by
   rw[Paired.length r,Ο]
   have h0:=bI (eY e.O e.G) b.U.length
   have h1:=bI (eX (s:=b) e.O) b.δ.length
   have h2:=bI (dQ a b) b.δ.length
   have hh:=bI (eX (s:=b) e.O) i
   try simp only[Υ]
   omega
  have l2:m.length<=1000:=by rw[Paired.length A,Ο];exact(eX (s:=b) e.O) i
  obtain⟨I,L,N⟩:=k4 R p l r z A
  refine⟨j,D,d,m,Λ,Λ,z _ _ l,C,by rw[ϗ];omega,_,_,⟨d++m,I,L,?_⟩,Λ⟩
  rw[fu]
  rw[←Č];exact N
 rintro σ1 g ⟨a21,a31,inv2,rfl⟩
 obtain⟨NC,s2',Vc,p2'⟩:=inv2
 have Jf:=(e.same W s2').Y
 obtain⟨tv2,gl2,pl2⟩:=Jf.χ
 have XS:=Paired.length pl2
 refine⟨a.y,ys.DR,a.dy,_,_,Λ,Jf.ς,Y.cl,Y.n3,Λ,a.la,_,Λ,.inl (DS.of gl2),((tv2.length:Nat):Int),Λ,by omega,by omega,?_⟩
 rw[ϋ,XS]
 refine cT (n:=b.δ.length) (λi t g=>∃u v:Option V,(∃d,DP H g/\g j=Β (.ρ d)/\Paired (EY g) d ((((ό b.U.length).flatMap (iV a b)++(ό b.δ.length).flatMap (jz a b))++(ό i).flatMap (fP a b)).map dA))/\t=[Β (.ref a.y),Β (.ref j),u,v]) ?_ ?_ ?_
 ·exact⟨_,_,⟨NC,s2',Vc,by simpa using p2'⟩,Λ⟩
 ·rintro i t g B ⟨u,v,⟨d,p,l,r⟩,rfl⟩
  rw[ĥ]
  have x:=e.same W p
  refine⟨.inl ⟨Λ,_,DS.of l⟩,a.y,a.dy,_,Λ,x.Y.ς,Λ,a,b,i,Λ,x,B,λD m H3 z hD C A=>?_⟩
  have l1:d.length<=1000000:=by
   rw[Paired.length r,Ο]
   have h0:=bI (eY e.O e.G) b.U.length
   have h1:=bI (eX (s:=b) e.O) b.δ.length
   have h2:=bI (dQ a b) b.δ.length
   have hh:=bI (dQ a b) i
   try simp only[Υ]
   omega
  have l2:m.length<=1000:=by rw[Paired.length A,Ο];exact(dQ a b) i
  obtain⟨I,L,N⟩:=k4 R p l r z A
  refine⟨j,D,d,m,Λ,Λ,z _ _ l,C,by rw[ϗ];omega,_,_,⟨d++m,I,L,?_⟩,Λ⟩
  rw[fu]
  rw[←Č];exact N
 rintro σ2 H3 ⟨a22,a32,XT,rfl⟩
 obtain⟨vs3,s3',R9,p3'⟩:=XT
 have GO:=(e.same W s3').Y
 obtain⟨tv3,gl3,pl3⟩:=GO.χ
 have XU:=Paired.length pl3
 refine⟨a.y,ys.DR,a.dy,_,_,Λ,GO.ς,Y.cl,Y.n3,Λ,a.la,_,Λ,.inl (DS.of gl3),((tv3.length:Nat):Int),Λ,by omega,by omega,?_⟩
 rw[ϋ,XU]
 refine cT (n:=b.δ.length) (λi t g=>∃u v:Option V,(∃d,DP H g/\g j=Β (.ρ d)/\Paired (EY g) d ((((ό b.U.length).flatMap (iV a b)++(ό b.δ.length).flatMap (jz a b)++(ό b.δ.length).flatMap (fP a b))++(ό i).flatMap (dZ b)).map dA))/\t=[Β (.ref a.y),Β (.ref j),u,v]) ?_ ?_ ?_
 ·exact⟨_,_,⟨vs3,s3',R9,by simpa using p3'⟩,Λ⟩
 ·rintro i t g B ⟨u,v,⟨d,p,l,r⟩,rfl⟩
  rw[ĥ]
  have x:=e.same W p
  refine⟨.inl ⟨Λ,_,DS.of l⟩,a.y,a.dy,_,Λ,x.Y.ς,Λ,a,b,i,Λ,x,B,λD m H3 z hD C A=>?_⟩
  have l1:d.length<=1000000:=by
   rw[Paired.length r,Ο]
   have h0:=bI (eY e.O e.G) b.U.length
   have h1:=bI (eX (s:=b) e.O) b.δ.length
   have h2:=bI (dQ a b) b.δ.length
   have hh:=bI (l6 b) i
   try simp only[Υ]
   omega
  have l2:m.length<=1000:=by rw[Paired.length A,Ο];exact(l6 b) i
  obtain⟨I,L,N⟩:=k4 R p l r z A
  refine⟨j,D,d,m,Λ,Λ,z _ _ l,C,by rw[ϗ];omega,_,_,⟨d++m,I,L,?_⟩,Λ⟩
  rw[fu]
  rw[←Č];exact N
 rintro σ3 H4 ⟨a23,a33,XW,rfl⟩
 obtain⟨d,p,l,r⟩:=XW
 exact(q j d _ p R l r)
structure RA(K:ϣ):Prop where
 ss:Ğ K (.type "str") (.type "str")=Β Δ
 ns:Ğ K (.type "int") (.type "str")=Β Ε
 tt:Ğ K (.type "tuple") (.type "tuple")=Β Δ
theorem jS(h:a≠b):decide (V.str a=V.str b)=Ε:=Η λz=>h (by injection z)
theorem kU(a:Str):decide (V.str a=V.str a)=Δ:=Ζ Λ
inductive wD(vs:List V)(H:Hp)(Q:VK)(E:XK):Prop
 |mk (p:Ν) (xs:List V) (_:vs=[.ref p]) (_:H p=Β (.tup xs)) (_:xs.length<=100) (_:(∀x∈xs,(∃t,x=.str t)∨∃i,x=.int i)) (_:∀H',DP H H'->Q (.bl Δ) H')
noncomputable def AY(s:Ã):Scope:=match s with
 |.Return (Β (.BoolOp _ [_,.Call _ [.ListComp _ _ sc _] _ _] _)) _=>sc
 |_=>zQ0
theorem qx(m:Mv):(dA m).length<=100/\∀x∈dA m,(∃t,x=V.str t)∨∃i,x=V.int i:=by
 cases m<;>refine⟨by simp[dA],λx a=>?_⟩<;>simp only[dA,Ϯ,É,or_false]at a
 ·rcases a with rfl|rfl|rfl
  ·exact .inl ⟨_,Λ⟩
  ·exact .inr ⟨_,Λ⟩
  ·exact .inr ⟨_,Λ⟩
 ·rcases a with rfl|rfl|rfl
  ·exact .inl ⟨_,Λ⟩
  ·exact .inr ⟨_,Λ⟩
  ·exact .inr ⟨_,Λ⟩
 ·rcases a with rfl|rfl
  ·exact .inl ⟨_,Λ⟩
  ·exact .inr ⟨_,Λ⟩
 ·rcases a with rfl|rfl
  ·exact .inl ⟨_,Λ⟩
  ·exact .inr ⟨_,Λ⟩
noncomputable def tZ(a:YA)(s:YS):Mv->List Mv
 |.Fm k _=>iV a s k
 |.on k _=>jz a s k
 |.Fn k=>fP a s k
 |.back k=>dZ s k
def B5(s:YS):Mv->Prop
 |.Fm k _=>k<s.U.length
 |.on k _=>k<s.δ.length
 |.Fn k=>k<s.δ.length
 |.back k=>k<s.δ.length
inductive wB(K:ϣ)(c:Cs)(TC:Ν)(J:TJ)(ys:Ys)(vs:List V)(H:Hp)(Q:VK)(E:XK):Prop
 |mk (a:YA) (s:YS) (p:Ν) (m:Mv) (_:vs=[.ref a.y,.ref p]) (_:Ic K c TC J ys H a s) (_:H p=Β (.tup (dA m))) (_:B5 s m) (_:∀(D:Ν)(En:List V)(H':Hp),DP H H'->H D=Γ->H' D=Β (.ρ En)->Paired (EY H') En ((tZ a s m).map dA)->Q (.ref D) H')
theorem XX:ar ["move"] ["move"] (aj qe):=L2.Ez
theorem XY:EV ["move"] (aj qe) (AY ((aJ qe).getD 0 (.Pass ⟨0,0,0,0⟩))) [] []:=L2.FH
theorem XZ:(["thing"]:List Str).Nodup:=by decide +kernel
theorem Ag(F:Et K "is_move" "is_move" qe f fd)(T:eK mg)(Z:RA K)(d:mg "is_whole"=Β (.ref fh))(g:ϳ K (.ref fh)=Δ)(j:Binds K dh ["value"] [])(G:DQ P w K mg ν aB 1 fh dh ["value"] i9):
  DQ P w K mg ν aB 2 f fd ["move"] wD:=by
 refine F.ok XX λ_ _ _ s H _ Q E l h=>?_
 obtain⟨p,xs,rfl,c,A,m,q⟩:=h
 refine⟨_,ah (au (cP (ay jg Λ T.Mj Ì (aa (pv 0) (aa (eJ (v:=.ty "tuple") Λ T.tuple PySem.Pv.boot_tuple Λ) ad)))
  (cF (ay (jh Λ) Λ T.all Ĝ (aa (b5 (own:=["thing"]) (capN:=[]) (cap:=[]) XY Λ (ju (pv 0)) (λC B a I=>⟨ax (i:=0) XZ Λ (ύ Λ),bX,
   xr (ay (show du _ (.builtin "isinstance") (Qj K) from jg) Λ T.Mj Ì (aa (pv 0) (aa (eJ (v:=.ty "str") Λ T.str PySem.Pv.boot_str Λ) ad))) (cF (aq G l Λ d g j .nil ao (aa (pv 0) ad)))⟩)) ad))))),?_⟩
 refine⟨.ref p,_,"tuple",Δ,Λ,.tup c,Z.tt,Δ,Λ,aK ⟨p,Λ,⟨_,DY.of c⟩,?_⟩⟩
 refine bQ xs.length (by rw[ϗ];omega) (λi acc a=>a=H/\acc=(Ϫ i Δ).map V.bl) ⟨Λ,Λ⟩ (λi acc a h=>by rw[h.2];simp) (λi acc a o h=>?_) (λacc a h=>?_)
 ·obtain⟨rfl,rfl⟩:=h
  refine⟨⟨xs,xs[i],DY.of c,Μ o⟩,λv J y=>?_⟩
  obtain⟨rfl,y⟩:=y
  have r:=y xs (DY.of c)
  have e:(Ϫ i Δ).map V.bl++[V.bl Δ]=(Ϫ (i+1) Δ).map V.bl:=by rw[HK,ϯ];rfl
  rcases m v (Ϗ r) with ⟨t,rfl⟩|⟨z,rfl⟩
  ·exact⟨.str t,_,"str",Δ,Λ,.str t,Z.ss,Δ,Λ,aK ⟨Λ,e⟩⟩
  ·exact⟨.int z,_,"str",Ε,Λ,.int z,Z.ns,Ε,Λ,aG ⟨.int z,Λ,.int z,Λ,e⟩⟩
 ·obtain⟨rfl,rfl⟩:=h
  refine⟨⟨xs,DY.of c,Ξ _⟩,λD u=>⟨D,Ϫ xs.length Δ,Λ,DS.of ac,?_⟩⟩
  have e:(Ϫ xs.length Δ).all id=Δ:=by rw[ĭ];intro b x;rw[Ġ x];rfl
  rw[e]
  exact q _ ((DP.refl a).new u)
theorem Ya:ar ["self","move"] ["self","move"] (aj xa):=L2.Ez
theorem Af(F:Et K "moves_like" "Yard.moves_like" xa f fd)(T:eK mg)(Y:jo K ys)(W:Wy K TC fw dw J)(M:XN P w K mg ν c TC J ys fi fo fl fb di GL dl db)
  (mm:mg "is_move"=Β (.ref fm)) (km:ϳ K (.ref fm)=Δ) (bm:Binds K dm ["move"] []) (Gm:DQ P w K mg ν aB 2 fm dm ["move"] wD)
  (Z:mg "is_within"=Β (.ref fn)) (kn:ϳ K (.ref fn)=Δ) (bn:Binds K dn ["value","least","most"] []) (Gn:DQ P w K mg ν aB 2 fn dn ["value","least","most"] gH):
  DQ P w K mg ν aB 7 f fd ["self","move"] (wB K c TC J ys):=by
 refine F.ok Ya λ_ _ _ s H _ Q E I h=>?_
 obtain⟨a,i,p,m,rfl,hI,L,e,q⟩:=h
 have EF:DZ 1 _:=I.mono (by decide)
 have N:DZ 2 _:=I.mono (by decide)
 have HL:DZ 4 _:=I.mono (by decide)
 refine⟨_,ae (aO (fG (PW.pt (gc (cE (bH (aq Gm N Λ mm km bm .nil ao (aa (pv 1) ad)))) (ga (az jI (ay aw Λ T.len PySem.boot_len (aa (pv 1) ad)) ai (aA _)))))) (ah (au (aW ad))) aE)
  (ae (aO (az bT (aD aH (pv 1) ai (λ_ _=>rfl)) bR (aA _))
   (ah (au (dG (bH (aq Gn N Λ Z kn bn .nil ao (aa (aD aH (pv 1) ai (λ_ _=>rfl)) (aa ai (aa (aC dX (ay aw Λ T.len PySem.boot_len (aa (ap (pv 0) Λ) ad)) ai) ad)))))
    (aI (pv 0) Y.cl M.mi M.Gi HL M.bi .nil ao (aa (aD aH (pv 1) ai (λ_ _=>rfl)) ad)) (aW ad)))) aE)
  (ae (aO (cE (bH (aq Gn N Λ Z kn bn .nil ao (aa (aD aH (pv 1) ai (λ_ _=>rfl)) (aa ai (aa (aC dX (ay aw Λ T.len PySem.boot_len (aa (ap (pv 0) Λ) ad)) ai) ad)))))) (ah (au (aW ad))) aE)
  (ae (aO (az bT (aD aH (pv 1) ai (λ_ _=>rfl)) bR (aA _)) (ah (au (aI (pv 0) Y.cl M.mo M.Go I M.bo .nil ao (aa (aD aH (pv 1) ai (λ_ _=>rfl)) ad)))) aE)
  (ae (aO (az bT (aD aH (pv 1) ai (λ_ _=>rfl)) bR (aA _)) (ah (au (aI (pv 0) Y.cl M.ml M.Gl N M.bl .nil ao (aa (aD aH (pv 1) ai (λ_ _=>rfl)) ad)))) aE)
  (ah (au (dG (az bT (aD aH (pv 1) ai (λ_ _=>rfl)) bR (aA _)) (aI (pv 0) Y.cl M.mb M.Gb EF M.bb .nil ao (aa (aD aH (pv 1) ai (λ_ _=>rfl)) ad)) (aW ad)))))))),?_⟩
 refine⟨λb t=>b=Ε/\DP H t,?_,?_⟩
 ·refine⟨p,dA m,Λ,L,(qx m).1,(qx m).2,λt A=>⟨_,Λ,aG ?_⟩⟩
  refine⟨p,_,Λ,.inr (DY.of (A _ _ L)),_,_,Λ,Λ,_,Λ,?_,A⟩
  cases m<;>rfl
 rintro b t ⟨rfl,A⟩
 refine aG ?_
 have C:=hI.same W A
 have d:=A _ _ L
 have O:=λD o g u v x z=>q D o g (A.trans u) (A.free v) x z
 have r:=C.Y
 obtain⟨R,Fz,S⟩:=r.ω
 have ω:=Paired.length S
 obtain⟨G,X,JN⟩:=r.χ
 have χ:=Paired.length JN
 clear A q L hI
 have B:∀k:Nat,k<i.δ.length->mX (.int k) 0 (((G.length:Nat):Int) - 1)=Δ:=λk hk=>Ζ (by omega)
 cases m with
 | Fm k l =>
  have d:=d
  have e:k<i.U.length:=e
  refine⟨p,_,0,_,Λ,Λ,DY.of d,al (j:=0) Λ,Λ,_,Λ,?_⟩
  rw[kU]
  refine aK ⟨p,_,1,_,Λ,Λ,DY.of d,al (j:=1) Λ,a.y,ys.DR,a.dy,_,_,Λ,r.ς,Y.cl,Y.n4,Λ,a.le,_,Λ,.inl (DS.of Fz),_,_,Λ,Λ,.int k,0,((R.length:Nat):Int) - 1,Λ,.int _,_,Λ,?_⟩
  rw[show mX (.int k) 0 (((R.length:Nat):Int) - 1)=Δ from Ζ (by omega)]
  exact aK ⟨a.y,a.dy,_,Λ,r.ς,Λ,p,_,1,_,Λ,Λ,DY.of d,al (j:=1) Λ,a,i,k,Λ,C,e,λD o g u v x z=>O D o g u v x z⟩
 | on k l =>
  have d:=d
  have e:=e
  refine⟨p,_,0,_,Λ,Λ,DY.of d,al (j:=0) Λ,Λ,_,Λ,?_⟩
  rw[jS (by decide +kernel)]
  refine aG ⟨p,_,1,_,Λ,Λ,DY.of d,al (j:=1) Λ,a.y,ys.DR,a.dy,_,_,Λ,r.ς,Y.cl,Y.n3,Λ,a.la,_,Λ,.inl (DS.of X),_,_,Λ,Λ,.int k,0,((G.length:Nat):Int) - 1,Λ,.int _,_,Λ,?_⟩
  rw[B k e]
  refine aG ⟨p,_,0,_,Λ,Λ,DY.of d,al (j:=0) Λ,Λ,_,Λ,?_⟩
  rw[kU]
  exact aK ⟨a.y,a.dy,_,Λ,r.ς,Λ,p,_,1,_,Λ,Λ,DY.of d,al (j:=1) Λ,a,i,k,Λ,C,e,λD o g u v x z=>O D o g u v x z⟩
 | Fn k =>
  have d:=d
  have e:=e
  refine⟨p,_,0,_,Λ,Λ,DY.of d,al (j:=0) Λ,Λ,_,Λ,?_⟩
  rw[jS (by decide +kernel)]
  refine aG ⟨p,_,1,_,Λ,Λ,DY.of d,al (j:=1) Λ,a.y,ys.DR,a.dy,_,_,Λ,r.ς,Y.cl,Y.n3,Λ,a.la,_,Λ,.inl (DS.of X),_,_,Λ,Λ,.int k,0,((G.length:Nat):Int) - 1,Λ,.int _,_,Λ,?_⟩
  rw[B k e]
  refine aG ⟨p,_,0,_,Λ,Λ,DY.of d,al (j:=0) Λ,Λ,_,Λ,?_⟩
  rw[jS (by decide +kernel)]
  refine aG ⟨p,_,0,_,Λ,Λ,DY.of d,al (j:=0) Λ,Λ,_,Λ,?_⟩
  rw[kU]
  exact aK ⟨a.y,a.dy,_,Λ,r.ς,Λ,p,_,1,_,Λ,Λ,DY.of d,al (j:=1) Λ,a,i,k,Λ,C,e,λD o g u v x z=>O D o g u v x z⟩
 | back k =>
  have d:=d
  have e:=e
  refine⟨p,_,0,_,Λ,Λ,DY.of d,al (j:=0) Λ,Λ,_,Λ,?_⟩
  rw[jS (by decide +kernel)]
  refine aG ⟨p,_,1,_,Λ,Λ,DY.of d,al (j:=1) Λ,a.y,ys.DR,a.dy,_,_,Λ,r.ς,Y.cl,Y.n3,Λ,a.la,_,Λ,.inl (DS.of X),_,_,Λ,Λ,.int k,0,((G.length:Nat):Int) - 1,Λ,.int _,_,Λ,?_⟩
  rw[B k e]
  refine aG ⟨p,_,0,_,Λ,Λ,DY.of d,al (j:=0) Λ,Λ,_,Λ,?_⟩
  rw[jS (by decide +kernel)]
  refine aG ⟨p,_,0,_,Λ,Λ,DY.of d,al (j:=0) Λ,Λ,_,Λ,?_⟩
  rw[jS (by decide +kernel)]
  refine aG ⟨p,_,0,_,Λ,Λ,DY.of d,al (j:=0) Λ,Λ,_,Λ,?_⟩
  rw[kU]
  exact aK ⟨a.y,a.dy,_,Λ,r.ς,Λ,p,_,1,_,Λ,Λ,DY.of d,al (j:=1) Λ,a,i,k,Λ,C,e,λD o g u v x z=>O D o g u v x z⟩
noncomputable def cj(ln:bO):bO:={ln with b:=ln.b+1,qs:=ln.qs.tail}
noncomputable def lH(ln:bO):bO:={ln with r:=ln.r+1,b:=ln.b - 1}
inductive ES(a:YA)(s:YS):Mv->YS->Prop
 | Fm {k l:Nat} {t:bE} {ln:bO} (ht:s.U[k]?=Β t) (hg:t.ε≠t.len) (hl:l∈c5 a t) (Ej:s.δ[l]?=Β ln) (ho:c9 ln.r ln.h k t.ε=Δ):
  ES a s (.Fm k l) (cn (cN s k t) k t.ε l {t with ε:=t.ε+1} ln)
 | on {k l m:Nat} {c:Int} {lk ln:bO} {t:bE} (hk:s.δ[k]?=Β lk) (hq:lk.qs.head?=Β ((m:Int),c)) (ht:s.U[m]?=Β t) (hl:l∈ck a s k) (Ej:(s.δ.set k (cj lk))[l]?=Β ln) (ho:c9 ln.r ln.h m c=Δ):
  ES a s (.on k l) (cn {s with δ:=s.δ.set k (cj lk)} m c l t ln)
 | Fn {k m e:Nat} {c:Int} {lk:bO} {t:bE} {qs:List (Int×Int)} (hk:s.δ[k]?=Β lk) (hq:lk.qs.head?=Β ((m:Int),c)) (ht:s.U[m]?=Β t) (hg:t.μ=(e:Int)) (he:(a.ps.getD k (0,0)).2=(e:Int)) (FJ:s.ι[e]?=Β qs):
  ES a s (.Fn k) {s with δ:=s.δ.set k (cj lk),ι:=s.ι.set e (qs++[((m:Int),c)])}
 |back {k:Nat} {lk:bO} (hk:s.δ[k]?=Β lk) (hb:0<lk.b):ES a s (.back k) {s with δ:=s.δ.set k (lH lk)}
theorem ES.done(h:ES a s m s'):s'.done=s.done:=by
 cases h<;>rfl
structure Sml(s:YS):Prop where
 q:∀(k:Nat)(ln:bO),s.δ[k]?=Β ln->ln.qs.length<=10000
 l:∀(p:Nat)(qs:List (Int×Int)),s.ι[p]?=Β qs->qs.length<=10000
 d:s.done.length<=100000
theorem lu(h:dO s l m c=Δ):∃a,s.δ[l]?=Β a/\c9 a.r a.h m c=Δ:=by
 unfold dO at h
 cases b:s.δ[l]? with
 |none=>rw[b]at h;cases h
 |some a=>rw[b]at h;exact⟨a,Λ,h⟩
theorem yf(h:m∈iV a s k):∃l t b,m=.Fm k l/\s.U[k]?=Β t/\t.ε≠t.len/\l∈c5 a t/\s.δ[l]?=Β b/\c9 b.r b.h k t.ε=Δ:=by
 unfold iV at h
 cases d:s.U[k]? with
 |none=>rw[d]at h;cases h
 | some t =>
  rw[d]at h
  dsimp only at h
  by_cases c:t.ε=t.len
  ·rw[Ι c]at h;cases h
  rw[Θ c]at h
  obtain⟨l,e,rfl⟩:=Õ.mp h
  obtain⟨f,g⟩:=Å.mp e
  obtain⟨b,i,j⟩:=lu g
  exact⟨l,t,b,Λ,Λ,c,f,i,j⟩
theorem ye(h:m∈jz a s k):∃l q lk c,m=.on k l/\s.δ[k]?=Β lk/\lk.qs.head?=Β q/\l∈ck a s k/\s.δ[l]?=Β c/\c9 c.r c.h q.1 q.2=Δ:=by
 unfold jz at h
 cases b:bC s k with
 |none=>rw[b]at h;cases h
 | some q =>
  rw[b]at h
  dsimp only at h
  obtain⟨l,e,rfl⟩:=Õ.mp h
  obtain⟨f,g⟩:=Å.mp e
  obtain⟨c,i,j⟩:=lu g
  unfold bC at b
  cases d:s.δ[k]? with
  |none=>rw[d]at b;cases b
  |some lk=>rw[d]at b;exact⟨l,q,lk,c,Λ,Λ,b,f,i,j⟩
theorem tW(h:m∈fP a s k):∃q lk t,m=.Fn k/\s.δ[k]?=Β lk/\lk.qs.head?=Β q/\s.U[q.1.toNat]?=Β t/\t.μ=(a.ps.getD k (0,0)).2:=by
 unfold fP at h
 cases b:bC s k with
 |none=>rw[b]at h;cases h
 | some q =>
  rw[b]at h
  dsimp only at h
  cases c:s.U[q.1.toNat]? with
  |none=>rw[c]at h;cases h
  | some t =>
   rw[c]at h
   dsimp only at h
   by_cases d:t.μ=(a.ps.getD k (0,0)).2
   ·rw[Ι d]at h
    have f:m=.Fn k:=by simpa using h
    unfold bC at b
    cases e:s.δ[k]? with
    |none=>rw[e]at b;cases b
    |some lk=>rw[e]at b;exact⟨q,lk,t,f,Λ,b,c,d⟩
   ·rw[Θ d]at h;cases h
theorem qB(h:m∈dZ s k):∃lk,m=.back k/\s.δ[k]?=Β lk/\0<lk.b:=by
 unfold dZ at h
 cases c:s.δ[k]? with
 |none=>rw[c]at h;cases h
 | some lk =>
  rw[c]at h
  dsimp only at h
  by_cases a:0<lk.b
  ·rw[Ι a]at h;exact⟨lk,by simpa using h,Λ,a⟩
  ·rw[Θ a]at h;cases h
theorem vf(h:m∈aF a s):B5 s m/\m∈tZ a s m:=by
 unfold aF at h
 rw[Ϣ,Ϣ,Ϣ]at h
 rcases h with ((h|h)|h)|h
 ·obtain⟨k,b,h⟩:=Ć.mp h
  obtain⟨l,t,c,rfl,_⟩:=yf h
  exact⟨Ë.mp b,h⟩
 ·obtain⟨k,b,h⟩:=Ć.mp h
  obtain⟨l,q,lk,c,rfl,_⟩:=ye h
  exact⟨Ë.mp b,h⟩
 ·obtain⟨k,b,h⟩:=Ć.mp h
  obtain⟨q,lk,t,rfl,_⟩:=tW h
  exact⟨Ë.mp b,h⟩
 ·obtain⟨k,b,h⟩:=Ć.mp h
  obtain⟨lk,rfl,_⟩:=qB h
  exact⟨Ë.mp b,h⟩
noncomputable def tU:Mv->ý
 |.Fm k l =>.tuple [.str "in",.int k,.int l]
 |.on k l =>.tuple [.str "on",.int k,.int l]
 |.Fn k =>.tuple [.str "lie",.int k]
 |.back k =>.tuple [.str "back",.int k]
theorem eC(h:ý.strOk x=Δ):GF (.str x) 0:=⟨by simp[Ţ,h],by simp[ŵ]⟩
theorem ig(m:Mv):GF (tU m) 1:=by
 cases m<;>refine eU (m:=0) λy a=>?_<;>simp only[Ϯ,É,or_false]at a
 ·rcases a with rfl|rfl|rfl
  ·exact eC (by decide +kernel)
  ·exact fF _
  ·exact fF _
 ·rcases a with rfl|rfl|rfl
  ·exact eC (by decide +kernel)
  ·exact fF _
  ·exact fF _
 ·rcases a with rfl|rfl
  ·exact eC (by decide +kernel)
  ·exact fF _
 ·rcases a with rfl|rfl
  ·exact eC (by decide +kernel)
  ·exact fF _
theorem sK(m:Mv)(h:H p=Β (.tup (dA m))):m8 K H (.ref p) (tU m):=by
 cases m<;>refine .tup (DY.of h) ?_
 ·exact .cons (.str _) (.cons (.int _) (.cons (.int _) .nil))
 ·exact .cons (.str _) (.cons (.int _) (.cons (.int _) .nil))
 ·exact .cons (.str _) (.cons (.int _) .nil)
 ·exact .cons (.str _) (.cons (.int _) .nil)
theorem dP:∀{b:List V}{a:List Mv},Paired (EY H) b (a.map dA)->m7 K H b (a.map tU)
 |[],[],_ =>.nil
 |_:: _,m:: a,.cons ⟨t,e,h⟩ r=>by subst e;exact .cons (sK m h) (dP r)
 |[],_:: _,h=>by cases h
 |_:: _,[],h=>by cases h
theorem yN{a:List Mv}(h:m∈a):((a.map tU).any λy=>ę y (tU m))=Δ:=by
 rw[List.any_eq_true]
 exact⟨tU m,Õ.mpr ⟨m,h,Λ⟩,oo _ (ig m).1⟩
inductive zm(K:ϣ)(c:Cs)(TC:Ν)(J:TJ)(ys:Ys)(vs:List V)(H:Hp)(Q:VK)(E:XK):Prop
 |mk (a:YA) (s:YS) (p:Ν) (m:Mv) (_:vs=[.ref a.y,.ref p]) (_:Ic K c TC J ys H a s) (_:H p=Β (.tup (dA m))) (_:m∈aF a s) (_:Sml s) (_:∀(H':Hp)(s':YS),ES a s m s'->Ee a.four H H'->E8 K ys H' a {s' with done:=s.done++[dA m]}->Q .Eg H')
structure DoM(P:Program)(w:Ϭ)(K:ϣ)(mg:Str->Option Ρ)(ν:Ù)(c:Cs)(TC:Ν)(J:TJ)(ys:Ys)(fk fg fe fp fb fy:Ν)(dk dg de dp db dy:Ñ):Prop where
 mk':bW K ys.DR "moves_like" fk
 bk:Binds K dk ["self","move"] []
 Gk:DQ P w K mg ν aB 7 fk dk ["self","move"] (wB K c TC J ys)
 mg':bW K ys.DR "go_in" fg
 bg:Binds K dg ["self","number","lane"] []
 Gg:DQ P w K mg ν aB 6 fg dg ["self","number","lane"] (wG K ys)
 me:bW K ys.DR "enter" fe
 be:Binds K de ["self","piece","lane"] []
 Ge:DQ P w K mg ν aB 5 fe de ["self","piece","lane"] (oz K ys)
 mp:bW K ys.Ek "pull" fp
 bp:Binds K dp ["self"] []
 Gp:DQ P w K mg ν aB 1 fp dp ["self"] (rF ys.Ek)
 mb:bW K ys.Ek "bring" fb
 bb:Binds K db ["self"] []
 Gb:DQ P w K mg ν aB 1 fb db ["self"] (tG ys.Ek)
 my:bW K ys.DR "lay" fy
 by':Binds K dy ["self","piece","place"] []
 Gy:DQ P w K mg ν aB 1 fy dy ["self","piece","place"] (Bx K ys)
theorem Yb:ar ["self","move"] ["self","move"] (aj Xi):=L2.Ez
theorem RB(F:Et K "do" "Yard.do" Xi f fd)(Y:jo K ys)(L:rp K c)(W:Wy K TC fw dw J)(O:Own P w K mg ν ys fl ft fpu dl dt dpu)
  (D:DoM P w K mg ν c TC J ys fk fg fe fp fb fy dk dg de dp db dy) (Me:vG K c fen den) (Gen:DQ P w K mg ν aB 1 fen den ["self","lane"] (uK c ç)):
  DQ P w K mg ν aB 8 f fd ["self","move"] (zm K c TC J ys):=by
 refine F.ok Yb λ_ _ _ s H _ Q E hr h=>?_
 obtain⟨a,u,p,m,rfl,hI,hp,hm,hS,q⟩:=h
 have hu:=hr.units
 have EF:DZ 1 _:=hr.mono (by decide)
 have HL:DZ 4 _:=hr.mono (by decide)
 have Kv:DZ 5 _:=hr.mono (by decide)
 have RC:DZ 6 _:=hr.mono (by decide)
 refine⟨_,ae (aO (az (mV hu) (pv 1) (aI (pv 0) Y.cl D.mk' D.Gk hr D.bk .nil ao (aa (pv 1) ad)) (by with_unfolding_all rfl)) (ah ce) aE)
  (ae (kg (aO (az bT (aD aH (pv 1) ai (λ_ _=>rfl)) bR (aA _))
   (ah (aM (aI (pv 0) Y.cl D.mg' D.Gg RC D.bg .nil ao (aa (aD aH (pv 1) ai (λ_ _=>rfl)) (aa (aD aH (pv 1) ai (λ_ _=>rfl)) ad)))))
   (ah (aO (az bT (aD aH (pv 1) ai (λ_ _=>rfl)) bR (aA _))
    (ah (aM (aI (pv 0) Y.cl D.me D.Ge Kv D.be .nil ao (aa (aQ (aI (pv 0) Y.cl O.ml O.Gl HL O.bl .nil ao (aa (aD aH (pv 1) ai (λ_ _=>rfl)) ad)) Y.L.cl D.mp D.Gp EF D.bp .nil ao) (aa (aD aH (pv 1) ai (λ_ _=>rfl)) ad)))))
    (ah (aO (az bT (aD aH (pv 1) ai (λ_ _=>rfl)) bR (aA _))
     (ah (aM (aI (pv 0) Y.cl D.my D.Gy EF D.by' .nil ao (aa (aQ (aI (pv 0) Y.cl O.ml O.Gl HL O.bl .nil ao (aa (aD aH (pv 1) ai (λ_ _=>rfl)) ad)) Y.L.cl D.mp D.Gp EF D.bp .nil ao) (aa (aI (ap (ap (pv 0) Λ) Λ) L.cl Me.m Gen EF Me.b .nil ao (aa (aD aH (pv 1) ai (λ_ _=>rfl)) ad)) ad)))))
     (ah (aM (aQ (aI (pv 0) Y.cl O.ml O.Gl HL O.bl .nil ao (aa (aD aH (pv 1) ai (λ_ _=>rfl)) ad)) Y.L.cl D.mb D.Gb EF D.bb .nil ao)))))))))
  (ah (aM (c8 plainAttrs_list PySem.F.slot_list_append PySem.F.type_list_append bD (ap (pv 0) Λ) (aa (pv 1) ad))))),?_⟩
 obtain⟨DW,LC⟩:=vf hm
 refine⟨a.y,a.dy,_,Λ,hI.Y.ς,Λ,a,u,p,m,Λ,hI,hp,DW,λDl En N s1 hDl gDl IF=>?_⟩
 refine⟨Dl,En,tU m,(tZ a u m).map tU,Λ,sK m (s1 _ _ hp),DS.of gDl,dP IF,(ig m).le (by decide),λz hz=>by obtain⟨m',_,rfl⟩:=Õ.mp hz;exact(ig m').le (by decide),_,Λ,?_⟩
 rw[yN LC]
 refine aG ?_
 have Ie:=hI.same W s1
 have g:=s1 _ _ hp
 have I:=Ie.Y
 refine⟨λσ' H'=>σ'=start ["self","move"] [.ref a.y,.ref p]/\∃s',ES a u m s'/\Ee a.four N H'/\E8 K ys H' a s',?_,?_⟩
 ·
  have Kw:∀(k:Nat)(lk:bO)(pq:Int×Int),u.δ[k]?=Β lk->lk.qs.head?=Β pq->∀(Eb:List V),N a.la=Β (.ρ Eb)->∀(x dx pa:Ν)(Ep:List V)(H2:Hp),Ee [a.la] N H2->N x=Γ->N pa=Γ->H2 a.la=Β (.ρ (Eb.set k (.ref x)))->Es H2 ys.Ek x dx pa lk.r lk.b lk.h Ep lk.qs->
    ∀(Q':VK)(E':XK),(∀(v:V)(M:Hp),Bg M v pq->Ee [a.la] N M->E8 K ys M a {u with δ:=u.δ.set k (cj lk)}->Q' v M)->rF ys.Ek [.ref x] H2 Q' E':=by
   intro k lk pq A S Eb Z x dx pa Ep H2 o2 nx np g2 X Q' E' hQ
   refine⟨x,dx,pa,lk.r,lk.b,lk.h,Ep,lk.qs,Λ,X,λe0=>?_,λv rest ev M o3 Kk=>?_⟩
   ·exfalso
    have hl:=Paired.length X.Fc
    rw[e0]at hl
    cases FJ:lk.qs with
    |nil=>rw[FJ]at S;cases S
    |cons _ _=>rw[FJ]at hl;cases hl
   ·have o4:=λb o nb e=>o3 b o (ag e nx) (ag e np) (o2 b o nb e)
    refine hQ v M ?_ o4 (E8.Ht I Z o4 (k:=k) (x:=x) (dx:=dx) (pa:=pa) (o3 _ _ (ag Z nx) (ag Z np) g2) (ln:=cj lk) Kk np)
    have hz:=F4.JK o3 X.ς X.ρ X.Fc
    rw[ev]at hz
    cases FJ:lk.qs with
    |nil=>rw[FJ]at S;cases S
    | cons q0 r0 =>
     rw[FJ]at S hz
     cases S
     cases hz with
     |cons z _=>exact z
  obtain⟨Eb,Z,JN⟩:=I.χ
  have p3:∀{M:Hp}{ex:List Ν}{xs:List V},N p=Β (.tup xs)->Ee ex N M->(∀b∈ex,b∈a.four)->M p=Β (.tup xs):=λh o he=>o _ _ (λz=>by obtain⟨xs,hz⟩:=I.G9 _ (he _ z);rw[h]at hz;cases hz) h
  cases m with
  | Fm k l =>
   have g:=g
   obtain⟨l',t,ln,e0,ht,hg,hl,Ej,ho⟩:=yf (LC)
   cases e0
   refine⟨p,_,0,_,Λ,Λ,DY.of g,al (j:=0) Λ,Λ,_,Λ,?_⟩
   rw[kU]
   refine aK ⟨a.y,a.dy,_,Λ,I.ς,Λ,p,_,1,_,Λ,Λ,DY.of g,al (j:=1) Λ,p,_,2,_,Λ,Λ,DY.of g,al (j:=2) Λ,a,u,k,l,t,ln,Λ,I,ht,Ej,ho,(hI.G.EH k t ht).2,ă (hS.q l ln Ej) (by decide),λH' o' NA=>⟨Λ,_,ES.Fm ht hg hl Ej ho,o'.mono (by simp),NA⟩⟩
  | on k l =>
   have g:=g
   obtain⟨l',pq,lk,ln,e0,A,S,hl,Ej,ho⟩:=ye (LC)
   cases e0
   obtain⟨m,t,em,ht,IH⟩:=hI.G.Fc k lk A pq (û S)
   obtain⟨m0,cq⟩:=pq
   have em:=em
   subst em
   refine⟨p,_,0,_,Λ,Λ,DY.of g,al (j:=0) Λ,Λ,_,Λ,?_⟩
   rw[jS (by decide +kernel)]
   refine aG ⟨p,_,0,_,Λ,Λ,DY.of g,al (j:=0) Λ,Λ,_,Λ,?_⟩
   rw[kU]
   refine aK ⟨a.y,a.dy,_,Λ,I.ς,Λ,a.y,a.dy,_,Λ,I.ς,Λ,p,_,1,_,Λ,Λ,DY.of g,al (j:=1) Λ,a,u,k,lk,Eb,Λ,I,A,Z,λx dx pa Ep H2 o2 nx np g2 X=>⟨x,dx,_,Λ,X.ς,Λ,Kw k lk _ A S Eb Z x dx pa Ep H2 o2 nx np g2 X _ (λ_ _ _=>False) λv M hv o3 GO=>?_⟩⟩
   have OC:=p3 g o3 (by simp)
   have Fe:=(gQ0 A)
   obtain⟨B,RD,er,eh,eq⟩:∃B,(u.δ.set k (cj lk))[l]?=Β B/\B.r=ln.r/\B.h=ln.h/\B.qs.length<=10000:=by
    by_cases RE:k=l
    ·subst RE
     rw[A]at Ej
     cases Ej
     refine⟨cj lk,by simp[Fe],Λ,Λ,?_⟩
     have:=hS.q k lk A
     show lk.qs.tail.length<=10000
     rw[List.length_tail];omega
    ·exact⟨ln,by rw[Ú RE];exact Ej,Λ,Λ,hS.q l ln Ej⟩
   have FX:c9 B.r B.h m cq=Δ:=by rw[er,eh];exact ho
   refine⟨p,_,2,_,Λ,Λ,DY.of OC,al (j:=2) Λ,a,{u with δ:=u.δ.set k (cj lk)},v,m,cq,l,t,B,Λ,GO,hv,ht,RD,FX,(hI.G.EH m t ht).2,ă eq (by decide),λH' o' NA=>⟨Λ,_,ES.on A S ht hl RD FX,(o3.mono (by simp)).trans (o'.mono (by simp)),NA⟩⟩
  | Fn k =>
   have g:=g
   obtain⟨pq,lk,t0,e0,A,S,OK,hg⟩:=tW (LC)
   obtain⟨m,t,em,ht,IH⟩:=hI.G.Fc k lk A pq (û S)
   obtain⟨m0,cq⟩:=pq
   have em:=em
   subst em
   have OK:u.U[m]?=Β t0:=by rw[←OK];rfl
   rw[ht]at OK
   cases OK
   have Fe:=(gQ0 A)
   have ON:k<a.ps.length:=by rw[←hI.G.δ];exact Fe
   have he:=Μ ON
   have JP:a.ps.getD k (0,0)=a.ps[k]:=by rw[Ω,he];rfl
   obtain⟨e,ee,R6⟩:=hI.O.ends k _ he
   rw[JP,ee]at hg
   have hel:e<u.ι.length:=by rw[hI.G.ι];exact R6
   have FJ:=Μ hel
   refine⟨p,_,0,_,Λ,Λ,DY.of g,al (j:=0) Λ,Λ,_,Λ,?_⟩
   rw[jS (by decide +kernel)]
   refine aG ⟨p,_,0,_,Λ,Λ,DY.of g,al (j:=0) Λ,Λ,_,Λ,?_⟩
   rw[jS (by decide +kernel)]
   refine aG ⟨p,_,0,_,Λ,Λ,DY.of g,al (j:=0) Λ,Λ,_,Λ,?_⟩
   rw[kU]
   refine aK ⟨a.y,a.dy,_,Λ,I.ς,Λ,a.y,a.dy,_,Λ,I.ς,Λ,p,_,1,_,Λ,Λ,DY.of g,al (j:=1) Λ,a,u,k,lk,Eb,Λ,I,A,Z,λx dx pa Ep H2 o2 nx np g2 X=>⟨x,dx,_,Λ,X.ς,Λ,Kw k lk _ A S Eb Z x dx pa Ep H2 o2 nx np g2 X _ (λ_ _ _=>False) λv M hv o3 GO=>?_⟩⟩
   have OC:=p3 g o3 (by simp)
   have Lu:=EL.keep W Ie.T (Ee.Ed (λb hb=>by simp at hb;subst hb;exact⟨_,Z⟩) o3)
   obtain⟨Jy,fst,Jd,Fg,GA⟩:=Lu.i
   refine⟨a.y,ys.DR,a.dy,_,_,Λ,GO.ς,Y.cl,Y.n1,Λ,a.tb,TC,Jy,fst,_,Λ,Jd,W.cl,W.nl,Fg,a.lx,a.Eh,_,Λ,Lu.l.1,Λ,p,_,1,_,Λ,Λ,DY.of OC,al (j:=1) Λ,a.lx,a.Eh,a.lt,(a.n:Int),a.DX,a.ps,k,_,Λ,Lu.l,he,?_⟩
   rw[ee]
   exact⟨a,{u with δ:=u.δ.set k (cj lk)},v,((m:Int),cq),e,_,Λ,GO,hv,FJ,Î (hS.l e _ FJ) (by decide),λH' o' NA=>⟨Λ,_,ES.Fn A S ht hg (by rw[JP,ee]) FJ,(o3.mono (by simp)).trans (o'.mono (by simp)),NA⟩⟩
  | back k =>
   have g:=g
   obtain⟨lk,e0,A,hb⟩:=qB (LC)
   refine⟨p,_,0,_,Λ,Λ,DY.of g,al (j:=0) Λ,Λ,_,Λ,?_⟩
   rw[jS (by decide +kernel)]
   refine aG ⟨p,_,0,_,Λ,Λ,DY.of g,al (j:=0) Λ,Λ,_,Λ,?_⟩
   rw[jS (by decide +kernel)]
   refine aG ⟨p,_,0,_,Λ,Λ,DY.of g,al (j:=0) Λ,Λ,_,Λ,?_⟩
   rw[jS (by decide +kernel)]
   refine aG ⟨a.y,a.dy,_,Λ,I.ς,Λ,p,_,1,_,Λ,Λ,DY.of g,al (j:=1) Λ,a,u,k,lk,Eb,Λ,I,A,Z,λx dx pa Ep H2 o2 nx np g2 X=>⟨x,dx,_,Λ,X.ς,Λ,x,dx,pa,lk.r,lk.b,lk.h,Ep,lk.qs,Λ,X,(λe0=>by rw[e0]at hb;exact Κ hb (by decide)),λ_ M o3 Kk=>?_⟩⟩
   have o4:Ee [a.la] N M:=λb o nb e=>o3 b o (ag e nx) (ag e np) (o2 b o nb e)
   exact⟨Λ,_,ES.back A hb,o4.mono (by simp),E8.Ht I Z o4 (k:=k) (x:=x) (dx:=dx) (pa:=pa) (o3 _ _ (ag Z nx) (ag Z np) g2) (ln:=lH lk) Kk np⟩
 ·rintro σ' H2 ⟨rfl,s',hs,o2,Jf⟩
  obtain⟨Fv,MA,pd⟩:=Jf.Fw
  have IA:Fv.length=u.done.length:=by rw[Paired.length pd,hs.done]
  have Lo:=o2 _ _ (λz=>by obtain⟨xs,hz⟩:=I.G9 _ z;rw[g]at hz;cases hz) g
  have hd:=hS.d
  refine⟨a.y,ys.DR,a.dy,_,_,Λ,Jf.ς,Y.cl,Y.n6,Λ,.inl ⟨Λ,_,DS.of MA⟩,a.dn,_,_,Λ,Λ,MA,by rw[ϗ];omega,?_⟩
  have GO:=Jf.M8 MA ⟨p,Λ,Lo⟩
  rw[hs.done]at GO
  exact q _ s' hs ((DP.EA s1).trans (o2.trans (dD (by simp)))) GO
theorem bG{a:Type}{L:List a}{y z:a}(h:(L.set k y)[j]?=Β z):(j=k/\z=y)∨(j≠k/\L[j]?=Β z):=by
 by_cases e:k=j
 ·subst e
  rw[List.getElem?_set_self']at h
  cases b:L[k]? with
  |none=>rw[b]at h;cases h
  |some x=>rw[b]at h;cases h;exact .inl ⟨Λ,Λ⟩
 ·rw[Ú e]at h
  exact .inr ⟨ϛ e,h⟩
theorem cR{a:Type}{L:List a}{x y:a}(h:L[k]?=Β x):(L.set k y)[k]?=Β y:=by
 have:=(gQ0 h)
 simp[this]
theorem cW{a:Type}(f:a->Nat):∀{L:List a}{k:Nat}{x y:a},L[k]?=Β x->((L.set k y).map f).sum+f x=(L.map f).sum+f y
 |[],_,_,_,h=>by cases h
 |z:: L,0,x,y,h=>by cases h;simp only[MH,Ç,đ];omega
 | z:: L,k+1,x,y,h=>by
  have:=cW f (L:=L) (k:=k) (x:=x) (y:=y) h
  simp only[MY,Ç,đ];omega
theorem kK{a:Type}(f:a->Int):∀{L:List a}{k:Nat}{x y:a},L[k]?=Β x->((L.set k y).map f).sum+f x=(L.map f).sum+f y
 |[],_,_,_,h=>by cases h
 |z:: L,0,x,y,h=>by cases h;simp only[MH,Ç,đ];omega
 | z:: L,k+1,x,y,h=>by
  have:=kK f (L:=L) (k:=k) (x:=x) (y:=y) h
  simp only[MY,Ç,đ];omega
noncomputable def p9(a:YA)(l:Nat):Int:=(a.ps.getD l (0,0)).2
noncomputable def kL(s:YS):Nat:=(s.δ.map λln=>ln.qs.length).sum
noncomputable def jR(s:YS):Nat:=(s.ι.map λqs=>qs.length).sum
noncomputable def gQ(s:YS):Int:=(s.U.map λt=>t.ε).sum
structure Vd(a:YA)(s:YS)(m:Nat)(c:Int):Prop where
 δ:s.δ.length=a.ps.length
 ι:s.ι.length=a.n
 E4:s.U.length<=60
 Ig:a.ps.length<=40
 lets:∀(m:Nat)(t:bE),s.U[m]?=Β t->∃x y:Nat,t.start=(x:Int)/\t.μ=(y:Int)/\x<a.n/\y<a.n
 EH:∀(m:Nat)(t:bE),s.U[m]?=Β t->(∀l∈t.Α,l<a.ps.length)/\t.Α.Nodup
 Fc:∀(k:Nat)(ln:bO),s.δ[k]?=Β ln->∀q∈ln.qs,∃(m:Nat)(t:bE),q.1=(m:Int)/\s.U[m]?=Β t/\k∈t.Α
 FN:∀(m:Nat)(t:bE),s.U[m]?=Β t->0<=t.ε/\t.ε<=t.len/\t.len<=60
 EM:∀(m':Nat)(t:bE),s.U[m']?=Β t->t.ε=0->t.Α=[]/\m'≠m
 last:∀(m:Nat)(t:bE),s.U[m]?=Β t->∀(i l:Nat),t.Α[i]?=Β l->p9 a l=t.μ->i+1=t.Α.length
 head:∀(m':Nat)(t:bE),s.U[m']?=Β t->∀(l:Nat)(ln:bO),t.Α.getLast?=Β l->s.δ[l]?=Β ln->(m'=m/\c=0)∨((m':Int),(0:Int))∈ln.qs∨p9 a l=t.μ
 first:∀(k:Nat)(ln:bO),s.δ[k]?=Β ln->∀(i j:Nat)(z:Int)(q:Int×Int),ln.qs[i]?=Β (z,0)->j<i->ln.qs[j]?=Β q->q.1≠z
 Ih:∀(k:Nat)(ln:bO),s.δ[k]?=Β ln->∀(m':Nat)(t:bE),((m':Int),(0:Int))∈ln.qs->s.U[m']?=Β t->t.Α.getLast?=Β k
 ε:c=0->∀(k:Nat)(ln:bO),s.δ[k]?=Β ln->((m:Int),(0:Int))∉ln.qs
 sum:(kL s:Int)+(jR s:Int)+1=gQ s
structure EG(a:YA)(s:YS):Prop where
 δ:s.δ.length=a.ps.length
 ι:s.ι.length=a.n
 E4:s.U.length<=60
 Ig:a.ps.length<=40
 lets:∀(m:Nat)(t:bE),s.U[m]?=Β t->∃x y:Nat,t.start=(x:Int)/\t.μ=(y:Int)/\x<a.n/\y<a.n
 EH:∀(m:Nat)(t:bE),s.U[m]?=Β t->(∀l∈t.Α,l<a.ps.length)/\t.Α.Nodup
 Fc:∀(k:Nat)(ln:bO),s.δ[k]?=Β ln->∀q∈ln.qs,∃(m:Nat)(t:bE),q.1=(m:Int)/\s.U[m]?=Β t/\k∈t.Α
 FN:∀(m:Nat)(t:bE),s.U[m]?=Β t->0<=t.ε/\t.ε<=t.len/\t.len<=60
 EM:∀(m':Nat)(t:bE),s.U[m']?=Β t->t.ε=0->t.Α=[]
 last:∀(m:Nat)(t:bE),s.U[m]?=Β t->∀(i l:Nat),t.Α[i]?=Β l->p9 a l=t.μ->i+1=t.Α.length
 head:∀(m':Nat)(t:bE),s.U[m']?=Β t->∀(l:Nat)(ln:bO),t.Α.getLast?=Β l->s.δ[l]?=Β ln->((m':Int),(0:Int))∈ln.qs∨p9 a l=t.μ
 first:∀(k:Nat)(ln:bO),s.δ[k]?=Β ln->∀(i j:Nat)(z:Int)(q:Int×Int),ln.qs[i]?=Β (z,0)->j<i->ln.qs[j]?=Β q->q.1≠z
 Ih:∀(k:Nat)(ln:bO),s.δ[k]?=Β ln->∀(m':Nat)(t:bE),((m':Int),(0:Int))∈ln.qs->s.U[m']?=Β t->t.Α.getLast?=Β k
 sum:(kL s:Int)+(jR s:Int)=gQ s
theorem gK:∀(n:Nat)(l:List Nat),l.Nodup->(∀x∈l,x<n)->l.length<=n
 | 0,l,_,h=>by
  cases l with
  |nil=>exact Ξ _
  |cons x _=>exact Κ (h x ϟ) (by omega)
 | n+1,l,hn,h=>by
  have c:=gK n (l.filter λx=>decide (x≠n)) (hn.filter _) λx d=>by
   obtain⟨a,b⟩:=Å.mp d
   have:=h x a
   have:=of_decide_eq_true b
   omega
  have i:l.length<=(l.filter λx=>decide (x≠n)).length+1:=by
   clear c h
   induction l with
   |nil=>exact Ϧ _
   | cons x l f =>
    rw[ë]at hn
    by_cases e:x=n
    ·subst e
     have:(l.filter λy=>decide (y≠x))=l:=cc.mpr λy g=>Ζ λz=>hn.1 (z▸g)
     rw[ċ (by simp),this]
     exact Ξ _
    ·rw[Ii (by simpa using e)]
     have:=f hn.2
     simp only[Ė]
     omega
  omega
theorem EG.ok(h:EG a s):XD a s:=⟨h.δ,h.ι,h.lets,λm t b=>⟨(h.EH m t b).1,by have:=gK _ _ (h.EH m t b).2 (h.EH m t b).1;have:=h.Ig;omega⟩,h.Fc,h.E4⟩
theorem yd{a:Type}{x:a}{l:List a}(h:x∈l.tail):x∈l:=List.mem_of_mem_tail h
theorem yz{a:Type}{l:List a}{x:a}(h:l.head?=Β x):l[0]?=Β x:=by cases l with
 |nil=>cases h
 |cons y r=>exact h
theorem tX{a:Type}{l:List a}{x:a}(h:x∈l):∃i:Nat,l[i]?=Β x:=by
 obtain⟨i,b,e⟩:=ô h
 exact⟨i,by rw[Μ b,e]⟩
theorem pQ{a:Type}(l:List a)(i:Nat):l.tail[i]?=l[i+1]?:=by cases l with
 |nil=>simp
 |cons y r=>rfl
theorem q5{k m:Nat}(J:EG a s)(p:s.δ[k]?=Β lk)(g:lk.qs.head?=Β ((m:Int),c)):Vd a {s with δ:=s.δ.set k (cj lk)} m c:=by
 have U:=yz g
 have F:∀(j:Nat)(f:bO),(s.δ.set k (cj lk))[j]?=Β f->∃b,s.δ[j]?=Β b/\(∀q∈f.qs,q∈b.qs)/\∃d,(∀i,f.qs[i]?=b.qs[i+d]?)/\(f.qs=b.qs∨(j=k/\b=lk/\f.qs=lk.qs.tail)):=λj f h=>by
  rcases bG h with ⟨rfl,rfl⟩|⟨ne,h⟩
  ·exact⟨lk,p,λq g=>yd g,1,λi=>pQ _ i,.inr ⟨Λ,Λ,Λ⟩⟩
  ·exact⟨f,h,λq g=>g,0,λi=>rfl,.inl Λ⟩
 have keep:∀(j:Nat)(b:bO),s.δ[j]?=Β b->∃f,(s.δ.set k (cj lk))[j]?=Β f/\∀q∈b.qs,q=((m:Int),c)∨q∈f.qs:=λj b h=>by
  by_cases e:j=k
  ·subst e
   rw[p]at h
   cases h
   refine⟨cj lk,cR p,λq A=>?_⟩
   show _∨q∈lk.qs.tail
   cases B:lk.qs with
   |nil=>rw[B]at g;cases g
   | cons z r =>
    rw[B]at g A
    cases g
    exact(Ϯ.mp A).imp id id
  ·exact⟨b,by rw[Ú (ϛ e)];exact h,λq g =>.inr g⟩
 refine⟨by rw[←J.δ];simp,J.ι,J.E4,J.Ig,J.lets,J.EH,?_,J.FN,?_,J.last,?_,?_,?_,?_,?_⟩
 ·intro j f h q A
  obtain⟨b,o,u,_⟩:=F j f h
  exact J.Fc j b o q (u q A)
 ·intro v t C R
  refine⟨J.EM v t C R,λe=>?_⟩
  subst e
  obtain⟨G,O,H,I,L⟩:=J.Fc k lk p _ (û g)
  have:v=G:=by have:(v:Int)=(G:Int):=H;omega
  subst this
  rw[C]at I
  cases I
  rw[J.EM v t C R]at L
  cases L
 ·intro v t C l f B S
  obtain⟨b,o,u,_⟩:=F l f S
  rcases J.head v t C l b B o with h|h
  ·obtain⟨Q,D,T⟩:=keep l b o
   have D:=D
   rw[S]at D
   cases D
   rcases T _ h with e|h
   ·injection e with e1 H
    exact .inl ⟨by omega,H.symm⟩
   ·exact .inr (.inl h)
  ·exact .inr (.inr h)
 ·intro j f h i X z q E El A
  obtain⟨b,o,_,d,D,_⟩:=F j f h
  rw[D]at E A
  exact J.first j b o (i+d) (X+d) z q E (by omega) A
 ·intro j f h v t M C
  obtain⟨b,o,u,_⟩:=F j f h
  exact J.Ih j b o v t (u _ M) C
 ·intro Y j f h M
  subst Y
  obtain⟨b,o,u,d,D,T⟩:=F j f h
  obtain⟨G,O,H,I,_⟩:=J.Fc k lk p _ (û g)
  have:m=G:=by have:(m:Int)=(G:Int):=H;omega
  subst this
  have Z:=J.Ih k lk p m O (û g) I
  have N:=J.Ih j b o m O (u _ M) I
  rw[Z]at N
  have N:=Ψ N
  subst N
  rcases bG h with ⟨_,rfl⟩|⟨ne,_⟩
  ·obtain⟨i,E⟩:=tX M
   have E:lk.qs.tail[i]?=Β ((m:Int),0):=E
   rw[pQ]at E
   exact J.first k lk p (i+1) 0 _ _ E (by omega) U Λ
  ·exact ne Λ
 ·have:=cW (λb:bO=>b.qs.length) (y:=cj lk) p
  have B:(cj lk).qs.length+1=lk.qs.length:=by
   show lk.qs.tail.length+1=_
   cases B:lk.qs with
   |nil=>rw[B]at g;cases g
   |cons _ _=>rfl
  have u:=J.sum
  unfold kL at u⊢
  show((((s.δ.set k (cj lk)).map λb=>b.qs.length).sum:Nat):Int)+(jR s:Int)+1=gQ s
  omega
theorem yc(J:EG a s)(r:s.U[k]?=Β t)(L:t.ε≠t.len):Vd a (cN s k t) k t.ε:=by
 have M:=J.FN k t r
 have lk:∀(m:Nat)(b:bE),(s.U.set k {t with ε:=t.ε+1})[m]?=Β b->∃c,s.U[m]?=Β c/\b.start=c.start/\b.μ=c.μ/\b.Α=c.Α/\b.len=c.len/\((m=k/\b.ε=t.ε+1)∨(m≠k/\b.ε=c.ε)):=λm b h=>by
  rcases bG h with ⟨rfl,rfl⟩|⟨ne,h⟩
  ·exact⟨t,r,Λ,Λ,Λ,Λ,.inl ⟨Λ,Λ⟩⟩
  ·exact⟨b,h,Λ,Λ,Λ,Λ,.inr ⟨ne,Λ⟩⟩
 refine⟨J.δ,J.ι,by show(s.U.set _ _).length<=60;rw[Ċ];exact J.E4,J.Ig,?_,?_,?_,?_,?_,?_,?_,J.first,?_,?_,?_⟩
 ·intro m b h
  obtain⟨c,d,u,p,_⟩:=lk m b h
  rw[u,p];exact J.lets m c d
 ·intro m b h
  obtain⟨c,d,u,p,o,_⟩:=lk m b h
  rw[o];exact J.EH m c d
 ·intro j v h q E
  obtain⟨m,c,e,d,z⟩:=J.Fc j v h q E
  by_cases C:m=k
  ·subst C
   rw[r]at d
   cases d
   exact⟨m,_,e,cR r,z⟩
  ·exact⟨m,c,e,by show(s.U.set _ _)[m]?=_;rw[Ú (ϛ C)];exact d,z⟩
 ·intro m b h
  obtain⟨c,d,u,p,o,x,f⟩:=lk m b h
  have:=J.FN m c d
  rcases f with ⟨rfl,f⟩|⟨_,f⟩
  ·rw[r]at d
   cases d
   rw[x,f];omega
  ·rw[x,f];exact this
 ·intro m b h N
  obtain⟨c,d,u,p,o,x,f⟩:=lk m b h
  rcases f with ⟨rfl,f⟩|⟨ne,f⟩
  ·omega
  ·rw[o];exact⟨J.EM m c d (by omega),ne⟩
 ·intro m b h i l D A
  obtain⟨c,d,u,p,o,x,f⟩:=lk m b h
  rw[o]at D⊢
  rw[p]at A
  exact J.last m c d i l D A
 ·intro m b h l v A F
  obtain⟨c,d,u,p,o,x,f⟩:=lk m b h
  rw[o]at A
  rw[p]
  exact .inr (J.head m c d l v A F)
 ·intro j v h m b B G
  obtain⟨c,d,u,p,o,x,f⟩:=lk m b G
  rw[o]
  exact J.Ih j v h m c B d
 ·intro H j v h B
  obtain⟨m,c,e,d,z⟩:=J.Fc j v h _ B
  have:k=m:=by have:(k:Int)=(m:Int):=e;omega
  subst this
  rw[r]at d
  cases d
  rw[J.EM k t r H]at z
  cases z
 ·have:=kK (λt:bE=>t.ε) (y:={t with ε:=t.ε+1}) r
  have I:=J.sum
  unfold gQ at I⊢
  show (kL s:Int)+(jR s:Int)+1=((s.U.set k {t with ε:=t.ε+1}).map λt=>t.ε).sum
  have:({t with ε:=t.ε+1}:bE).ε=t.ε+1:=rfl
  omega
theorem yo{l:List Nat}(h:l.getLast?=Β x):l[l.length - 1]?=Β x:=by rw[←h,ñ]
theorem nj(M:Vd a s m c)(E:s.U[m]?=Β t)(G:s.δ[l]?=Β p)(Y:c=0->l∉t.Α/\∀x∈t.Α,p9 a x≠t.μ)(h1:c≠0->l∈t.Α):EG a (cn s m c l t p):=by
 have FZ:l<a.ps.length:=by rw[←M.δ];exact(gQ0 G)
 have lk:∀(b:Nat)(d:bE),(cn s m c l t p).U[b]?=Β d->∃f,s.U[b]?=Β f/\d.start=f.start/\d.μ=f.μ/\d.len=f.len/\d.ε=f.ε/\((c=0/\b=m/\f=t/\d.Α=t.Α++[l])∨(¬(c=0/\b=m)/\d.Α=f.Α)):=λb d h=>by
  have h:(if c=0 then s.U.set m {t with Α:=t.Α++[l]} else s.U)[b]?=Β d:=h
  by_cases o:c=0
  ·rw[Ι o]at h
   rcases bG h with ⟨rfl,rfl⟩|⟨ne,h⟩
   ·exact⟨t,E,Λ,Λ,Λ,Λ,.inl ⟨o,Λ,Λ,Λ⟩⟩
   ·exact⟨d,h,Λ,Λ,Λ,Λ,.inr ⟨λz=>ne z.2,Λ⟩⟩
  ·rw[Θ o]at h
   exact⟨d,h,Λ,Λ,Λ,Λ,.inr ⟨λz=>o z.1,Λ⟩⟩
 have I:∀(b:Nat)(f:bE),s.U[b]?=Β f->∃d,(cn s m c l t p).U[b]?=Β d/\(∀x∈f.Α,x∈d.Α)/\(b=m->l∈d.Α):=λb f h=>by
  by_cases o:c=0
  ·by_cases e:b=m
   ·subst e
    rw[E]at h
    cases h
    refine⟨{t with Α:=t.Α++[l]},by show(if c=0 then s.U.set b {t with Α:=t.Α++[l]} else s.U)[b]?=_;rw[Ι o];exact cR E,λx g=>Ä _ g,λ_=>by show l∈t.Α++[l];simp⟩
   ·exact⟨f,by show(if c=0 then s.U.set m {t with Α:=t.Α++[l]} else s.U)[b]?=_;rw[Ι o,Ú (ϛ e)];exact h,λx g=>g,λz=>Κ z e⟩
  ·refine⟨f,by show(if c=0 then s.U.set m {t with Α:=t.Α++[l]} else s.U)[b]?=_;rw[Θ o];exact h,λx g=>g,λz=>?_⟩
   subst z
   rw[E]at h
   cases h
   exact h1 o
 have Q:∀(j:Nat)(r:bO),(cn s m c l t p).δ[j]?=Β r->(j=l/\r.qs=p.qs++[((m:Int),c)])∨(j≠l/\s.δ[j]?=Β r):=λj r h=>by
  rcases bG h with ⟨rfl,rfl⟩|⟨ne,h⟩
  ·exact .inl ⟨Λ,Λ⟩
  ·exact .inr ⟨ne,h⟩
 have J:∀(j:Nat)(r:bO),(cn s m c l t p).δ[j]?=Β r->∀q∈r.qs,(j=l/\q=((m:Int),c))∨∃F,s.δ[j]?=Β F/\q∈F.qs:=λj r h q u=>by
  rcases Q j r h with ⟨rfl,e⟩|⟨ne,h⟩
  ·rw[e,Ϣ]at u
   rcases u with u|u
   ·exact .inr ⟨p,G,u⟩
   ·exact .inl ⟨Λ,by simpa using u⟩
  ·exact .inr ⟨r,h,u⟩
 refine⟨by rw[←M.δ];show(s.δ.set _ _).length=_;simp,M.ι,?_,M.Ig,?_,?_,?_,?_,?_,?_,?_,?_,?_,?_⟩
 ·show(if c=0 then s.U.set m {t with Α:=t.Α++[l]} else s.U).length<=60
  by_cases o:c=0
  ·rw[Ι o,Ċ];exact M.E4
  ·rw[Θ o];exact M.E4
 ·intro b d h
  obtain⟨f,v,R,C,_⟩:=lk b d h
  rw[R,C];exact M.lets b f v
 ·intro b d h
  obtain⟨f,v,_,_,_,_,e⟩:=lk b d h
  obtain⟨S,T⟩:=M.EH b f v
  rcases e with ⟨o,rfl,rfl,e⟩|⟨_,e⟩
  ·rw[e]
   refine⟨λx g=>?_,?_⟩
   ·rcases Ϣ.mp g with g|g
    ·exact S x g
    ·rw[Φ.mp g];exact FZ
   ·rw[ı]
    exact⟨T,by simp,λx g y hy=>by rw[Φ.mp hy];exact λz=>(Y o).1 (z▸g)⟩
  ·rw[e];exact⟨S,T⟩
 ·intro j r h q u
  rcases J j r h q u with ⟨rfl,rfl⟩|⟨F,v,u⟩
  ·obtain⟨d,D,_,H⟩:=I m t E
   exact⟨m,d,Λ,D,H Λ⟩
  ·obtain⟨b,f,e,D,hj⟩:=M.Fc j F v q u
   obtain⟨d,H,Z,_⟩:=I b f D
   exact⟨b,d,e,H,Z j hj⟩
 ·intro b d h
  obtain⟨f,v,_,_,e3,e4,_⟩:=lk b d h
  rw[e3,e4];exact M.FN b f v
 ·intro b d h hz
  obtain⟨f,v,_,_,_,e4,e⟩:=lk b d h
  rw[e4]at hz
  obtain⟨S,T⟩:=M.EM b f v hz
  rcases e with ⟨o,rfl,_⟩|⟨_,e⟩
  ·exact Κ Λ T
  ·rw[e];exact S
 ·intro b d h i x B g
  obtain⟨f,v,_,C,_,_,e⟩:=lk b d h
  rw[C]at g
  rcases e with ⟨o,rfl,rfl,e⟩|⟨_,e⟩
  ·rw[e]at B⊢
   by_cases L:i<f.Α.length
   ·rw[Ϙ L]at B
    exact Κ g ((Y o).2 x (Ϗ B))
   ·have:=(gQ0 B)
    rw[Υ,ϙ]at this⊢
    omega
  ·rw[e]at B⊢
   exact M.last b f v i x B g
 ·intro b d h x r g F7
  obtain⟨f,v,_,C,_,_,e⟩:=lk b d h
  rcases e with ⟨o,rfl,rfl,e⟩|⟨ne,e⟩
  ·rw[e]at g
   have g:l=x:=by simpa using g
   subst g
   rcases Q l r F7 with ⟨_,N⟩|⟨ne,_⟩
   ·left
    rw[N,o];simp
   ·exact Κ Λ ne
  ·rw[e]at g
   rcases Q x r F7 with ⟨rfl,N⟩|⟨ne',O⟩
   ·rcases M.head b f v x p g G with z|z|z
    ·exact Κ ⟨z.2,z.1⟩ ne
    ·exact .inl (by rw[N];exact Ä _ z)
    ·rw[C];exact .inr z
   ·rcases M.head b f v x r g O with z|z|z
    ·exact Κ ⟨z.2,z.1⟩ ne
    ·exact .inl z
    ·rw[C];exact .inr z
 ·intro j r h i i' z q B L u
  rcases Q j r h with ⟨rfl,e⟩|⟨_,O⟩
  ·rw[e]at B u
   by_cases GX:i<p.qs.length
   ·rw[Ϙ GX]at B
    rw[Ϙ (by omega)]at u
    exact M.first j p G i i' z q B L u
   ·have D:=(gQ0 B)
    rw[Υ,ϙ]at D
    have ei:i=p.qs.length:=by omega
    subst ei
    rw[È]at B
    have B:=Ψ B
    injection B with R C
    subst R
    rw[Ϙ L]at u
    intro ez
    obtain⟨b,f,e3,H,Z⟩:=M.Fc j p G q (Ϗ u)
    have em0:(b:Int)=(m:Int):=by rw[←e3];exact ez
    have:m=b:=by omega
    subst this
    rw[E]at H
    cases H
    exact(Y C).1 Z
  ·exact M.first j r O i i' z q B L u
 ·intro j r h b d X O
  obtain⟨f,v,_,_,_,_,e⟩:=lk b d O
  rcases J j r h _ X with ⟨rfl,N⟩|⟨F,D,X⟩
  ·injection N with R C
   have em:b=m:=by omega
   subst em
   rcases e with ⟨_,_,_,e⟩|⟨ne,_⟩
   ·rw[e];simp
   ·exact Κ ⟨C.symm,Λ⟩ ne
  ·rcases e with ⟨o,rfl,rfl,e⟩|⟨ne,e⟩
   ·exact Κ X (M.ε o j F D)
   ·rw[e];exact M.Ih j F D b f X v
 ·have q1:=cW (λp:bO=>p.qs.length) (y:=fL p m c t.len) G
  have q2:(fL p m c t.len).qs.length=p.qs.length+1:=by show(p.qs++[_]).length=_;simp
  have q3:gQ (cn s m c l t p)=gQ s:=by
   unfold gQ
   show((if c=0 then s.U.set m {t with Α:=t.Α++[l]} else s.U).map λt=>t.ε).sum=_
   by_cases o:c=0
   ·rw[Ι o]
    have:=kK (λt:bE=>t.ε) (y:={t with Α:=t.Α++[l]}) E
    have e:({t with Α:=t.Α++[l]}:bE).ε=t.ε:=rfl
    omega
   ·rw[Θ o]
  have v:=M.sum
  rw[q3]
  unfold kL at v⊢
  show((((s.δ.set l (fL p m c t.len)).map λp=>p.qs.length).sum:Nat):Int)+(jR s:Int)=gQ s
  omega
theorem Aw(M:Vd a s m c)(j:s.U[m]?=Β t)(l:s.ι[e]?=Β b)(o:c=0->∀x,t.Α.getLast?=Β x->p9 a x=t.μ):EG a {s with ι:=s.ι.set e (b++[((m:Int),c)])}:=by
 refine⟨M.δ,by show(s.ι.set _ _).length=_;rw[Ċ];exact M.ι,M.E4,M.Ig,M.lets,M.EH,M.Fc,M.FN,λd f h z=>(M.EM d f h z).1,M.last,?_,M.first,M.Ih,?_⟩
 ·intro d f h x p i q
  rcases M.head d f h x p i q with ⟨rfl,r⟩|z|z
  ·have h:=h
   rw[j]at h
   cases h
   exact .inr (o r x i)
  ·exact .inl z
  ·exact .inr z
 ·have:=cW (λb:List (Int×Int)=>b.length) (y:=b++[((m:Int),c)]) l
  have u:=M.sum
  unfold jR at u⊢
  show (kL s:Int)+((((s.ι.set e (b++[((m:Int),c)])).map λb=>b.length).sum:Nat):Int)=gQ s
  rw[Υ,ϙ]at this
  omega
theorem EG.back(J:EG a s)(o:s.δ[k]?=Β lk)(e:RF.qs=lk.qs):EG a {s with δ:=s.δ.set k RF}:=by
 have g:∀(j:Nat)(b:bO),(s.δ.set k RF)[j]?=Β b->∃c,s.δ[j]?=Β c/\b.qs=c.qs:=λj b h=>by
  rcases bG h with ⟨rfl,rfl⟩|⟨_,h⟩
  ·exact⟨lk,o,e⟩
  ·exact⟨b,h,Λ⟩
 refine⟨by rw[←J.δ];simp,J.ι,J.E4,J.Ig,J.lets,J.EH,?_,J.FN,J.EM,J.last,?_,?_,?_,?_⟩
 ·intro j b h q p
  obtain⟨c,d,f⟩:=g j b h
  rw[f]at p
  exact J.Fc j c d q p
 ·intro m t r x b u v
  obtain⟨c,d,f⟩:=g x b v
  rw[f]
  exact J.head m t r x c u d
 ·intro j b h
  obtain⟨c,d,f⟩:=g j b h
  rw[f]
  exact J.first j c d
 ·intro j b h
  obtain⟨c,d,f⟩:=g j b h
  rw[f]
  exact J.Ih j c d
 ·have:=cW (λl:bO=>l.qs.length) (y:=RF) o
  have z:=J.sum
  have A:=congrArg K8 e
  unfold kL at z⊢
  show((((s.δ.set k RF).map λl=>l.qs.length).sum:Nat):Int)+(jR s:Int)=gQ s
  omega
theorem EG.step(J:EG a s)(h:ES a s m s'):EG a s':=by
 cases h with
 | @Fm k l t ln ht hg hl Ej ho =>
  have M:=yc J ht hg
  refine nj (t:={t with ε:=t.ε+1}) M (cR ht) Ej (λb=>?_) (λb=>?_)
  ·have g:=J.EM k t ht b
   rw[g]
   exact⟨by simp,by simp⟩
  ·unfold c5 at hl
   rw[Θ b]at hl
   exact ì hl
 | @on k l m c lk ln t hk hq ht hl Ej ho =>
  have M:=q5 J hk hq
  have g:ck a s k=if c=0 then (lz a k t.μ.toNat).filter (λl=>!decide (l∈t.Α)) else (t.Α.drop (t.Α.idxOf k+1)).take 1:=by
   unfold ck bC
   rw[hk]
   dsimp only
   rw[hq]
   dsimp only
   rw[ϋ,ht]
  rw[g]at hl
  refine nj M ht Ej (λb=>?_) (λb=>?_)
  ·rw[Ι b]at hl
   obtain⟨j,u⟩:=Å.mp hl
   refine⟨by simpa using u,λx d ex=>?_⟩
   subst b
   obtain⟨i,r⟩:=tX d
   have y:=J.last m t ht i x r ex
   have o:=J.Ih k lk hk m t (û hq) ht
   have f:=yo o
   rw[show t.Α.length - 1=i by omega,r]at f
   have f:=Ψ f
   subst f
   unfold lz at j
   obtain⟨z,A,B,v,_,_⟩:=J.lets m t ht
   rw[Ι (by show p9 a x=_;rw[ex,v,ϋ])]at j
   cases j
  ·rw[Θ b]at hl
   exact ű (ì hl)
 | @Fn k m e c lk t qs hk hq ht hg he FJ =>
  have M:=q5 J hk hq
  have:=Aw (s:={s with δ:=s.δ.set k (cj lk)}) M ht FJ (λb x d=>?_)
  ·exact this
  ·subst b
   have o:=J.Ih k lk hk m t (û hq) ht
   rw[o]at d
   have d:=Ψ d
   subst d
   show(a.ps.getD k (0,0)).2=t.μ
   rw[he,hg]
 | @back k lk hk hb=>exact J.back hk Λ
noncomputable def vY(s:YS):Int:=(s.U.map λt=>t.len).sum
theorem sY{a:Type}(f g:a->Int):∀{L:List a},(∀(m:Nat)(t:a),L[m]?=Β t->f t<=g t)->(L.map f).sum<=(L.map g).sum
 |[],_=>by simp
 | x:: L,h=>by
  have c:=h 0 x Λ
  have d:=sY f g (L:=L) λm t b=>h (m+1) t b
  simp only[Ç,đ];omega
theorem mQ{a:Type}(g:a->Int):∀{L:List a},(∀(m:Nat)(t:a),L[m]?=Β t->g t<=60)->(L.map g).sum<=60* L.length
 |[],_=>by simp
 | x:: L,h=>by
  have c:=h 0 x Λ
  have d:=mQ g (L:=L) λm t b=>h (m+1) t b
  simp only[Ç,đ,Ė];omega
theorem EG.RG(J:EG a s):(jR s:Int)<=vY s/\(kL s:Int)+(jR s:Int)<=3600:=by
 have d:=sY (λt:bE=>t.ε) (λt=>t.len) (L:=s.U) λm t b=>(J.FN m t b).2.1
 have c:=J.sum
 have e:=mQ (λt:bE=>t.len) (L:=s.U) λm t b=>(J.FN m t b).2.2
 have f:=J.E4
 unfold gQ at c
 unfold vY
 omega
theorem lC{a:Type}(f:a->Nat):∀{L:List a}{k:Nat}{x:a},L[k]?=Β x->f x<=(L.map f).sum
 |[],_,_,h=>by cases h
 |z:: L,0,x,h=>by cases h;simp only[Ç,đ];omega
 | z:: L,k+1,x,h=>by
  have:=lC f (L:=L) (k:=k) (x:=x) h
  simp only[Ç,đ];omega
theorem EG.sml(J:EG a s)(d:s.done.length<=100000):Sml s:=by
 have h:=J.RG.2
 refine⟨λk b e=>?_,λp c f=>?_,d⟩
 ·have:=lC (λb:bO=>b.qs.length) e
  unfold kL at h
  omega
 ·have:=lC (λc:List (Int×Int)=>c.length) f
  unfold jR at h
  omega
abbrev yx(ys:Ys)(ex:List Ν):Ys:={ys with ex:=ex}
def za(x:V):Prop:=(∃i,x=.int i)∨∃t,x=.str t/\ý.strOk t=Δ
structure Yc(a:YA)(s:YS):Prop where
 δ:s.δ.length=a.ps.length
 ι:s.ι.length=a.n
 q0:∀(k:Nat)(ln:bO),s.δ[k]?=Β ln->ln.qs=[]
 l0:∀(p:Nat)(qs:List (Int×Int)),s.ι[p]?=Β qs->qs=[]
 lets:∀(m:Nat)(t:bE),s.U[m]?=Β t->t.ε=0/\t.Α=[]/\0<=t.len/\t.len<=60/\∃x y:Nat,t.start=(x:Int)/\t.μ=(y:Int)/\x<a.n/\y<a.n
 done:∀d∈s.done,∀x∈d,za x
theorem uJ{a:Type}(f:a->Nat):∀{L:List a},(∀(k:Nat)(x:a),L[k]?=Β x->f x=0)->(L.map f).sum=0
 |[],_=>rfl
 | x:: L,h=>by
  have c:=h 0 x Λ
  have d:=uJ f (L:=L) λk y b=>h (k+1) y b
  simp only[Ç,đ];omega
theorem Bn{a:Type}(f:a->Int):∀{L:List a},(∀(k:Nat)(x:a),L[k]?=Β x->f x=0)->(L.map f).sum=0
 |[],_=>rfl
 | x:: L,h=>by
  have c:=h 0 x Λ
  have d:=Bn f (L:=L) λk y b=>h (k+1) y b
  simp only[Ç,đ];omega
theorem Yc.Ve(h:Yc a s)(E4:s.U.length<=60)(x:a.ps.length<=40):EG a s:=by
 refine⟨h.δ,h.ι,E4,x,λm t b=>(h.lets m t b).2.2.2.2,λm t b=>?_,λk c d q r=>?_,λm t b=>?_,λm t b _=>(h.lets m t b).2.1,λm t b i l e=>?_,λm t b l c f=>?_,λk c d i j z q e=>?_,λk c d m t u=>?_,?_⟩
 ·rw[(h.lets m t b).2.1];exact⟨(λl f=>by cases f),ä⟩
 ·rw[h.q0 k c d]at r;cases r
 ·obtain⟨g,v,o,y,_⟩:=h.lets m t b
  rw[g];exact⟨by omega,o,y⟩
 ·rw[(h.lets m t b).2.1]at e;cases e
 ·rw[(h.lets m t b).2.1]at f;cases f
 ·rw[h.q0 k c d]at e;cases e
 ·rw[h.q0 k c d]at u;cases u
 ·have g:kL s=0:=uJ _ λk c d=>by rw[h.q0 k c d];rfl
  have v:jR s=0:=uJ _ λp A B=>by rw[h.l0 p A B];rfl
  have o:gQ s=0:=Bn _ λm t b=>(h.lets m t b).1
  rw[g,v,o];rfl
theorem uS(f:a<n)(g:b<n)(c:1<=l/\l<=60)(d:OE (.int u)=Δ)(i:a≠b)(e:wy a b Γ≠[])(j:m<60):oS n wy m (.int a) (.int b) (.int l) (.int u)=.good:=by
 unfold oS
 rw[show mX (.int (a:Int)) 0 ((n:Int) - 1)=Δ from Ζ (by omega),show mX (.int (b:Int)) 0 ((n:Int) - 1)=Δ from Ζ (by omega),show mX (.int l) 1 60=Δ from Ζ c,d,Θ (by decide),Θ (by decide),Θ (by decide)]
 rw[Θ (by
  rintro (h|h)
  ·have h:(a:Int)=(b:Int):=h
   omega
  ·have h:wy ((a:Int)).toNat ((b:Int)).toNat Γ=[]:=h
   rw[ϋ,ϋ]at h
   exact e h),Θ (by omega)]
theorem iF(s:DP H H1)(o:Ee ex H1 H2)(a:∀b∈ex,H b=Γ):DP H H2:=λb u e=>o b _ (λz=>by rw[a b z]at e;cases e) (s b u e)
theorem qQ(a:List Int)(i j:Nat):∃b:List Int,gB (a.map V.int) (Β (i:Int)) (Β (j:Int))=b.map V.int/\b.length<=j - i:=by
 refine⟨(a.drop (min i a.length)).take (min j a.length - min i a.length),?_,?_⟩
 ·unfold gB
  rw[show HT.G6 (a.map V.int).length 0 (Β (i:Int))=min i (a.map V.int).length from HT.Fy _ _ i,show HT.G6 (a.map V.int).length (a.map V.int).length (Β (j:Int))=min j (a.map V.int).length from HT.Fy _ _ j,Ο,UA,UD]
 ·rw[ć,Ĉ];omega
theorem EG.done(J:EG a s)(d:List (List V)):EG a {s with done:=d}:=⟨J.δ,J.ι,J.E4,J.Ig,J.lets,J.EH,J.Fc,J.FN,J.EM,J.last,J.head,J.first,J.Ih,J.sum⟩
theorem Yf(h:Ei.length=a.ps.length):Yc a (Y0 Ei a.n):=by
 refine⟨by show(Ei.map tY).length=_;rw[Ο];exact h,by show(Ϫ a.n []).length=_;rw[é],λk i b=>?_,λp j c=>?_,λm t e=>?_,λd f=>?_⟩
 ·have b:(Ei.map tY)[k]?=Β i:=b
  rw[ϝ]at b
  cases g:Ei[k]? with
  |none=>rw[g]at b;cases b
  |some v=>rw[g]at b;cases b;rfl
 ·have c:=c
  exact Ġ (Ϗ c)
 ·have e:=e
  cases e
 ·have f:=f
  cases f
theorem jX(a:List Mv):GF (.list (a.map tU)) 64:=(iC (m:=1) λz b=>by
 obtain⟨m,_,rfl⟩:=Õ.mp b
 exact ig m).le (by decide)
theorem LD:GF (.list []) 64:=(iC (m:=0) λz a=>by cases a).le (by decide)
theorem AK{a:Type}(f:a->ý)(l:List a):ę (.list (l.map f)) (.list [])=l.isEmpty:=by
 cases l<;>simp[ę,ý.eqvAll]
theorem neN{a:Type}{f:a->ý}{l:List a}(b:m8 K H x (.list (l.map f)))(c:m8 K H y (.list []))(s:GF (.list (l.map f)) 64)(q:Q (.bl (!l.isEmpty)) H):Cr K x y H Q:=
 ⟨_,_,b,c,s.shaped (Ξ _),LD.shaped (Ξ _),by rw[AK];exact q⟩
theorem ES.rooms(h:ES a s m s'):s'.rooms=s.rooms:=by cases h<;>rfl
theorem ES.len(h:ES a s m s'):s'.U.length=s.U.length:=by
 cases h with
 | @Fm k l t ln ht hg hl Ej ho =>
  show(if t.ε=0 then (cN s k t).U.set k _ else (cN s k t).U).length=_
  have:(cN s k t).U.length=s.U.length:=Ċ ..
  split
  ·rw[Ċ];exact this
  ·exact this
 | @on k l m c lk ln t hk hq ht hl Ej ho =>
  show(if c=0 then s.U.set m _ else s.U).length=_
  split
  ·exact Ċ ..
  ·rfl
 |Fn=>rfl
 |back=>rfl
theorem RH(m:Mv):∀x∈dA m,za x:=by
 cases m<;>intro x a<;>simp only[dA,Ϯ,É,or_false]at a
 ·rcases a with rfl|rfl|rfl<;>first|exact ύ ⟨_,Λ⟩|exact ġ ⟨_,Λ,by decide +kernel⟩
 ·rcases a with rfl|rfl|rfl<;>first|exact ύ ⟨_,Λ⟩|exact ġ ⟨_,Λ,by decide +kernel⟩
 ·rcases a with rfl|rfl<;>first|exact ύ ⟨_,Λ⟩|exact ġ ⟨_,Λ,by decide +kernel⟩
 ·rcases a with rfl|rfl<;>first|exact ύ ⟨_,Λ⟩|exact ġ ⟨_,Λ,by decide +kernel⟩
theorem EG.post(J:EG a s)(B:x<a.n)(C:y<a.n)(f:0<=l/\l<=60)(N:s.U.length<60):EG a (eE s x y l u):=by
 have c:∀(m:Nat)(t:bE),(eE s x y l u).U[m]?=Β t->s.U[m]?=Β t∨(m=s.U.length/\t=⟨x,y,l,u,0,[]⟩):=λm t b=>by
  have b:(s.U++[(⟨(x:Int),(y:Int),l,u,0,[]⟩:bE)])[m]?=Β t:=b
  by_cases g:m<s.U.length
  ·rw[Ϙ g]at b;exact .inl b
  ·have D:=(gQ0 b)
   rw[Υ,ϙ]at D
   have E:m=s.U.length:=by omega
   subst E
   rw[È]at b
   cases b
   exact .inr ⟨Λ,Λ⟩
 have F:∀(m:Nat)(t:bE),s.U[m]?=Β t->(eE s x y l u).U[m]?=Β t:=λm t b=>by
  show(s.U++[(⟨(x:Int),(y:Int),l,u,0,[]⟩:bE)])[m]?=Β t
  rw[Ϙ (gQ0 b)];exact b
 refine⟨J.δ,J.ι,?_,J.Ig,λm t b=>?_,λm t b=>?_,λk d j q G=>?_,λm t b=>?_,λm t b H=>?_,λm t b i p v I=>?_,λm t b p d z L=>?_,J.first,λk d j m t g b=>?_,?_⟩
 ·show(s.U++[_]).length<=60
  rw[Υ,ϙ];omega
 ·rcases c m t b with h|⟨_,rfl⟩
  ·exact J.lets m t h
  ·exact⟨x,y,Λ,Λ,B,C⟩
 ·rcases c m t b with h|⟨_,rfl⟩
  ·exact J.EH m t h
  ·exact⟨(λl f=>by cases f),ä⟩
 ·obtain⟨m,t,e,b,M⟩:=J.Fc k d j q G
  exact⟨m,t,e,F m t b,M⟩
 ·rcases c m t b with h|⟨_,rfl⟩
  ·exact J.FN m t h
  ·exact⟨Œ _,f.1,f.2⟩
 ·rcases c m t b with h|⟨_,rfl⟩
  ·exact J.EM m t h H
  ·rfl
 ·rcases c m t b with h|⟨_,rfl⟩
  ·exact J.last m t h i p v I
  ·cases v
 ·rcases c m t b with h|⟨_,rfl⟩
  ·exact J.head m t h p d z L
  ·cases z
 ·obtain⟨A,O,o,r,_⟩:=J.Fc k d j _ g
  have o:=o
  have o:m=A:=by omega
  subst o
  rcases c m t b with h|⟨e,_⟩
  ·exact J.Ih k d j m t g h
  ·rw[e]at r
   rw[Í (Ξ _)]at r
   cases r
 ·have h:=J.sum
  have e:gQ (eE s x y l u)=gQ s:=by
   show((s.U++[(⟨(x:Int),(y:Int),l,u,0,[]⟩:bE)]).map _).sum=_
   rw[ϯ,List.sum_append]
   simp[gQ]
  rw[e];exact h
theorem E8.OP(h:E8 K (yx ys e) H a s)(o:DP H H')(j:∀b∈e',b∈e∨(H b=Γ/\∃d,H' b=Β (.ρ d))):E8 K (yx ys e') H' a s:=by
 have l:∀p:Ν,(∃u,H p=Β u)->p∉a.la:: a.le:: a.li:: a.dn:: e->p∉a.la:: a.le:: a.li:: a.dn:: e':=λp ⟨u,m⟩ f z=>by
  have B:∀q:List Ν,a.la:: a.le:: a.li:: a.dn:: q=[a.la,a.le,a.li,a.dn]++q:=λ_=>rfl
  rw[B]at z f
  rcases Ϣ.mp z with z|z
  ·exact f (Ä _ z)
  ·rcases j p z with z|⟨z,_⟩
   ·exact f (Ϩ _ z)
   ·rw[z]at m;cases m
 obtain⟨C,D,E⟩:=h.χ
 obtain⟨F,G,I⟩:=h.ω
 have c:=Ec.same h o
 refine⟨c.ς,c.Mq,⟨C,o _ _ D,Paired.mono (λv Q z=>?_) E⟩,⟨F,o _ _ G,Paired.mono (λv t z=>?_) I⟩,c.FQ,c.Fw,c.ne,λb J=>?_⟩
 ·obtain⟨x,g,r,M,i,L,n⟩:=z
  exact⟨x,g,r,M,i,L.same o,l r ⟨_,L.ρ⟩ n⟩
 ·obtain⟨x,g,y,i,N,A,n⟩:=z
  exact⟨x,g,y,i,o _ _ N,o _ _ A,l y ⟨_,A⟩ n⟩
 ·rcases j b J with z|⟨_,z⟩
  ·obtain⟨d,O⟩:=h.hex b z
   exact⟨d,o _ _ O⟩
  ·exact z
theorem E8.RJ(h:E8 K ys H a s)(o:Ee e H H')(i:∀b∈e,b∈ys.ex)(c:∀b∈a.four,b∉e)(j:∀b∈e,∃d,H' b=Β (.ρ d)):E8 K ys H' a s:=by
 have l:Ee (a.la:: a.le:: a.li:: a.dn:: ys.ex) H H':=o.mono λb f=>by simp[i b f]
 obtain⟨m,p,q,r,t,u⟩:=Ec.off h l
 obtain⟨v,x,y⟩:=h.χ
 obtain⟨z,A,B⟩:=h.ω
 obtain⟨C,D,E⟩:=h.FQ
 obtain⟨F,G,I⟩:=h.Fw
 refine⟨m,p,⟨v,o _ _ (c _ (by simp)) x,q _ _ y⟩,⟨z,o _ _ (c _ (by simp)) A,r _ _ B⟩,⟨C,o _ _ (c _ (by simp)) D,t _ _ E⟩,⟨F,o _ _ (c _ (by simp)) G,u _ _ I⟩,h.ne,λb f=>?_⟩
 by_cases g:b∈e
 ·exact j b g
 ·obtain⟨d,J⟩:=h.hex b f
  exact⟨d,o _ _ g J⟩
theorem xU{a:List Int}(b:a.length=m)(c:∀r∈a,1<=r/\r<=60):l5 m (a.map V.int)=Δ:=by
 unfold l5
 rw[Ο,b,Ζ Λ,Ě,ĭ]
 intro v d
 obtain⟨r,e,rfl⟩:=Õ.mp d
 exact Ζ (c r e)
def YdP(K:ϣ)(c:Cs)(TC:Ν)(J:TJ)(ys:Ys)(ex:List Ν)(H:Hp)(tb:Ν)(ps:List (Int×Int))(n:Nat)(wy:Wf)(rs:List Int):VK:=λv H'=>∃a:YA,v=.ref a.y/\a.tb=tb/\a.ps=ps/\a.n=n/\a.wy=wy/\DP H H'/\(∀z∈a.four,H z=Γ)/\Ic K c TC J (yx ys ex) H' a (Y0 (rs.map V.int) n)/\EG a (Y0 (rs.map V.int) n)
theorem zc{P:Program}{w:Ϭ}(W:Wy K TC fw dw J)
  (u:EL c TC J H tb lx Eh lt n DX ps wy) (F:∀p g k,(wy p g k).length<=400) (G:∀p∈ps,jx n p=Δ) (I:DS K H ra (rs.map V.int)) (x:rs.length=ps.length) (L:∀r∈rs,1<=r/\r<=60) (hp:ps.length<=40) (s:∀b∈ex,∃xs,H b=Β (.ρ xs)):
  ∀y d,H y=Γ->H d=Γ->d≠y->kN K c TC J (yx ys ex) [.ref y,.ref tb,.ref ra] (π (π H d (.own y)) y (.ς ys.DR d [])) (λv M=>v=.Eg/\YdP K c TC J ys ex H tb ps n wy rs (.ref y) M) E:=by
 intro y d A N O
 have f:DP H (π (π H d (.own y)) y (.ς ys.DR d [])):=DP.new (DP.new (DP.refl H) N) (by rw[af (ϛ O)];exact A)
 have Q:=xU x L
 refine⟨y,d,tb,lx,Eh,lt,n,DX,ps,wy,_,rs.map V.int,Λ,ac,u.keep W (DP.Ed f),(λb R=>let ⟨xs,i⟩:=s b R;⟨xs,f _ _ i⟩),.inr ⟨ra,Λ,.inl (f.seq I),by rw[Ο];omega,(λv S=>by obtain⟨r,_,rfl⟩:=Õ.mp S;exact .int r),λh=>by rw[Q]at h;cases h⟩,λ_ q j le m dn T U X Y Z OI hY=>⟨Λ,?_⟩⟩
 have B:=λb o e=>U b o (λz=>by rw[Φ.mp z,A]at e;cases e) (f _ _ e)
 have hO:sT ⟨y,d,tb,q,j,le,m,dn,lx,Eh,lt,n,DX,ps,wy⟩:=by
  refine⟨λl t hl=>?_,F⟩
  have C:=G t (Ϗ hl)
  unfold jx at C
  simp only[Ö,decide_eq_true_eq,Ĩ,decide_eq_false_iff_not]at C
  exact⟨t.2.toNat,by omega,by show t.2.toNat<n;omega⟩
 have D:EG ⟨y,d,tb,q,j,le,m,dn,lx,Eh,lt,n,DX,ps,wy⟩ (Y0 (rs.map V.int) n):=(Yf (a:=⟨y,d,tb,q,j,le,m,dn,lx,Eh,lt,n,DX,ps,wy⟩) (by rw[Ο];exact x)).Ve (Ϧ _) (by show ps.length<=40;omega)
 refine⟨⟨y,d,tb,q,j,le,m,dn,lx,Eh,lt,n,DX,ps,wy⟩,Λ,Λ,Λ,Λ,Λ,B,λz i=>?_,⟨hY,u.keep W (DP.Ed B),hO,D.ok⟩,D⟩
 have i:=i
 simp only[Ϯ,É,or_false]at i
 rcases i with rfl|rfl|rfl|rfl
 ·exact f.free X
 ·exact f.free Y
 ·exact f.free Z
 ·exact f.free OI
noncomputable def vy(s:YS):Bool:=decide ((s.U.map (·.len)).sum=(s.ι.map λq=>(q.length:Int)).sum)
noncomputable def Yi(s:Ã):Scope:=match s with
 |.Return (Β (.Compare (.Call _ [.ListComp _ _ sc _] _ _) _ _ _)) _=>sc
 |_=>zQ0
noncomputable def Yj(s:Ã):Scope:=match s with
 |.Return (Β (.Compare _ _ [.Call _ [.ListComp _ _ sc _] _ _] _)) _=>sc
 |_=>zQ0
inductive o0(K:ϣ)(ys:Ys)(vs:List V)(H:Hp)(Q:VK)(E:XK):Prop
 |mk (y dy tb ro la le li dn:Ν) (s:YS) (_:vs=[.ref y]) (_:Ec K ys H y dy tb ro la le li dn s) (_:s.U.length<=900) (_:s.ι.length<=900) (_:∀H',DP H H'->Q (.bl (vy s)) H')
theorem Yk:ar ["self"] ["self"] (aj im):=L2.Ez
theorem Yl:EV ["self"] (aj im) (Yi ((aJ im).getD 0 (.Pass ⟨0,0,0,0⟩))) [] []:=L2.FH
theorem Ym:EV ["self"] (aj im) (Yj ((aJ im).getD 0 (.Pass ⟨0,0,0,0⟩))) [] []:=L2.FH
theorem Yn:(["letter"]:List Str).Nodup:=by decide +kernel
theorem Yo:(["pieces"]:List Str).Nodup:=by decide +kernel
theorem xQ(F:Et K "ended" "Yard.ended" im f fd)(T:eK mg)(Y:jo K ys):DQ P w K mg ν aB 1 f fd ["self"] (o0 K ys):=by
 refine F.ok Yk λ_ _ _ s H _ Q E hr h=>?_
 obtain⟨y,g,tb,ro,la,le,v,dn,a,rfl,b,h9,z,q⟩:=h
 refine⟨_,ah (au (bY bT (ay (qX Λ) Λ T.sum hH (aa (b5 (own:=["letter"]) (capN:=[]) (cap:=[]) Yl Λ (aV (ap (pv 0) Λ)) (λC A B G=>⟨ax (i:=0) Yn Λ (ύ Λ),bX,(show PE _ _ (kJ K (jQ 0) "length") from ap (pv 0) Λ)⟩)) ad))
  (ay (qX Λ) Λ T.sum hH (aa (b5 (own:=["pieces"]) (capN:=[]) (cap:=[]) Ym Λ (aV (ap (pv 0) Λ)) (λC A B G=>⟨ax (i:=0) Yo Λ (ύ Λ),bX,ay (show du _ (.builtin "len") (X7 K) from aw) Λ T.len PySem.boot_len (aa (pv 0) ad)⟩)) ad)) (aA _))),?_⟩
 obtain⟨I,j,pl⟩:=b.ω
 have J:=Paired.length pl
 refine⟨y,ys.DR,g,_,_,Λ,b.ς,Y.cl,Y.n4,Λ,le,Λ,⟨_,DS.of j⟩,?_⟩
 refine nP (λi =>.int (a.U.getD i ⟨0,0,0,0,0,[]⟩).len) (by rw[ϗ];omega) (DS.of j) (λi x N c h=>?_) (λD L=>?_)
 ·obtain⟨lt,M,O,R,wa,rfl,S,_⟩:=Paired.at pl c
  rw[Ω,M]at h
  exact⟨O,ys.DU,R,_,_,Λ,S,Y.ct,Y.t3,Λ,h⟩
 have X:(ό I.length).map (λi=>V.int (a.U.getD i ⟨0,0,0,0,0,[]⟩).len)=(a.U.map (·.len)).map V.int:=by
  rw[J,ê]
  exact lg a.U _ λs=>V.int s.len
 rw[X]
 have d:=(DP.refl H).new (o:=.ρ ((a.U.map (·.len)).map V.int)) L
 have l:(π H D (.ρ ((a.U.map (·.len)).map V.int))) D=Β (.ρ ((a.U.map (·.len)).map V.int)):=ac
 generalize π H D (.ρ ((a.U.map (·.len)).map V.int))=H1 at d l⊢
 refine⟨D,_,Λ,DS.of l,?_⟩
 have m:=b.same d
 obtain⟨Z,p,r⟩:=m.FQ
 have e:=Paired.length r
 refine⟨y,ys.DR,g,_,_,Λ,m.ς,Y.cl,Y.n5,Λ,v,Λ,⟨_,DS.of p⟩,?_⟩
 refine nP (λi =>.int ((a.ι.getD i []).length:Nat)) (by rw[ϗ];omega) (DS.of p) (λi x N c h=>?_) (λD2 FP=>?_)
 ·obtain⟨qs,FJ,t,u,rfl,ht,hL⟩:=Paired.at r c
  rw[Ω,FJ]at h
  have Kt:=Paired.length hL
  refine⟨t,u,Λ,.inr (DY.of ht),?_⟩
  rw[Kt]
  exact h
 have e2:(ό Z.length).map (λi=>V.int ((a.ι.getD i []).length:Nat))=(a.ι.map λq=>(q.length:Int)).map V.int:=by
  rw[e,ê]
  exact lg a.ι _ λq=>V.int (q.length:Nat)
 rw[e2]
 refine⟨D2,_,Λ,DS.of ac,Λ,?_⟩
 rw[bZ]
 exact q _ (d.new FP)
noncomputable def Yp:Option Nat->Nat
 |none=>0
 |some k=>k+1
theorem nG(h:fQ n ps r=Δ):∀k∈r.s,k<ps.length:=by
 unfold fQ at h
 simp only[Ö,ĭ,decide_eq_true_eq]at h
 intro k a
 exact Ë.mp (Å.mp (h.2.2 k a)).1
noncomputable def dS(rs:List Rw)(k:cC):Nat:=match dJ rs k with
 |some r=>Yd.Fj r.s 0
 |none=>0
theorem iZ(h:dJ rs k=Β r):r∈rs:=GZ.mp (vr h)
noncomputable def Bi(rs:List Rw):Wf:=λp g k=>mN (dS rs (bB ⟨(p:Int),(g:Int),k,[]⟩))
def Ef(P:Program)(w:Ϭ)(ts:Ts):TJ:=λH x n wy=>∃(dx de:Ν)(lv:V)(kvs:List Ent)(rs:List Rw),H x=Β (.ς ts.told dx [("land",lv),("entries",.ref de)])/\EE P w H de kvs/\(∀k,dM kvs k=(dJ rs k).map uL)/\(∀r∈rs,∀k∈r.s,k<40)/\wy=Bi rs
theorem Ef.keep(h:Ef P w ts H x n wy)(k:E5 H H'):Ef P w ts H' x n wy:=by
 obtain⟨b,c,d,a,e,f,⟨g,i⟩,j⟩:=h
 exact⟨b,c,d,a,e,k _ _ f À,⟨k _ _ g À,λy l=>k _ _ (i y l) À⟩,j⟩
theorem Da(h:z∈mN (Yd.Fj ks 0)):z∈ks:=by
 have:=(Å.mp h).2
 have a:=this
 rw[uI,decide_eq_true_eq]at a
 obtain⟨n,b,e⟩:=Fb.mp a
 have:n=z:=by omega
 exact this▸b
theorem yj(m:Nat):(mN m).Nodup:=QN.filter _
theorem vK(h:∀r∈rs,∀k∈r.s,k<n)(p g:Nat)(k:Option Nat):(∀z∈Bi rs p g k,z<n)/\(Bi rs p g k).length<=n:=by
 have c:∀z∈Bi rs p g k,z<n:=λz a=>by
  unfold Bi dS at a
  cases b:dJ rs (bB ⟨(p:Int),(g:Int),k,[]⟩) with
  |none=>rw[b]at a;exact Κ a (by show z∉mN 0;intro h;cases h)
  |some r=>rw[b]at a;exact h r (iZ b) z (Da a)
 exact⟨c,gK n _ (yj _) c⟩
theorem rC(G:DQ P w K mg ν aB 3 f fd ["self","place","goal","came"] (ou P w ts)):DQ P w K mg ν aB 3 f fd ["self","place","goal","came"] (iA (Ef P w ts)):=
 G.imp λy H Q E h=>by
 obtain⟨x,n,wy,p,g,k,e,⟨i,j,l,a,b,m,o,s,t,u⟩,z,A,q⟩:=h
 exact⟨x,i,j,l,a,⟨(p:Int),(g:Int),k,[]⟩,dS b (bB ⟨(p:Int),(g:Int),k,[]⟩),e,m,o,by
  rw[s]
  unfold dS
  cases dJ b (bB ⟨(p:Int),(g:Int),k,[]⟩)<;>rfl,by
  unfold dS
  cases v:dJ b (bB ⟨(p:Int),(g:Int),k,[]⟩) with
  |none=>exact Q1 _
  |some r=>exact Ϥ (wK (t r (iZ v))) (Ľ (by decide) (by decide)),λB D c d=>q D _ (c.new d) (c.free d) (by rw[ac,u];rfl)⟩
theorem AU(e:ps.length<Χ)
  (f:∀(i:Nat)(acc:List V)(N:List V->Hp->Prop)(a:Int×Int),ps[i]?=Β a->N (if decide (sel a=pl)=Δ then acc++[V.int i] else acc) H->g (.int i) σ0 H λc j=>tt c j λb d=>if b=Δ then te c d λy l=>N (acc++[y]) l else N acc d)
  (m:∀D,H D=Γ->Q (.ref D) (π H D (.ρ (ci (i6 sel ps pl))))):e9 (Bh 0 ps.length) g tt te σ0 Q H:=by
 refine jd (lo:=0) (λk=>decide (sel (ps.getD k (0,0))=pl)) (λk=>V.int k) e (λi acc N o h=>?_) m
 obtain⟨a,IF⟩:∃a,ps[i]?=Β a:=⟨ps[i],Μ o⟩
 have p:ps.getD i (0,0)=a:=by rw[Ω,IF];rfl
 rw[ĥ]
 rw[p]at h
 exact f i acc N a IF h
theorem Yq(m k:Nat):decide (V.int (ù ((m:Int) / 2^(k:Int).toNat) 1)=V.int 1)=m.testBit k:=by
 rw[j7,ϋ,←Yd.IX m k]
theorem nO(q:Nat->Bool)(f:xs.length<Χ)(i:DS K H a (ci xs))
  (j:∀(k:Nat)(acc:List V)(N:List V->Hp->Prop),k∈xs->N (if q k then acc++[V.int (k:Int)] else acc) H->g (.int (k:Int)) σ0 H λc l=>tt c l λb d=>if b=Δ then te c d λy m=>N (acc++[y]) m else N acc d)
  (o:∀D,H D=Γ->Q (.ref D) (π H D (.ρ (ci (xs.filter q))))):e9 (yY K a) g tt te σ0 Q H:=by
 refine je (xs:=ci xs) (λv=>match v with|.int k=>q k.toNat|_=>Ε) (λv=>v) (by unfold ci;rw[Ο];exact f) i (λx acc N p h=>?_) λD r=>?_
 ·obtain⟨k,s,rfl⟩:=Õ.mp p
  exact j k acc N s h
 ·have e:((ci xs).filter (λv=>match v with|.int k=>q k.toNat|_=>Ε)).map (λv=>v)=ci (xs.filter q):=by
   unfold ci
   rw[List.map_id'',S8]
   ·congr 1
   ·intro _;rfl
  rw[e]
  exact o D r
theorem yB{n:Nat}(a:1<=n)(b:n<=12)(c:ps.length<=40)(h:∀p∈ps,jx n p=Δ):gA n ps=.good:=by
 unfold gA
 rw[Ζ (show (1:Int)<=(n:Int)/\(n:Int)<=12 by omega),Θ (by decide),Θ (by omega),lX h]
noncomputable def yM(s:Ã):Scope:=match s with
 |.Assign _ (.ListComp _ _ sc _) _=>sc
 |_=>zQ0
noncomputable def xY(b:List Ã)(i:Nat):Ã:=b.getD i (.Pass ⟨0,0,0,0⟩)
noncomputable def sH(s:Ã):List Ã:=match s with
 |.For _ _ b _ _=>b
 |_=>[]
theorem lY(h:H D=Γ)(i:DP H H2)(j:H2 D=Β (.ρ Eb))(l:Eu H2 Eb ps)(m:H2 t1=Γ):
  (π H2 t1 (.tup [.int x,.int y])) D=Β (.ρ Eb)/\DP H (π (π H2 t1 (.tup [.int x,.int y])) D (.ρ (Eb++[.ref t1])))/\Eu (π (π H2 t1 (.tup [.int x,.int y])) D (.ρ (Eb++[.ref t1]))) (Eb++[.ref t1]) (ps++[(x,y)]):=by
 have c:=(DP.refl H2).new (o:=.tup [.int x,.int y]) m
 have d:(π H2 t1 (.tup [.int x,.int y])) t1=Β (.tup [.int x,.int y]):=ac
 generalize π H2 t1 (.tup [.int x,.int y])=f at c d⊢
 have a:=c _ _ j
 have g:E5 f (π f D (.ρ (Eb++[.ref t1]))):=iX a
 exact⟨a,λb o e=>by rw[af (ag e h)];exact c _ _ (i _ _ e),Eu.snoc (p:=(x,y)) ⟨t1,Λ,g _ _ d À⟩ (g.JK (Eu.same c l))⟩
theorem xV(b:0<=x)(c:x<n)(d:0<=y)(e:y<n)(a:x≠y):jx n (x,y)=Δ:=by
 unfold jx
 simp only[Ö,decide_eq_true_eq,Ĩ,decide_eq_false_iff_not]
 exact⟨⟨by omega,by omega⟩,⟨by omega,by omega⟩,a⟩
theorem oK{n x o:Int}(b:0<=x)(c:x<n)(d:0<=o)(e:o<n - 1):0<=(x+1+o)% n/\(x+1+o)% n<n/\x≠(x+1+o)% n:=by
 have a:0<n:=by omega
 refine⟨æ _ (by omega),á _ a,λz=>?_⟩
 rcases Int.lt_or_le (x+1+o) n with h|h
 ·rw[PV (by omega) h]at z;omega
 ·rw[show x+1+o=(x+1+o - n)+n by omega,Int.add_emod_right,PV (by omega) (by omega)]at z;omega
theorem qR(us:List Nat)(h:i<=us.length):gB (nV us) (Β (i:Int)) Γ=nV (us.drop i):=by
 unfold gB
 rw[HT.Fy,HT.Kc,aU,GK h,İ (by rw[Ĉ,aU];exact Ξ _)]
 unfold nV
 rw[UD]
noncomputable def pI(q:Nat×Nat):Int×Int:=((q.1:Int),(q.2:Int))
end K69
namespace L2
open PySem PySem.Spec PyProof.Rows
section
variable {X:Cx}{a:Expr}{ta:TE}{pos:Pos}
inductive Uba(K:ϣ)(Q:VK)(x:V)(H1:Hp):Prop
 |mk (k)(_:DH K x H1 k)(_:Q (.bl (!k)) H1)
def RM(K:ϣ)(ta:TE):TE:=λσ H Q=>ta σ H λx H1=>Uba K Q x H1
theorem tL(j:PE X a ta):PE X (.UnaryOp .Not a pos) (RM X.K ta):=by
 intro c s g H Q I h
 refine UnaryOp_ (bj (j c s g H _ I h) λv l d=>?_)
 obtain⟨x,i,m,o,e⟩:=d
 obtain⟨k,t,e⟩:=e
 refine not_of (bj (vT c l g i x v (λb f=>b=k/\f=i) m o ⟨k,t,Λ,Λ⟩) λb u d=>?_)
 obtain⟨f,p,q,r⟩:=d
 subst q r
 exact⟨.bl (!b),f,p,Λ,e⟩
end
end L2
namespace K69
open PySem L2
variable {P:Program}{w:Ϭ}{K:ϣ}{mg:Str->Option Ρ}{ν:Ù}
noncomputable def aS(a:YA)(s:YS):Bool:=(aF a s).isEmpty&& !vy s
inductive ow(K:ϣ)(c:Cs)(TC:Ν)(J:TJ)(ys:Ys)(vs:List V)(H:Hp)(Q:VK)(E:XK):Prop
 |mk (a:YA) (s:YS) (_:vs=[.ref a.y]) (_:Ic K c TC J ys H a s) (_:∀H',DP H H'->Q (.bl (aS a s)) H')
theorem RN:ar ["yard"] ["yard"] (aj rN):=L2.Ez
theorem xG(F:Et K "still" "still" rN f fd)(Y:jo K ys)(W:Wy K TC fw dw J)
  (o:bW K ys.DR "moves" fm) (p:Binds K dm ["self"] []) (r:DQ P w K mg ν aB 7 fm dm ["self"] (iB K c TC J ys)) (t:bW K ys.DR "ended" fe) (u:Binds K de ["self"] []) (v:DQ P w K mg ν aB 1 fe de ["self"] (o0 K ys)):
  DQ P w K mg ν aB 8 f fd ["yard"] (ow K c TC J ys):=by
 refine F.ok RN λ_ _ _ s H _ Q E i h=>?_
 obtain⟨a,d,rfl,b,q⟩:=h
 have x:DZ 1 _:=i.mono (by decide)
 refine⟨_,ah (au (cP (tL (aQ (pv 0) Y.cl o r i p .nil ao)) (cF (oR (aQ (pv 0) Y.cl t v x u .nil ao))))),?_⟩
 have M:=b.G.E4
 have e:=b.G.ι
 have N:=b.T.JL
 refine⟨a.y,a.dy,_,Λ,b.Y.ς,Λ,a,d,Λ,b,λD j z g O A B=>⟨_,.inl ⟨_,DS.of A,Λ⟩,_,Λ,?_⟩⟩
 have C:j.isEmpty=(aF a d).isEmpty:=by
  have:=Paired.length B
  rw[Ο]at this
  cases j<;>cases h:aF a d<;>first|rfl|(rw[h]at this;cases this)
 unfold aS at q
 rw[C]
 cases l:(aF a d).isEmpty with
 | false =>
  rw[l]at q
  exact aG (q z g)
 | true =>
  rw[l]at q
  have m:=b.same W g
  exact aK ⟨a.y,a.dy,_,Λ,m.Y.ς,Λ,a.y,a.dy,a.tb,a.ro,a.la,a.le,a.li,a.dn,d,Λ,m.Y,by omega,by omega,λI L=>⟨_,Λ,q I (g.trans L)⟩⟩
abbrev YA.twin(a:YA)(y dy ro la le li dn:Ν):YA:={a with y:=y,dy:=dy,ro:=ro,la:=la,le:=le,li:=li,dn:=dn}
noncomputable def xx(m:Nat)(A:Nat->YA)(j:Nat):List Ν:=((ό m).filter λk=>decide (k≠j)).flatMap λk=>(A k).four
noncomputable def Ba(m:Nat)(A:Nat->YA):List Ν:=(ό m).flatMap λk=>(A k).four
theorem F0:z∈xx m A j↔∃k,k<m/\k≠j/\z∈(A k).four:=by
 unfold xx
 rw[Ć]
 constructor
 ·rintro⟨k,d,a⟩
  obtain⟨b,c⟩:=Å.mp d
  exact⟨k,Ë.mp b,of_decide_eq_true c,a⟩
 ·rintro⟨k,b,c,a⟩
  exact⟨k,Å.mpr ⟨Ë.mpr b,Ζ c⟩,a⟩
theorem HU:z∈Ba m A↔∃k,k<m/\z∈(A k).four:=by
 unfold Ba
 rw[Ć]
 constructor
 ·rintro⟨k,b,a⟩
  exact⟨k,Ë.mp b,a⟩
 ·rintro⟨k,c,a⟩
  exact⟨k,Ë.mpr c,a⟩
def Hi(a0 a:YA):Prop:=a=a0.twin a.y a.dy a.ro a.la a.le a.li a.dn
theorem Hi.tat(e:Hi a0 a)(h:Bc c TC J H a0):Bc c TC J H a:=by rw[e];exact h
theorem Hi.tok(e:Hi a0 a)(h:sT a0):sT a:=by rw[e];exact⟨h.ends,h.E4⟩
theorem Hi.ps(e:Hi a0 a):a.ps=a0.ps:=by rw[e]
theorem Hi.wy(e:Hi a0 a):a.wy=a0.wy:=by rw[e]
theorem Hi.n(e:Hi a0 a):a.n=a0.n:=by rw[e]
theorem Hi.twin(e:Hi a0 a)(y b c d le f dn:Ν):Hi a0 (a.twin y b c d le f dn):=by
 unfold Hi
 rw[e]
theorem l8(b:a'.ps=a.ps)(c:a'.wy=a.wy):aF a' s=aF a s:=by
 obtain⟨y,p,q,r,t,le,u,dn,v,x,lt,n,z,ps,wy⟩:=a
 obtain⟨A,d,e,f,g,h,i,dn',j,B,l,C,D,m,o⟩:=a'
 simp only at b c
 subst b c
 rfl
theorem ES.to(j:a'.ps=a.ps)(l:a'.wy=a.wy)(h:ES a s m s'):ES a' s m s':=by
 obtain⟨y,E,F,G,H,le,I,dn,J,L,lt,n,M,ps,wy⟩:=a
 obtain⟨N,o,p,q,r,t,u,dn',v,O,x,Q,R,z,A⟩:=a'
 simp only at j l
 subst j l
 cases h with
 |Fm b d e f g=>exact .Fm b d e f g
 |on c i b e f g=>exact .on c i b e f g
 |Fn c i b d B C=>exact .Fn c i b d B C
 |back c D=>exact .back c D
theorem Hi.Ve(e:Hi a0 a)(h:EG a s):EG a0 s:=by
 rw[e]at h
 exact⟨h.δ,h.ι,h.E4,h.Ig,h.lets,h.EH,h.Fc,h.FN,h.EM,h.last,h.head,h.first,h.Ih,h.sum⟩
theorem Hi.RO(e:Hi a0 a)(h:EG a0 s):EG a s:=by
 rw[e]
 exact⟨h.δ,h.ι,h.E4,h.Ig,h.lets,h.EH,h.Fc,h.FN,h.EM,h.last,h.head,h.first,h.Ih,h.sum⟩
theorem E8.ext(g:H Tb=Β (.ext φ))(h:E8 K ys H a s):E8 K ys (π H Tb u) a s:=by
 have l:∀b xs,H b=Β (.ρ xs)->π H Tb u b=Β (.ρ xs):=λb xs e=>by rw[af (aT e g (by intro z;cases z))];exact e
 have t:∀b xs,H b=Β (.tup xs)->π H Tb u b=Β (.tup xs):=λb xs e=>by rw[af (aT e g (by intro z;cases z))];exact e
 have n:∀b C d fs,H b=Β (.ς C d fs)->π H Tb u b=Β (.ς C d fs):=λb C d fs e=>by rw[af (aT e g (by intro z;cases z))];exact e
 have r:∀{f:List V}{ps:List (Int×Int)},Eu H f ps->Eu (π H Tb u) f ps:=λh=>Eu.imp (λ_ _ y=>by obtain⟨x,e,q⟩:=y;exact⟨x,e,t _ _ q⟩) h
 obtain⟨A,B,D⟩:=h.χ
 obtain⟨E,F,G⟩:=h.ω
 obtain⟨I,J,M⟩:=h.FQ
 obtain⟨N,O,Q⟩:=h.Fw
 refine⟨n _ _ _ _ h.ς,?_,⟨A,l _ _ B,Paired.mono (λv X z=>?_) D⟩,⟨E,l _ _ F,Paired.mono (λv t z=>?_) G⟩,⟨I,l _ _ J,Paired.mono (λv q z=>?_) M⟩,⟨N,l _ _ O,Paired.mono (λv m z=>?_) Q⟩,h.ne,λb R=>let ⟨xs,e⟩:=h.hex b R;⟨xs,l _ _ e⟩⟩
 ·rcases h.Mq with (e|⟨o,e⟩)|e
  ·exact .inl (.inl (t _ _ e))
  ·exact .inl (.inr ⟨o,by rw[af (aT e g (by intro z;cases z))];exact e⟩)
  ·exact .inr e
 ·obtain⟨x,i,S,T,e,L,j⟩:=z
  exact⟨x,i,S,T,e,⟨n _ _ _ _ L.ς,l _ _ L.ρ,r L.Fc⟩,j⟩
 ·obtain⟨x,i,U,e,c,p,j⟩:=z
  exact⟨x,i,U,e,n _ _ _ _ c,l _ _ p,j⟩
 ·obtain⟨x,f,e,c,p⟩:=z
  exact⟨x,f,e,t _ _ c,r p⟩
 ·obtain⟨x,e,c⟩:=z
  exact⟨x,e,t _ _ c⟩
structure EN(K:ϣ)(c:Cs)(TC:Ν)(J:TJ)(ys:Ys)(a0:YA)(X:List Ν)(m:Nat)(H:Hp)(A:Nat->YA)(S:Nat->YS):Prop where
 T:Bc c TC J H a0
 O:sT a0
 Y:∀j,j<m->E8 K (yx ys (xx m A j++X)) H (A j) (S j)
 J:∀j,j<m->EG (A j) (S j)
 E:∀j,j<m->Hi a0 (A j)
 R:∀j,j<m->l5 a0.ps.length (S j).rooms=Δ
 N:∀j,j<m->(S j).done.length<=1000
 dj:∀j k,j<m->k<m->j≠k->∀z∈(A j).four,z∉(A k).four
 nx:∀j,j<m->∀z∈(A j).four,z∉X
noncomputable def mB(S:Nat->YS)(j:Nat)(s:YS):Nat->YS:=λk=>if k=j then s else S k
theorem dE(S:Nat->YS)(j:Nat)(s:YS):mB S j s j=s:=Ι Λ
theorem iE(h:k≠j):mB S j s k=S k:=Θ h
noncomputable def Eo{α:Type}(A:Nat->α)(m:Nat)(a:α):Nat->α:=λk=>if k=m then a else A k
theorem aZ(A:Nat->α)(m:Nat)(a:α):Eo A m a m=a:=Ι Λ
theorem jn{a:α}(h:k<m):Eo A m a k=A k:=Θ (by omega)
section
variable {K:ϣ}{c:Cs}{TC fw:Ν}{dw:Ñ}{J:TJ}{ys:Ys}{a0:YA}{X:List Ν}{m:Nat}{H H':Hp}{A:Nat->YA}{S:Nat->YS}
theorem EN.RP(h:EN K c TC J ys a0 X m H A S)(a:j<m):Ic K c TC J (yx ys (xx m A j++X)) H (A j) (S j):=⟨h.Y j a,(h.E j a).tat h.T,(h.E j a).tok h.O,(h.J j a).ok⟩
theorem EN.same(W:Wy K TC fw dw J)(h:EN K c TC J ys a0 X m H A S)(e:DP H H'):EN K c TC J ys a0 X m H' A S:=⟨EL.keep W h.T (DP.Ed e),h.O,λj a=>Ec.same (h.Y j a) e,h.J,h.E,h.R,h.N,h.dj,h.nx⟩
theorem EN.step(W:Wy K TC fw dw J)(h:EN K c TC J ys a0 X m H A S)(f:j<m)(o:Ee (A j).four H H')(g:E8 K (yx ys (xx m A j++X)) H' (A j) s')(i:EG (A j) s')(l:s'.rooms=(S j).rooms)(p:s'.done.length<=1000):EN K c TC J ys a0 X m H' A (mB S j s'):=by
 have q:=Ee.Ed (λz r=>(h.Y j f).G9 z r) o
 refine⟨EL.keep W h.T q,h.O,λk a=>?_,λk a=>?_,h.E,λk a=>?_,λk a=>?_,h.dj,h.nx⟩
 ·by_cases e:k=j
  ·subst e
   rw[dE]
   exact g
  ·rw[iE e]
   exact E8.RJ (h.Y k a) o (λb d=>Ä _ (F0.mpr ⟨j,f,ϛ e,d⟩)) (λb d s=>h.dj k j a f e b d s) (λb d=>g.G9 b d)
 ·by_cases e:k=j
  ·subst e;rw[dE];exact i
  ·rw[iE e];exact h.J k a
 ·by_cases e:k=j
  ·subst e;rw[dE,l];exact h.R k a
  ·rw[iE e];exact h.R k a
 ·by_cases e:k=j
  ·subst e;rw[dE];exact p
  ·rw[iE e];exact h.N k a
theorem EN.put(W:Wy K TC fw dw J)(h:EN K c TC J ys a0 X m H A S)(d:x∈X)(g:H x=Β (.ρ xs)):EN K c TC J ys a0 X m (π H x (.ρ zs)) A S:=by
 refine⟨EL.keep W h.T (iX g),h.O,λk f=>?_,h.J,h.E,h.R,h.N,h.dj,h.nx⟩
 refine E8.RJ (e:=[x]) (h.Y k f) (λb o i e=>by rw[af (λz=>i (by rw[z];exact Φ.mpr Λ))];exact e) (λb a=>Ϩ _ (by rw[Φ.mp a];exact d)) (λb a j=>h.nx k f b a (by rw[Φ.mp j];exact d)) (λb a=>⟨zs,by rw[Φ.mp a];exact ac⟩)
theorem EN.ext(h:EN K c TC J ys a0 X m H A S)(g:H x=Β (.ext φ))(a:Bc c TC J (π H x u) a0):EN K c TC J ys a0 X m (π H x u) A S:=
 ⟨a,h.O,λk b=>E8.ext g (h.Y k b),h.J,h.E,h.R,h.N,h.dj,h.nx⟩
theorem EN.grow(W:Wy K TC fw dw J)(h:EN K c TC J ys a0 X m H A S)(e:DP H H')(i:H x=Γ)(g:H' x=Β (.ρ xs)):EN K c TC J ys a0 (x:: X) m H' A S:=by
 refine⟨EL.keep W h.T (DP.Ed e),h.O,λk d=>E8.OP (h.Y k d) e λb a=>?_,h.J,h.E,h.R,h.N,h.dj,λk d z j f=>?_⟩
 ·rcases Ϣ.mp a with a|a
  ·exact .inl (Ä _ a)
  ·rcases Ϯ.mp a with rfl|a
   ·exact .inr ⟨i,xs,g⟩
   ·exact .inl (Ϩ _ a)
 ·rcases Ϯ.mp f with rfl|f
  ·obtain⟨o,l⟩:=(h.Y k d).G9 z j
   rw[i]at l;cases l
  ·exact h.nx k d z j f
theorem EN.add(W:Wy K TC fw dw J)(h:EN K c TC J ys a0 X m H A S)(e:DP H H')(C:E8 K (yx ys (Ba m A++X)) H' a s)(L:EG a s)(M:Hi a0 a)(Q:l5 a0.ps.length s.rooms=Δ)(U:s.done.length<=1000)(B:∀z∈a.four,H z=Γ)(Z:∀x∈X,∃o,H x=Β o):EN K c TC J ys a0 X (m+1) H' (Eo A m a) (Eo S m s):=by
 have p:∀{k:Nat},k<m->Eo A m a k=A k:=λd=>jn d
 have y:∀{k:Nat},k<m->Eo S m s k=S k:=λd=>jn d
 have l:∀{k:Nat},k<m+1->k=m∨k<m:=λd=>by omega
 refine⟨EL.keep W h.T (DP.Ed e),h.O,λk d=>?_,λk d=>?_,λk d=>?_,λk d=>?_,λk d=>?_,λj k t d D z f=>?_,λk d z f r=>?_⟩
 ·rcases l d with rfl|d
  ·rw[aZ,aZ]
   refine E8.OP C (DP.refl _) λb g =>.inl ?_
   rcases Ϣ.mp g with g|g
   ·obtain⟨i,u,F,q⟩:=F0.mp g
    rw[p (by omega)]at q
    exact Ä _ (HU.mpr ⟨i,by omega,q⟩)
   ·exact Ϩ _ g
  ·rw[p d,y d]
   refine E8.OP (h.Y k d) e λb g=>?_
   rcases Ϣ.mp g with g|g
   ·obtain⟨i,u,F,q⟩:=F0.mp g
    rcases l u with rfl|u
    ·rw[aZ]at q
     exact .inr ⟨B b q,C.G9 b q⟩
    ·rw[p u]at q
     exact .inl (Ä _ (F0.mpr ⟨i,u,F,q⟩))
   ·exact .inl (Ϩ _ g)
 ·rcases l d with rfl|d
  ·rw[aZ,aZ];exact L
  ·rw[p d,y d];exact h.J k d
 ·rcases l d with rfl|d
  ·rw[aZ];exact M
  ·rw[p d];exact h.E k d
 ·rcases l d with rfl|d
  ·rw[aZ];exact Q
  ·rw[y d];exact h.R k d
 ·rcases l d with rfl|d
  ·rw[aZ];exact U
  ·rw[y d];exact h.N k d
 ·have v:∀{i:Nat},i<m->∀z∈(A i).four,z∉a.four:=λhi z f r=>by
   obtain⟨xs,G⟩:=(h.Y _ hi).G9 z f
   rw[B z r]at G;cases G
  rcases l t with rfl|t
  ·rcases l d with rfl|d
   ·exact Κ Λ D
   ·rw[aZ]at f
    rw[p d]
    exact λr=>v d z r f
  ·rw[p t]at f
   rcases l d with rfl|d
   ·rw[aZ];exact v t z f
   ·rw[p d];exact h.dj j k t d D z f
 ·rcases l d with rfl|d
  ·rw[aZ]at f
   obtain⟨o,I⟩:=Z z r
   rw[B z f]at I;cases I
  ·rw[p d]at f
   exact h.nx k d z f r
theorem EN.one(d:Ic K c TC J (yx ys X) H a s)(f:EG a s)(g:l5 a.ps.length s.rooms=Δ)(h:s.done.length<=1000)(nx:∀z∈a.four,z∉X):EN K c TC J ys a X 1 H (λ_=>a) (λ_=>s):=by
 refine⟨d.T,d.O,λj b=>?_,λj b=>f,λj b=>rfl,λj b=>g,λj b=>h,λj k b o i=>Κ (show j=k by omega) i,λj b=>nx⟩
 have e:xx 1 (λ_=>a) j=[]:=by
  refine List.eq_nil_iff_forall_not_mem.mpr λz l=>?_
  obtain⟨k,p,q,_⟩:=F0.mp l
  omega
 rw[e,ic]
 exact d.Y
end
structure Yt(K:ϣ)(ys:Ys)(H:Hp)(a:YA)(s:YS):Prop where
 Y:E8 K ys H a s
 ok:l5 a.ps.length s.rooms=Δ
 l1:s.δ.length<=900
 l2:s.U.length<=900
 l3:s.ι.length<=900
 l4:s.done.length<=100000
inductive oB(K:ϣ)(c:Cs)(TC:Ν)(J:TJ)(ys:Ys)(vs:List V)(H:Hp)(Q:VK)(E:XK):Prop
 |mk (a:YA) (s:YS) (_:vs=[.ref a.y]) (_:Yt K ys H a s) (_:Bc c TC J H a) (_:∀(y dy ro la le li dn:Ν)(v1 v2 v3:List V)(H':Hp),DP H H'->H y=Γ->H a.la=Β (.ρ v1)->H a.le=Β (.ρ v2)->H a.li=Β (.ρ v3)->H' y=Β (.ς ys.DR dy (rq a.tb ro la le li dn))->DY K H' ro s.rooms->H' la=Β (.ρ v1)->H' le=Β (.ρ v2)->H' li=Β (.ρ v3)->H' dn=Β (.ρ [])->(∀b∈[la,le,li,dn],H b=Γ)->[la,le,li,dn].Nodup->Q (.ref y) H')
inductive rE(K:ϣ)(c:Cs)(TC:Ν)(J:TJ)(ys:Ys)(vs:List V)(H:Hp)(Q:VK)(E:XK):Prop
 |mk (a:YA) (s:YS) (_:vs=[.ref a.y]) (_:Yt K ys H a s) (_:Bc c TC J H a) (_:∀(y dy ro la le li dn:Ν)(H':Hp),DP H H'->(∀b∈[la,le,li,dn],H b=Γ)->E8 K (yx ys (a.four++ys.ex)) H' (a.twin y dy ro la le li dn) s->Q (.ref y) H')
theorem Ap(h:l5 m rs=Δ):rs.length=m/\∀v∈rs,∃r,v=.int r:=by
 unfold l5 at h
 rw[Ö,decide_eq_true_eq,ĭ]at h
 exact⟨h.1,λv a=>iS (h.2 v a)⟩
structure Yu(K:ϣ)(H B B':Hp)(C y dy la:Ν)(fs:Fs)(vs:List V):Prop where
 s:DP H B'
 g:B' y=Β (.ς C dy fs)
 l:B' la=Β (.ρ vs)
 n:H la=Γ
 k:∀b xs,B b=Β (.ρ xs)->B' b=Β (.ρ xs)/\b≠la
 r:∀r xs,DY K B r xs->DY K B' r xs
theorem iM{fs:Fs}(f:Str)(d:DP H B)(g:H y=Γ)(c:B y=Β (.ς C dy fs))(a:B la=Γ):
  Yu K H B (π (π B la (.ρ vs)) y (.ς C dy (aP f (.ref la) fs))) C y dy la (aP f (.ref la) fs) vs:=by
 have u:=(DP.refl B).new (o:=.ρ vs) a
 have i:=ϛ (ag c a)
 refine⟨λb o e=>by rw[af (ag e g)];exact u _ _ (d _ _ e),ac,by rw[af i];exact ac,d.free a,λb xs e=>⟨?_,ag e a⟩,λr xs h=>fE (u _ _ c) (bK u h)⟩
 rw[af (aT e c (by intro z;cases z))];exact u _ _ e
theorem sV(d:E8 K ys H a s)(c:DP H B)
  (E:H a.la=Β (.ρ v1)) (F:H a.le=Β (.ρ v2)) (G:H a.li=Β (.ρ v3))
  (i:B y=Β (.ς ys.DR dy (rq a.tb ro la le li dn))) (r:DY K B ro s.rooms) (I:B la=Β (.ρ v1)) (J:B le=Β (.ρ v2)) (M:B li=Β (.ρ v3)) (N:B dn=Β (.ρ v4)) (O:Paired (EY B) v4 dn')
  (Q:∀b∈[la,le,li,dn],H b=Γ) (R:[la,le,li,dn].Nodup):E8 K (yx ys (a.four++ys.ex)) B (a.twin y dy ro la le li dn) {s with done:=dn'}:=by
 obtain⟨w1,h,S⟩:=d.χ
 obtain⟨w2,j,T⟩:=d.ω
 obtain⟨w3,l,U⟩:=d.FQ
 rw[E]at h;cases h
 rw[F]at j;cases j
 rw[G]at l;cases l
 have m:∀p:Ν,(∃o,H p=Β o)->p∉a.la:: a.le:: a.li:: a.dn:: ys.ex->p∉la:: le:: li:: dn:: (yx ys (a.four++ys.ex)).ex:=λp ⟨o,u⟩ X z=>by
  have e:la:: le:: li:: dn:: (yx ys (a.four++ys.ex)).ex=[la,le,li,dn]++(a.la:: a.le:: a.li:: a.dn:: ys.ex):=rfl
  rw[e]at z
  rcases Ϣ.mp z with z|z
  ·rw[Q p z]at u;cases u
  ·exact X z
 refine⟨i,r,⟨v1,I,Paired.mono (λv ln z=>?_) S⟩,⟨v2,J,Paired.mono (λv t z=>?_) T⟩,⟨v3,M,Paired.mono (λv q z=>z.keep (DP.Ed c)) U⟩,⟨v4,N,O⟩,R,λb Y=>?_⟩
 ·obtain⟨x,f,A,Z,g,L,n⟩:=z
  exact⟨x,f,A,Z,g,L.same c,m A ⟨_,L.ρ⟩ n⟩
 ·obtain⟨x,f,C,g,hx,D,n⟩:=z
  exact⟨x,f,C,g,c _ _ hx,c _ _ D,m C ⟨_,D⟩ n⟩
 ·obtain⟨xs,hz⟩:=Ec.HN d b Y
  exact⟨xs,c _ _ hz⟩
theorem RQ:ar ["self","other"] ["self"] (aj xi):=L2.Ez
theorem An(F:Et K "bare_twin" "Yard.bare_twin" xi f fd)(T:eK mg)(Y:jo K ys)(W:Wy K TC Mr Ms J)
  (my:mg "Yard"=Β (.ref ys.DR)) (My:Mk K ys.DR fy) (OQ:Binds K d ["self","table","rooms"] []) (Gy:DQ P w K mg ν aB 4 fy d ["self","table","rooms"] (kN K c TC J (yx ys []))):
  DQ P w K mg ν aB 6 f fd ["self"] (oB K c TC J ys):=by
 refine F.ok RQ λ_ _ _ s H _ Q E hr h=>?_
 obtain⟨a,U,rfl,X,hT,q⟩:=h
 have Kv:DZ 5 _:=hr.mono (by decide)
 refine⟨_,ae (av (i:=1) RQ.nd Λ (ύ Λ) (eI My Gy Kv Λ my OQ .nil ao (aa (ap (pv 0) Λ) (aa (ap (pv 0) Λ) ad))))
  (ae (bu (pv 1) (aN cf Λ T.list PySem.Pv.boot_list (aa (ap (pv 0) Λ) ad)) Λ)
  (ae (bu (pv 1) (aN cf Λ T.list PySem.Pv.boot_list (aa (ap (pv 0) Λ) ad)) Λ)
  (ae (bu (pv 1) (aN cf Λ T.list PySem.Pv.boot_list (aa (ap (pv 0) Λ) ad)) Λ)
  (ah (au (pv 1)))))),?_⟩
 have m:=X.Y
 obtain⟨HA,Z⟩:=Ap X.ok
 obtain⟨B,g1,p1⟩:=m.χ
 obtain⟨C,g2,p2⟩:=m.ω
 obtain⟨D,g3,p3⟩:=m.FQ
 have Ig:=hT.E4
 refine⟨a.y,ys.DR,a.dy,_,_,Λ,m.ς,Y.cl,Y.n1,Λ,a.y,ys.DR,a.dy,_,_,Λ,m.ς,Y.cl,Y.n2,Λ,λy d A RK RL=>?_⟩
 have G:DP H (π (π H d (.own y)) y (.ς ys.DR d [])):=DP.new (DP.new (DP.refl H) RK) (by rw[af (ϛ RL)];exact A)
 refine⟨y,d,a.tb,a.lx,a.Eh,a.lt,a.n,a.DX,a.ps,a.wy,_,U.rooms,Λ,ac,EL.keep W hT (DP.Ed G),(λb R=>by cases R),.inr ⟨a.ro,Λ,.inr (bK G m.Mq),by omega,(λv hv=>by obtain⟨r,rfl⟩:=Z v hv;exact .int r),λh=>by rw[X.ok]at h;cases h⟩,λ_ x Xy QY I dn L o5 L5 Mw OG OI S=>⟨Λ,?_⟩⟩
 have s5:=λb o e=>o5 b o (λz=>by rw[Φ.mp z,A]at e;cases e) (G _ _ e)
 have X0:=G.free OI
 have g5:=S.ς
 have ro5:=S.Mq
 have dn5:L dn=Β (.ρ []):=by
  obtain⟨vs,gv,pv⟩:=S.Fw
  have e:(Y0 U.rooms a.n).done=[]:=rfl
  rw[e]at pv
  cases pv
  exact gv
 clear S o5 G
 refine⟨a.y,ys.DR,a.dy,_,_,Λ,s5 _ _ m.ς,Y.cl,Y.n3,Λ,a.la,B,Λ,.inl (DS.of (s5 _ _ g1)),λp M=>?_⟩
 have t:=iM (K:=K) (vs:=B) "lanes" s5 A g5 M
 refine⟨y,ys.DR,d,_,Λ,(DP.refl L).new (o:=.ρ B) M _ _ g5,Y.cl,Y.n3,by show 6<1000;decide,?_⟩
 generalize π (π L p (.ρ B)) y (.ς ys.DR d (aP "lanes" (.ref p) (rq a.tb x Xy QY I dn)))=H6 at t⊢
 have g6:H6 y=Β (.ς ys.DR d (rq a.tb x p QY I dn)):=t.g
 refine⟨a.y,ys.DR,a.dy,_,_,Λ,t.s _ _ m.ς,Y.cl,Y.n4,Λ,a.le,C,Λ,.inl (DS.of (t.s _ _ g2)),λle N=>?_⟩
 have j:=iM (K:=K) (vs:=C) "letters" t.s A g6 N
 refine⟨y,ys.DR,d,_,Λ,(DP.refl H6).new (o:=.ρ C) N _ _ g6,Y.cl,Y.n4,by show 6<1000;decide,?_⟩
 generalize π (π H6 le (.ρ C)) y (.ς ys.DR d (aP "letters" (.ref le) (rq a.tb x p QY I dn)))=H7 at j⊢
 have g7:H7 y=Β (.ς ys.DR d (rq a.tb x p le I dn)):=j.g
 refine⟨a.y,ys.DR,a.dy,_,_,Λ,j.s _ _ m.ς,Y.cl,Y.n5,Λ,a.li,D,Λ,.inl (DS.of (j.s _ _ g3)),λO FQ=>?_⟩
 have u:=iM (K:=K) (vs:=D) "lies" j.s A g7 FQ
 refine⟨y,ys.DR,d,_,Λ,(DP.refl H7).new (o:=.ρ D) FQ _ _ g7,Y.cl,Y.n5,by show 6<1000;decide,?_⟩
 generalize π (π H7 O (.ρ D)) y (.ς ys.DR d (aP "lies" (.ref O) (rq a.tb x p le I dn)))=H8 at u⊢
 have g8:=u.g
 obtain⟨d6,nd6⟩:=t.k _ _ dn5
 obtain⟨d7,nd7⟩:=j.k _ _ d6
 obtain⟨d8,nd8⟩:=u.k _ _ d7
 obtain⟨a7,na7⟩:=j.k _ _ t.l
 obtain⟨a8,na8⟩:=u.k _ _ a7
 obtain⟨e8,ne8⟩:=u.k _ _ j.l
 have fr:∀b∈[p,le,O,dn],H b=Γ:=λb R=>by
  simp only[Ϯ,É,or_false]at R
  rcases R with rfl|rfl|rfl|rfl
  ·exact t.n
  ·exact j.n
  ·exact u.n
  ·exact X0
 refine(q y d x p le O dn B C D H8 u.s A g1 g2 g3 g8 (u.r _ _ (j.r _ _ (t.r _ _ ro5))) a8 e8 u.l d8 fr ?_)
 simp only[ë,Ϯ,É,or_false,not_or,not_false_eq_true,and_true,ä]
 exact⟨⟨na7,na8,ϛ nd6⟩,⟨ne8,ϛ nd7⟩,ϛ nd8⟩
theorem RS:ar ["self","other"] ["self"] (aj rL):=L2.Ez
theorem xE(F:Et K "twin" "Yard.twin" rL f fd)(T:eK mg)(Y:jo K ys)(W:Wy K TC Mr Ms J)
  (S:bW K ys.DR "bare_twin" fb) (U:Binds K db ["self"] []) (X:DQ P w K mg ν aB 6 fb db ["self"] (oB K c TC J ys)):
  DQ P w K mg ν aB 7 f fd ["self"] (rE K c TC J ys):=by
 refine F.ok RS λ_ _ _ s H _ Q E Z h=>?_
 obtain⟨a,D,rfl,G,hT,q⟩:=h
 refine⟨_,ae (av (i:=1) RS.nd Λ (ύ Λ) (aQ (pv 0) Y.cl S X Z U .nil ao))
  (ae (bu (pv 1) (aN cf Λ T.list PySem.Pv.boot_list (aa (ap (pv 0) Λ) ad)) Λ)
  (ah (au (pv 1)))),?_⟩
 have e:=G.Y
 obtain⟨j,g4,p4⟩:=e.Fw
 refine⟨a.y,a.dy,_,Λ,e.ς,Λ,a,D,Λ,G,hT,λy p A t le u dn v1 v2 v3 I B ny g1 g2 g3 L r5 a5 e5 i5 d5 C x=>?_⟩
 refine⟨a.y,ys.DR,a.dy,_,_,Λ,B _ _ e.ς,Y.cl,Y.n6,Λ,a.dn,j,Λ,.inl (DS.of (B _ _ g4)),λdn' M=>?_⟩
 have d:=iM (K:=K) (vs:=j) "done" B ny L M
 refine⟨y,ys.DR,p,_,Λ,(DP.refl I).new (o:=.ρ j) M _ _ L,Y.cl,Y.n6,by show 6<1000;decide,?_⟩
 generalize π (π I dn' (.ρ j)) y (.ς ys.DR p (aP "done" (.ref dn') (rq a.tb A t le u dn)))=N at d⊢
 have g6:=d.g
 obtain⟨c1,n1⟩:=d.k _ _ a5
 obtain⟨c2,n2⟩:=d.k _ _ e5
 obtain⟨c3,n3⟩:=d.k _ _ i5
 have O:∀b∈[t,le,u,dn'],H b=Γ:=λb R=>by
  simp only[Ϯ,É,or_false]at R
  rcases R with rfl|rfl|rfl|rfl
  ·exact C _ (by simp)
  ·exact C _ (by simp)
  ·exact C _ (by simp)
  ·exact d.n
 refine(q y p A t le u dn' N d.s O (sV (dn':=D.done) e d.s g1 g2 g3 g6 (d.r _ _ r5) c1 c2 c3 d.l (Paired.mono (λv m z=>EY.keep (DP.Ed d.s) z) p4) O ?_))
 simp only[ë,Ϯ,É,or_false,not_or,not_false_eq_true,and_true,ä]at x⊢
 exact⟨⟨x.1.1,x.1.2.1,n1⟩,⟨x.2.1.1,n2⟩,n3⟩
inductive ww(vs:List V)(H:Hp)(Q:VK)(E:XK):Prop
 |mk (c:Int) (k:Nat) (_:vs=[.int c,.int k]) (_:k<=1000000) (_:∀d:Int,0<=d->d<2147483647->Q (.int d) H)
inductive jW(vs:List V)(H:Hp)(Q:VK)(E:XK):Prop
 |mk (cl:Int) (am:Nat) (bs:Int) (_:vs=[.int cl,.int am,.int bs]) (_:am<=20000) (_:1<=bs) (_:bs<1000000) (_:∀(D:Ν)(ds:List Int)(H':Hp),DP H H'->H D=Γ->H' D=Β (.ρ (ds.map V.int))->ds.length=am->(∀d∈ds,0<=d)->Q (.ref D) H')
inductive tD(K:ϣ)(vs:List V)(H:Hp)(Q:VK)(E:XK):Prop
 |mk (sc:Ν) (ns:List Int) (n:Nat) (_:vs=[.ref sc,.int n]) (_:DS K H sc (ns.map V.int)) (_:2<=n) (_:n<=12) (_:∀(D:Ν)(Eb:List V)(ps:List (Int×Int))(H':Hp),DP H H'->H D=Γ->H' D=Β (.ρ Eb)->Eu H' Eb ps->(∀p∈ps,jx n p=Δ)->2<=ps.length->ps.length<=4->Q (.ref D) H')
theorem Ab(F:Et K "_law_mixed" "_law_mixed" Cf f fd):DQ P w K mg ν aB 1 f fd ["_law_cell","_law_k"] ww:=by
 refine F.ok Mo λ_ _ _ s H _ Q E e h=>?_
 obtain⟨c,k,rfl,g,q⟩:=h
 refine⟨_,ae (av (i:=2) Mo.nd Λ (ύ Λ) (aC bF (aC lw (aC bU (aC bU (aC bF (pv 0) ai) (aC lw ai (pv 1))) ai) ai) ai))
  (ah (au (aC bF (aC lw (pv 2) (aC bU (aC cI (pv 2) ai) ai)) ai))),?_⟩
 have a:(0:Int)<2147483647:=by decide
 refine⟨_,_,Λ,Λ,a,_,_,Λ,Λ,.inl ⟨by decide,by decide⟩,_,_,Λ,Λ,_,_,Λ,Λ,_,_,Λ,Λ,.inr ⟨by decide,by decide⟩,_,_,Λ,Λ,a,?_⟩
 dsimp only
 have b:=æ ((c% 2147483647+7919* (k:Int)+1)* 48271) (show (2147483647:Int)≠0 by decide)
 have d:=á ((c% 2147483647+7919* (k:Int)+1)* 48271) a
 generalize (c% 2147483647+7919* (k:Int)+1)* 48271% 2147483647=m at b d
 refine⟨_,_,Λ,Λ,⟨by decide,by decide⟩,_,_,Λ,Λ,_,_,Λ,Λ,.inl ⟨by omega,by omega⟩,_,_,Λ,Λ,a,?_⟩
 exact q _ (æ _ (by decide)) (á _ a)
abbrev NDr:List Str:=["_law_cell","_law_amount","_law_base","_law_drawn","_law_rest","_law_k","_law_number"]
theorem J5:ar NDr ["_law_cell","_law_amount","_law_base"] (aj rW):=L2.Ez
theorem xR(F:Et K "_law_draws" "_law_draws" rW f fd)(T:eK mg)(L:mg "_law_mixed"=Β (.ref fm))(M:ϳ K (.ref fm)=Δ)(N:Binds K dm ["_law_cell","_law_k"] [])(O:DQ P w K mg ν aB 1 fm dm ["_law_cell","_law_k"] ww):
  DQ P w K mg ν aB 2 f fd ["_law_cell","_law_amount","_law_base"] jW:=by
 refine F.ok J5 λ_ _ _ s H _ Q E R h=>?_
 obtain⟨S,m,bs,rfl,U,X,Y,q⟩:=h
 refine⟨_,ae (av (i:=3) J5.nd Λ (ύ Λ) (aW ad))
  (ae (av (i:=4) J5.nd Λ (ύ Λ) (aC cI (pv 0) ai))
  (ae (bz Ϟ Λ (bL Λ T.range (aa (pv 1) ad)) (ax (i:=5) J5.nd Λ (ύ Λ))
   (ah (aO (az bT (aC bF (pv 0) ai) ai (aA _))
    (ae (aM (c8 plainAttrs_list PySem.F.slot_list_append PySem.F.type_list_append bD (pv 3) (aa (aC bF (pv 4) (pv 2)) ad)))
    (ah (av (i:=4) J5.nd Λ (ύ Λ) (aC cI (pv 4) (pv 2)))))
    (ae (av (i:=6) J5.nd Λ (ύ Λ) (aq O R Λ L M N .nil ao (aa (pv 4) (aa (pv 5) ad))))
    (ah (aM (c8 plainAttrs_list PySem.F.slot_list_append PySem.F.type_list_append bD (pv 3) (aa (aC bF (aC lw (pv 6) (aC bU (aC cI (pv 6) ai) ai)) ai) ad))))))))
  (ah (au (pv 3))))),?_⟩
 refine⟨Ϧ _,λD p=>?_⟩
 have Z:=(DP.refl H).new (o:=.ρ []) p
 refine⟨_,_,Λ,Λ,⟨by decide,by decide⟩,?_⟩
 dsimp only
 refine⟨(m:Int),Λ,by omega,by omega,?_⟩
 rw[ϋ]
 refine cT (n:=m) (λi t c=>∃(u v:Option V)(r:Int)(a:List Int),DP H c/\c D=Β (.ρ (a.map V.int))/\a.length=i/\(∀d∈a,0<=d)/\t=[Β (.int S),Β (.int m),Β (.int bs),Β (.ref D),Β (.int r),u,v])
  ⟨Γ,Γ,_,[],Z,ac,Λ,(λd g=>by cases g),Λ⟩ ?_ ?_
 ·rintro i t c hi ⟨u,v,r,a,y,j,z,A,rfl⟩
  rw[ĥ]
  have more:∀x:Int,0<=x->DP H (π c D (.ρ (a.map V.int++[.int x])))/\(π c D (.ρ (a.map V.int++[.int x]))) D=Β (.ρ ((a++[x]).map V.int))/\(a++[x]).length=i+1/\∀d∈a++[x],0<=d:=λx hx =>
   ⟨λb o e=>by rw[af (ag e p)];exact y _ _ e,by rw[ac,ϯ];rfl,by rw[Υ,z];rfl,λd g=>by
    rcases Ϣ.mp g with g|g
    ·exact A d g
    ·rw[Φ.mp g];exact hx⟩
  have l:(a.map V.int).length<Χ:=by rw[Ο,ϗ];omega
  refine⟨_,_,Λ,Λ,(by show (0:Int)<2;decide),Λ,_,Λ,?_⟩
  refine AC (λ_=>?_) λ_=>?_
  ·refine⟨.inl ⟨Λ,_,DS.of j⟩,_,_,Λ,Λ,(by show 0<bs;omega),D,_,_,Λ,Λ,j,l,?_⟩
   obtain⟨B,C,G,I⟩:=more (r% bs) (æ _ (by omega))
   exact⟨_,_,Λ,Λ,⟨by omega,by omega⟩,_,_,_,_,B,C,G,I,Λ⟩
  ·refine⟨r,i,Λ,by omega,λd J hd2=>?_⟩
   have e1:0<=d / 613:=Int.ediv_nonneg J (by decide)
   refine⟨.inl ⟨Λ,_,DS.of j⟩,_,_,Λ,Λ,⟨by decide,by decide⟩,_,_,Λ,Λ,_,_,Λ,Λ,.inl ⟨by omega,by omega⟩,_,_,Λ,Λ,(by show (0:Int)<2147483399;decide),D,_,_,Λ,Λ,j,l,?_⟩
   obtain⟨B,C,G,I⟩:=more (d* (d / 613+40692)% 2147483399) (æ _ (by decide))
   exact⟨_,_,_,_,B,C,G,I,Λ⟩
 ·rintro t c ⟨u,v,r,a,y,j,z,A,rfl⟩
  exact(q D a c y p j z A)
abbrev NLn:List Str:=["_law_script","_law_places","_law_amount","_law_lanes_here","_law_draw"]
theorem LF:ar NLn ["_law_script","_law_places"] (aj rS):=L2.Ez
theorem xM(F:Et K "_law_lanes" "_law_lanes" rS f fd)(T:eK mg)(mm:mg "_law_draws"=Β (.ref fm))(km:ϳ K (.ref fm)=Δ)(bm:Binds K dm ["_law_cell","_law_amount","_law_base"] [])(Gm:DQ P w K mg ν aB 2 fm dm ["_law_cell","_law_amount","_law_base"] jW)
  (mc:mg "_law_cell_at"=Β (.ref fc)) (kc:ϳ K (.ref fc)=Δ) (bc:Binds K dc ["_law_script","_law_k"] []) (Gc:DQ P w K mg ν aB 1 fc dc ["_law_script","_law_k"] (oA K)):DQ P w K mg ν aB 3 f fd ["_law_script","_law_places"] (tD K):=by
 refine F.ok LF λ_ _ _ s H _ Q E hr h=>?_
 obtain⟨z,ns,n,rfl,hS,Ka,Xv,q⟩:=h
 have EF:DZ 1 _:=hr.mono (by decide)
 refine⟨_,ae (av (i:=2) LF.nd Λ (ύ Λ) (aC bU ai (aC bF (aC cI (aq Gc EF Λ mc kc bc .nil ao (aa (pv 0) (aa ai ad))) ai) ai)))
  (ae (av (i:=3) LF.nd Λ (ύ Λ) (aW ad))
  (ae (bz Ϟ Λ (aV (aq Gm hr Λ mm km bm .nil ao (aa (aC cI (aq Gc EF Λ mc kc bc .nil ao (aa (pv 0) (aa ai ad))) ai) (aa (pv 2) (aa ai ad))))) (ax (i:=4) LF.nd Λ (ύ Λ))
   (ah (aO (fG (PW.pt (lh (az bT (aC bF (aq Gc EF Λ mc kc bc .nil ao (aa (pv 0) (aa ai ad))) ai) ai (aA _)) (iL (az jI (ay aw Λ T.len PySem.boot_len (aa (pv 3) ad)) (pv 1) (aA _))))))
    (ah (aM (c8 plainAttrs_list PySem.F.slot_list_append PySem.F.type_list_append bD (pv 3) (aa (bq (aa (ay aw Λ T.len PySem.boot_len (aa (pv 3) ad)) (aa (aC bF (aC bU (ay aw Λ T.len PySem.boot_len (aa (pv 3) ad)) ai) (pv 1)) ad))) ad))))
    (ah (aM (c8 plainAttrs_list PySem.F.slot_list_append PySem.F.type_list_append bD (pv 3) (aa (bq (aa (aC bF (pv 4) (pv 1)) (aa (aC bF (aC bU (aC bU (aC bF (pv 4) (pv 1)) ai) (aC bF (aC cI (pv 4) (pv 1)) (aC dX (pv 1) ai))) (pv 1)) ad))) ad)))))))
  (ah (au (pv 3))))),?_⟩
 have two:(2:Nat)<=Χ:=by decide
 have I:(0:Int)<(n:Int):=by omega
 have J:(0:Int)<(n:Int) - 1:=by omega
 refine⟨z,ns,0,Λ,hS,λX=>⟨_,_,Λ,Λ,⟨by decide,by decide⟩,_,_,Λ,Λ,(by show (0:Int)<3;decide),_,_,Λ,Λ,?_⟩⟩
 have am1:=æ (X / 2) (show (3:Int)≠0 by decide)
 have am2:=á (X / 2) (show (0:Int)<3 by decide)
 obtain⟨m,eam,ham⟩:∃m:Nat,2+X / 2% 3=(m:Int)/\2<=m/\m<=4:=⟨(2+X / 2% 3).toNat,by omega,by omega,by omega⟩
 dsimp only
 rw[eam]
 refine⟨Ϧ _,λD L=>?_⟩
 have Y:=(DP.refl H).new (o:=.ρ []) L
 have g0:(π H D (.ρ [])) D=Β (.ρ []):=ac
 generalize π H D (.ρ [])=H1 at Y g0⊢
 refine⟨z,ns,1,Λ,Y.seq hS,λd1=>⟨_,_,Λ,Λ,⟨by decide,by decide⟩,_,m,_,Λ,by omega,by decide,by decide,λA Z B s2 M N IA Fw=>⟨A,Λ,⟨_,DS.of N⟩,?_⟩⟩⟩
 have sH2:=Y.trans s2
 have nDd:=ϛ (ag g0 M)
 have nHd:=Y.free M
 refine bV (K:=K) (a:=A) (xs:=Z.map V.int) (λi σ B=>∃(O:Option V)(c:List V)(ps:List (Int×Int)),DP H B/\B A=Β (.ρ (Z.map V.int))/\B D=Β (.ρ c)/\Eu B c ps/\(∀p∈ps,jx n p=Δ)/\ps.length=i/\σ=[Β (.ref z),Β (.int n),Β (.int m),Β (.ref D),O])
  ⟨Γ,[],[],sH2,N,s2 _ _ g0,.nil,(λe he=>by cases he),Λ,Λ⟩ (λi σ B _ DT=>by obtain⟨_,_,_,_,g,_⟩:=DT;exact DS.of g) ?_ ?_
 ·rintro i v σ t hv ⟨O,c,ps,C,Yw,l,G,DW,hl,rfl⟩
  have hi:i<Z.length:=by have:=(gQ0 hv);rw[Ο]at this;exact this
  obtain⟨d,rfl⟩:∃d,v=V.int d:=by
   rw[ϝ,Μ hi]at hv
   exact⟨_,(Ψ hv).symm⟩
  have hS3:=C.seq hS
  have FZ:=Paired.length G
  have R:c.length<Χ:=by rw[ϗ];omega
  have fin:∀(x y:Int)(j:Ν),t j=Γ->jx n (x,y)=Δ->∃(O:Option V)(N9:List V)(ps:List (Int×Int)),DP H (π (π t j (.tup [.int x,.int y])) D (.ρ (c++[.ref j])))/\(π (π t j (.tup [.int x,.int y])) D (.ρ (c++[.ref j]))) A=Β (.ρ (Z.map V.int))/\(π (π t j (.tup [.int x,.int y])) D (.ρ (c++[.ref j]))) D=Β (.ρ N9)/\Eu (π (π t j (.tup [.int x,.int y])) D (.ρ (c++[.ref j]))) N9 ps/\(∀p∈ps,jx n p=Δ)/\ps.length=i+1/\([Β (.ref z),Β (.int n),Β (.int m),Β (.ref D),Β (.int d)]:St)=[Β (.ref z),Β (.int n),Β (.int m),Β (.ref D),O]:=λx y j u Ja=>by
   obtain⟨S,e2,e3⟩:=lY (x:=x) (y:=y) L C l G u
   refine⟨_,_,_,e2,by rw[af nDd,af (ag Yw u)];exact Yw,ac,e3,λp U=>?_,by rw[Υ,hl];rfl,Λ⟩
   rcases Ϣ.mp U with U|U
   ·exact DW p U
   ·rw[Φ.mp U];exact Ja
  refine⟨λb H'=>H'=t/\(b=Δ->c.length<n),?_,?_⟩
  ·refine⟨z,ns,1,Λ,hS3,λd2=>⟨_,_,Λ,Λ,(by show (0:Int)<2;decide),Λ,_,Λ,?_⟩⟩
   refine AC (λ_=>⟨D,_,Λ,.inl (DS.of l),_,_,Λ,Λ,_,Λ,Λ,λh=>?_⟩) λ_=>⟨Λ,λh=>by cases h⟩
   have:=of_decide_eq_true h
   omega
  rintro b H' ⟨rfl,hb⟩
  refine AC (λh=>?_) λ_=>?_
  ·have El:=hb h
   refine⟨.inl ⟨Λ,_,DS.of l⟩,D,_,Λ,.inl (DS.of l),D,_,Λ,.inl (DS.of l),_,_,Λ,Λ,_,_,Λ,Λ,I,two,λj u=>?_⟩
   have r:=oK (n:=n) (x:=(c.length:Int)) (o:=0) (by omega) (by omega) (by omega) (by omega)
   rw[Int.add_zero]at r
   obtain⟨S,_,_⟩:=lY (x:=(c.length:Int)) (y:=((c.length:Int)+1)% (n:Int)) L C l G u
   exact⟨D,c,_,Λ,Λ,S,R,fin _ _ j u (xV (by omega) (by omega) r.1 r.2.1 r.2.2)⟩
  ·have S:=æ d (show (n:Int)≠0 by omega)
   have e2:=á d I
   have e3:=æ (d / (n:Int)) (show (n:Int) - 1≠0 by omega)
   have e4:=á (d / (n:Int)) J
   have r:=oK S e2 e3 e4
   refine⟨.inl ⟨Λ,_,DS.of l⟩,_,_,Λ,Λ,I,_,_,Λ,Λ,I,_,_,Λ,Λ,_,_,Λ,Λ,⟨by omega,by omega⟩,_,_,Λ,Λ,_,_,Λ,Λ,J,_,_,Λ,Λ,_,_,Λ,Λ,I,two,λj u=>?_⟩
   obtain⟨f1,_,_⟩:=lY (x:=d% (n:Int)) (y:=(d% (n:Int)+1+d / (n:Int)% ((n:Int) - 1))% (n:Int)) L C l G u
   exact⟨D,c,_,Λ,Λ,f1,R,fin _ _ j u (xV S e2 r.1 r.2.1 r.2.2)⟩
 ·rintro σ t ⟨O,c,ps,C,Yw,l,G,DW,hl,rfl⟩
  rw[Ο]at hl
  exact(q D c ps t C L l G DW (by omega) (by omega))
noncomputable def xk(r:Rw):Nat:=(r.g.toNat* 100+Yp r.c)* 100+r.p.toNat
theorem Dh(h:bB a=bB b):xk a=xk b:=by
 unfold bB at h
 injection h with g e
 injection e with e d
 injection d with d _
 injection g with g
 injection e with e
 have l:a.c=b.c:=by
  cases i:a.c with
  | none=>cases f:b.c with
   |none=>rfl
   |some k=>rw[i,f]at d;cases d
  | some k=>cases f:b.c with
   |none=>rw[i,f]at d;cases d
   | some j =>
    rw[i,f]at d
    have d:Β (k:Int)=Β (j:Int):=d
    injection d with d
    rw[show k=j by omega]
 unfold xk
 rw[g,e,l]
structure J6(n:Nat)(ps:List (Int×Int))(B:Nat)(rs:List Rw):Prop where
 sort:(rs.map xk).Pairwise (· < ·)
 low:∀r∈rs,xk r<B
 fit:∀r∈rs,fQ n ps r=Δ
 E4:∀r∈rs,r.s.length<=40
theorem J6.up(h:J6 n ps B rs)(l:B<=B'):J6 n ps B' rs:=⟨h.sort,λr a=>Ϥ (h.low r a) l,h.fit,h.E4⟩
theorem J6.snoc(h:J6 n ps B rs)(c:B<=xk r)(d:fQ n ps r=Δ)(e:r.s.length<=40):J6 n ps (xk r+1) (rs++[r]):=by
 refine⟨?_,λx a=>?_,λx a=>?_,λx a=>?_⟩
 ·rw[ϯ,Ű]
  refine⟨h.sort,by simp,λx a y b=>?_⟩
  obtain⟨f,g,rfl⟩:=Õ.mp a
  have b:y=xk r:=by simpa using b
  rw[b]
  exact Ϥ (h.low f g) c
 ·rcases Ϣ.mp a with a|a
  ·have:=h.low x a;omega
  ·rw[Φ.mp a];omega
 ·rcases Ϣ.mp a with a|a
  ·exact h.fit x a
  ·rw[Φ.mp a];exact d
 ·rcases Ϣ.mp a with a|a
  ·exact h.E4 x a
  ·rw[Φ.mp a];exact e
theorem J6.good(h:J6 n ps B rs):eu n ps rs rs.length=Γ:=by
 refine gZ λk b=>?_
 have c:=Μ b
 have d:rs.getD k ⟨0,0,Γ,[]⟩=rs[k]:=by rw[Ω,c];rfl
 rw[d,ji,h.fit _ (ė b)]
 have f:((rs.take k).any λa=>decide (bB a=bB rs[k]))=Ε:=by
  rw[Ph]
  intro a g i
  have e:=Dh (of_decide_eq_true i)
  obtain⟨j,o,l⟩:=Ž.mp g
  have m:j<k:=by omega
  have:=ż.mp h.sort j k (by rw[Ο];omega) (by rw[Ο];exact b) m
  rw[b6,b6,l]at this
  omega
 rw[f];rfl
def Yz(x:Ν)(H:Hp)(v:V)(r:Rw):Prop:=∃t l,v=.ref t/\Nt H t l r/\l≠x
abbrev GP(x:Ν)(H:Hp):List V->List Rw->Prop:=Paired (Yz x H)
theorem GP.imp{H H':Hp}(h:∀v r,Yz x H v r->G v r):∀{a:List V}{b:List Rw},GP x H a b->Paired G a b:=λc=>by
 induction c with
 |nil=>exact .nil
 |cons z r d=>exact .cons (h _ _ z) d
theorem GP.rws(h:GP x H vs rs):Jc H vs rs:=GP.imp (H':=H) (λ_ _ ⟨t,l,e,z,_⟩=>⟨t,l,e,z⟩) h
theorem GP.same(s:DP H H')(h:GP x H vs rs):GP x H' vs rs:=GP.imp (H':=H) (λ_ _ ⟨t,l,e,z,n⟩=>⟨t,l,e,z.same s,n⟩) h
theorem GP.off(a:H x=Β (.ρ xs))(h:GP x H vs rs):GP x (π H x o) vs rs:=
 GP.imp (H':=H) (λ_ _ b=>by obtain⟨t,l,e,z,n⟩:=b;exact⟨t,l,e,⟨by rw[af (aT z.1 a (by intro z;cases z))];exact z.1,by rw[af n];exact z.2⟩,n⟩) h
theorem GP.snoc(h:Yz x H v r):∀{a:List V}{b:List Rw},GP x H a b->GP x H (a++[v]) (b++[r]):=λc=>by
 induction c with
 |nil=>exact .cons h .nil
 |cons z t d=>exact .cons z d
noncomputable def jD(m:Nat):List (Option Nat):=Γ:: (ό m).map Β
theorem DG(m:Nat):[V.Eg]++((ό m).map λk:Nat=>V.int (k:Int))=(jD m).map cV:=by
 unfold jD
 rw[Ç,ê]
 rfl
theorem yP(h:((jD m).map cV)[j]?=Β v):∃c,v=cV c/\Yp c=j/\∀k,c=Β k->k<m:=by
 rw[ϝ]at h
 cases j with
 |zero=>exact⟨Γ,(Ψ h).symm,Λ,λk e=>by cases e⟩
 | succ j =>
  unfold jD at h
  rw[List.getElem?_cons_succ,ϝ]at h
  by_cases a:j<m
  ·rw[Ų a]at h
   exact⟨Β j,(Ψ h).symm,Λ,λk e=>by cases e;exact a⟩
  ·rw[Í (by rw[å];omega)]at h
   cases h
theorem J6.len(h:J6 n ps B rs):rs.length<=B:=by
 have:=gK B (rs.map xk) (h.sort.imp λh=>Ê h) λx a=>by
  obtain⟨r,b,rfl⟩:=Õ.mp a
  exact h.low r b
 rw[Ο]at this
 exact this
noncomputable def lim(xs:List Nat)(t:Nat):Nat:=if t=0 then 0 else xs.getD (t - 1) 0+1
theorem Db(c:xs.Pairwise (· < ·))(h:xs[t]?=Β p):lim xs t<=p:=by
 unfold lim
 by_cases a:t=0
 ·rw[Ι a];omega
 ·rw[Θ a]
  obtain⟨d,e⟩:=ϥ.mp h
  have b:=ż.mp c (t - 1) t (by omega) d (by omega)
  rw[Ω,Μ (by omega)]
  rw[e]at b
  exact b
theorem ym(h:xs[t]?=Β p):lim xs (t+1)=p+1:=by
 unfold lim
 rw[Θ (by omega),Nat.add_sub_cancel,Ω,h];rfl
theorem Az(h:∀p∈xs,p<100):lim xs xs.length<=100:=by
 unfold lim
 by_cases a:xs.length=0
 ·rw[Ι a];omega
 ·rw[Θ a,Ω,Μ (show xs.length - 1<xs.length by omega)]
  exact h _ (ė _)
def DI(P:Program)(w:Ϭ)(ts:Ts)(H:Hp)(x:Ν)(rs:List Rw):Prop:=∃(dx de:Ν)(lv:V)(kvs:List Ent),H x=Β (.ς ts.told dx [("land",lv),("entries",.ref de)])/\EE P w H de kvs/\∀k,dM kvs k=(dJ rs k).map uL
inductive wC(P:Program)(w:Ϭ)(c:Cs)(ts:Ts)(vs:List V)(H:Hp)(Q:VK)(E:XK):Prop
 |mk (l:Ν) (Eb:List V) (ps:List (Int×Int)) (n:Nat) (cl:Int) (_:vs=[.ref l,.int n,.int cl]) (_:H l=Β (.ρ Eb)) (_:Eu H Eb ps) (_:(∀p∈ps,jx n p=Δ)) (_:ps.length<=6) (_:2<=n) (_:n<=4) (_:∀(x lx Eh lt:Ν)(DX:List V)(wy:Wf)(H':Hp),DP H H'->H x=Γ->EL c ts.told (Ef P w ts) H' x lx Eh lt n DX ps wy->(∀p g k,(wy p g k).length<=400)->(∃rs,DI P w ts H' x rs/\wy=Bi rs/\∀r∈rs,∀k∈r.s,k<ps.length)->Q (.ref x) H')
abbrev Vf:List Str:=["_law_lanes_here","_law_places","_law_cell","_law_rows","_law_goal","_law_came","_law_some","_law_place","_law_draw","_law_out","_law_ways","_law_draws_here"]
noncomputable def RT(s:Ã):Scope:=match s with
 |.For _ (.ListComp _ _ sc _) _ _ _=>sc
 |_=>zQ0
noncomputable def BA:Ã:=xY (sH (xY (sH (xY (aJ kX) 2)) 0)) 2
noncomputable def um:List Ã:=sH BA
noncomputable def BE(n:Nat):Nat->Nat
 |0=>0
 |j+1=>n+j
structure NP(H:Hp)(DD:Ν)(ds:List Int)(H2:Hp):Prop where
 s:DP H H2
 d:H2 DD=Β (.ρ (ds.map V.int))
theorem NP.trans(h:NP H DD ds H2)(k:DP H2 H3):NP H DD ds H3:=⟨h.s.trans k,k _ _ h.d⟩
theorem Gj:ar Vf ["_law_lanes_here","_law_places","_law_cell"] (aj kX):=L2.Ez
theorem RU:EV Vf (aj kX) (RT BA) ["_law_goal"] [4]:=L2.FH
theorem RV:(["_law_place","_law_goal"]:List Str).Nodup:=by decide +kernel
theorem RW:EV Vf (aj kX) (yM (xY um 1)) ["_law_lanes_here","_law_place"] [0,7]:=L2.FH
theorem RX:EV Vf (aj kX) (yM (xY um 2)) ["_law_draw"] [8]:=L2.FH
theorem RY:(["_law_lane","_law_lanes_here","_law_place"]:List Str).Nodup:=by decide +kernel
theorem RZ:(["_law_lane","_law_draw"]:List Str).Nodup:=by decide +kernel
theorem Ac(F:Et K "_law_table" "_law_table" kX f fd)(T:eK mg)(mm:mg "_law_draws"=Β (.ref fm))(km:ϳ K (.ref fm)=Δ)(bm:Binds K dm ["_law_cell","_law_amount","_law_base"] [])(Gm:DQ P w K mg ν aB 2 fm dm ["_law_cell","_law_amount","_law_base"] jW)
  (mi:mg "Land"=Β (.ref c.land)) (Mi:Mk K c.land fi) (bi:Binds K di ["self","places","lanes"] []) (Gi:DQ P w K mg ν aB 4 fi di ["self","places","lanes"] (wE K c))
  (mt:mg "Told"=Β (.ref ts.told)) (Mt:Mk K ts.told ft) (bt:Binds K dt ["self","land","rows"] []) (Gt:DQ P w K mg ν aB 5 ft dt ["self","land","rows"] (wg P w K c ts)):
  DQ P w K mg ν aB 7 f fd ["_law_lanes_here","_law_places","_law_cell"] (wC P w c ts):=by
 refine F.ok Gj λ_ _ _ s H _ Q E G h=>?_
 obtain⟨l,Eb,ps,n,cl,rfl,gl,HP,DW,Hl,Ka,hn4,q⟩:=h
 have hu:=G.units
 have F3:DZ 2 _:=G.mono (by decide)
 have Kv:DZ 5 _:=G.mono (by decide)
 refine⟨_,ae (av (i:=3) Gj.nd Λ (ύ Λ) (aW ad))
  (ae (av (i:=11) Gj.nd Λ (ύ Λ) (aq Gm F3 Λ mm km bm .nil ao (aa (pv 2) (aa (aC lw (pv 1) (aC bU (pv 1) (ay aw Λ T.len PySem.boot_len (aa (pv 0) ad)))) (aa (aC oT ai ai) ad)))))
  (ae (bz Ϟ Λ (bL Λ T.range (aa (pv 1) ad)) (ax (i:=4) Gj.nd Λ (ġ Λ))
   (ah (bz Ϟ Λ (aV (aC xA (aW (aa cz ad)) (aN (hZ Λ) Λ T.list PySem.Pv.boot_list (aa (aN qY Λ T.range e7 (aa (ay aw Λ T.len PySem.boot_len (aa (pv 0) ad)) ad)) ad)))) (ax (i:=5) Gj.nd Λ (ύ Λ))
    (ae (av (i:=6) Gj.nd Λ (ύ Λ) (aN (hZ Λ) Λ T.list PySem.Pv.boot_list (aa (aN qY Λ T.range e7 (aa (pv 1) ad)) ad)))
    (ae (kg (aO (az ku (pv 5) cz (aA _)) (ah (av (i:=6) Gj.nd Λ (ύ Λ) (aW (aa (aD aH (aD aR (pv 0) (pv 5) (λ_ _=>rfl)) ai (λ_ _=>rfl)) ad)))) aE))
    (ah (bz Ϟ Λ (aV (b5 (own:=["_law_place"]) (capN:=["_law_goal"]) (cap:=[4]) RU Λ (aV (pv 6))
      (λC s' H' fp=>⟨ax (i:=0) RV Λ (ύ Λ),cX (az mW (pv 0) (pv 1) (aA _)),pv 0⟩))) (ax (i:=7) Gj.nd Λ (ġ Λ))
     (ae (av (i:=8) Gj.nd Λ (ġ Λ) (aD aR (pv 11) (ay aw Λ T.len PySem.boot_len (aa (pv 3) ad)) (λ_ _=>rfl)))
     (ae (dB (i:=9) (own:=["_law_lane"]) (capN:=["_law_lanes_here","_law_place"]) (cap:=[0,7]) RW Λ Gj.nd Λ Λ (bL Λ T.range (aa (ay aw Λ T.len PySem.boot_len (aa (pv 0) ad)) ad))
      (λC s' H' fp=>⟨ax (i:=0) RY Λ (ύ Λ),cX (az bT (aD (show uB _ (qk K) from aH) (aD (show uB _ (xn K) from aR) (pv 1) (pv 0) (λ_ _=>rfl)) ai (λ_ _=>rfl)) (pv 2) (aA _)),pv 0⟩))
     (ae (dB (i:=10) (own:=["_law_lane"]) (capN:=["_law_draw"]) (cap:=[8]) RX Λ Gj.nd Λ Λ (aV (pv 9))
      (λC s' H' fp=>⟨ax (i:=0) RZ Λ (ύ Λ),cX (az bT (aC xB (aC xy (pv 1) (pv 0)) ai) ai (aA _)),pv 0⟩))
     (ae (kg (aO (PW.pt (lh (az (C2 hu) (pv 10) (aW ad) (aA _)) (iL (az x8 (aC bF (aC cI (pv 8) ai) ai) ai (aA _)))))
      (ah (av (i:=10) Gj.nd Λ (ύ Λ) (dF eB (pv 9) iP (cY ai)))) aE))
     (ah (aM (c8 plainAttrs_list PySem.F.slot_list_append PySem.F.type_list_append bD (pv 3) (aa (bq (aa (pv 7) (aa (pv 4) (aa (pv 5) (aa (pv 10) ad))))) ad)))))))))))))))
  (ah (au (eI Mt Gt G Λ mt bt .nil ao (aa (eI Mi Gi Kv Λ mi bi .nil ao (aa (pv 1) (aa (aN cf Λ T.list PySem.Pv.boot_list (aa (pv 0) ad)) ad))) (aa (pv 3) ad))))))),?_⟩
 have FZ:=Paired.length HP
 refine⟨Ϧ _,λD hD=>?_⟩
 have s0:=(DP.refl H).new (o:=.ρ []) hD
 have g0:(π H D (.ρ [])) D=Β (.ρ []):=ac
 generalize π H D (.ρ [])=H0' at s0 g0⊢
 refine⟨l,_,Λ,.inl (DS.of (s0 _ _ gl)),_,_,Λ,Λ,_,_,Λ,Λ,.inl ⟨by omega,by omega⟩,_,_,Λ,Λ,⟨by decide,by decide,by decide⟩,cl,n* (n+ps.length),100000,?_,?_,by decide,by decide,λO ds H0 sd hDD gDD IA Fw=>?_⟩
 ·rw[FZ,Int.natCast_mul,Int.natCast_add];rfl
 ·have:=Nat.mul_le_mul hn4 (show n+ps.length<=10 by omega);omega
 have gD0:=sd _ _ g0
 have nDD:=ϛ (ag g0 hDD)
 have z0:NP H O ds H0:=⟨s0.trans sd,gDD⟩
 refine⟨(n:Int),Λ,by omega,by omega,?_⟩
 rw[ϋ]
 refine cT (n:=n) (λi B H2=>∃(a4 a5 a6 S U X Y:Option V)(y:List V)(x:List Rw),NP H O ds H2/\H2 D=Β (.ρ y)/\GP D H2 y x/\J6 n ps (i* 10000) x/\x.length<=i* (n+ps.length)/\B=[Β (.ref l),Β (.int n),Β (.int cl),Β (.ref D),a4,a5,a6,S,U,X,Y,Β (.ref O)])
  ⟨Γ,Γ,Γ,Γ,Γ,Γ,Γ,[],[],z0,gD0,.nil,⟨š,(λr G=>by cases G),(λr G=>by cases G),(λr G=>by cases G)⟩,Ϧ _,Λ⟩ ?_ ?_
 rotate_left
 ·rintro B H2 ⟨a4,a5,a6,S,U,X,Y,y,x,s2,g2,hR,hO,hct,rfl⟩
  have HA:y.length=x.length:=Paired.length hR
  have hrm:=hO.len
  have gd:=yB (ps:=ps) (n:=n) (by omega) (by omega) (by omega) DW
  refine⟨l,_,Λ,.inl (DS.of (s2.s _ _ gl)),λl2 GX=>?_⟩
  have s3:=(DP.refl H2).new (o:=.ρ Eb) GX
  have g3:(π H2 l2 (.ρ Eb)) l2=Β (.ρ Eb):=ac
  generalize π H2 l2 (.ρ Eb)=H3 at s3 g3⊢
  refine λxl FU nx QU Mu=>?_
  have s4:DP H3 (π (π H3 FU (.own xl)) xl (.ς c.land FU [])):=DP.new (DP.new (DP.refl H3) QU) (by rw[af (ϛ Mu)];exact nx)
  refine⟨xl,FU,(n:Int),l2,Eb,ps,Λ,ac,DS.of (s4 _ _ g3),Eu.same (s2.s.trans (s3.trans s4)) HP,by omega,(λh=>by rw[gd]at h;cases h),(λk h=>by rw[gd]at h;cases h),(λk h=>by rw[gd]at h;cases h),λ_ H5 lt DX off hL=>⟨Λ,?_⟩⟩
  have s5:DP H3 H5:=λb o e=>off b o (ag e nx) (s4 _ _ e)
  refine(λtb OR nt ndt net=>?_)
  have s6:DP H5 (π (π H5 OR (.own tb)) tb (.ς ts.told OR [])):=DP.new (DP.new (DP.refl H5) ndt) (by rw[af (ϛ net)];exact nt)
  have s26:=s3.trans (s5.trans s6)
  refine⟨tb,OR,xl,FU,lt,D,(n:Int),DX,y,ps,x,Λ,ac,⟨s6 _ _ hL.1,s6 _ _ hL.2.1,Eu.same s6 hL.2.2⟩,DS.of (s26 _ _ g2),Jc.same s26 hR.rws,by omega,by omega,λr G=>⟨λk J=>by have:=nG (hO.fit r G) k J;omega,by have:=hO.E4 r G;omega⟩,(λi e=>by rw[hO.good]at e;cases e),λ_ L de kvs Y1 Y2 hd7 hv7=>⟨Λ,?_⟩⟩
  have s7:DP H5 L:=λb o e=>Y1 b o (ag e nt) (s6 _ _ e)
  have Ku:∀r∈x,∀k∈r.s,k<ps.length:=λr G=>nG (hO.fit r G)
  refine q tb xl FU lt DX (Bi x) L (s2.s.trans (s3.trans (s5.trans s7))) (s2.s.free (s3.free (s5.free nt))) ⟨⟨OR,de,_,kvs,x,Y2,hd7,hv7,(λr G k J=>by have:=Ku r G k J;omega),Λ⟩,⟨OR,_,Y2,Λ,Λ⟩,⟨s7 _ _ hL.1,s7 _ _ hL.2.1,Eu.same s7 hL.2.2⟩,by omega,by omega,λp g k _ _ z hz=>(vK Ku p g k).1 z hz⟩ (λp g k=>by have:=(vK Ku p g k).2;omega) ⟨x,⟨OR,de,_,kvs,Y2,hd7,hv7⟩,Λ,Ku⟩
 rintro i B H2 hi ⟨a4,a5,a6,S,U,X,Y,y,x,s2,g2,hR,hO,hct,rfl⟩
 rw[ĥ]
 refine⟨by show 1<=Χ;decide,λo1 ho1=>?_⟩
 have t1:=(DP.refl H2).new (o:=.ρ [.Eg]) ho1
 have g1:(π H2 o1 (.ρ [.Eg])) o1=Β (.ρ [.Eg]):=ac
 generalize π H2 o1 (.ρ [.Eg])=H3 at t1 g1⊢
 refine⟨l,_,Λ,.inl (DS.of (t1 _ _ (s2.s _ _ gl))),_,Λ,λo2 FX=>?_⟩
 rw[FZ]
 have t2:=t1.new (o:=jU o2 (ps.length:Int)) FX
 have Vc:(π H3 o2 (jU o2 (ps.length:Int))) o2=Β (jU o2 (ps.length:Int)):=ac
 have R8:(π H3 o2 (jU o2 (ps.length:Int))) o1=Β (.ρ [.Eg]):=by rw[af (ag g1 FX)];exact g1
 generalize π H3 o2 (jU o2 (ps.length:Int))=H4 at t2 Vc R8⊢
 refine⟨o2,ps.length,Λ,Vc,by omega,λo3 ho3=>?_⟩
 have t3:=t2.new (o:=.ρ ((ό ps.length).map λk:Nat=>V.int (k:Int))) ho3
 have g3:(π H4 o3 (.ρ ((ό ps.length).map λk:Nat=>V.int (k:Int)))) o3=Β (.ρ ((ό ps.length).map λk:Nat=>V.int (k:Int))):=ac
 have Sa:(π H4 o3 (.ρ ((ό ps.length).map λk:Nat=>V.int (k:Int)))) o1=Β (.ρ [.Eg]):=by rw[af (ag R8 ho3)];exact R8
 generalize π H4 o3 (.ρ ((ό ps.length).map λk:Nat=>V.int (k:Int)))=H5 at t3 g3 Sa⊢
 refine⟨o1,o3,_,_,Λ,Λ,Sa,g3,by rw[Ο,å,ϗ];simp only[ϙ];omega,λC hC=>?_⟩
 rw[DG]
 have t4:=t3.new (o:=.ρ ((jD ps.length).map cV)) hC
 have gC:(π H5 C (.ρ ((jD ps.length).map cV))) C=Β (.ρ ((jD ps.length).map cV)):=ac
 have nC:C≠D:=ϛ (ag (t3 _ _ g2) hC)
 generalize π H5 C (.ρ ((jD ps.length).map cV))=H6 at t4 gC⊢
 refine⟨C,Λ,⟨_,DS.of gC⟩,?_⟩
 have hCl:((jD ps.length).map cV).length=ps.length+1:=by unfold jD;rw[Ο,Ė,Ο,å]
 refine bV (K:=K) (a:=C) (xs:=(jD ps.length).map cV) (λj B L=>∃(a5 a6 S U X Y:Option V)(y:List V)(x:List Rw),NP H O ds L/\L D=Β (.ρ y)/\L C=Β (.ρ ((jD ps.length).map cV))/\GP D L y x/\J6 n ps ((i* 100+j)* 100) x/\x.length<=i* (n+ps.length)+BE n j/\B=[Β (.ref l),Β (.int n),Β (.int cl),Β (.ref D),Β (.int (i:Int)),a5,a6,S,U,X,Y,Β (.ref O)])
  ⟨_,_,_,_,_,_,y,x,s2.trans t4,t4 _ _ g2,gC,hR.same t4,hO.up (by omega),hct,Λ⟩ (λj B L _ DT=>by obtain⟨_,_,_,_,_,_,_,_,_,_,g,_⟩:=DT;exact DS.of g) ?_ ?_
 rotate_left
 ·rintro B L ⟨a5,a6,S,U,X,Y,y,x,s7,g7,_,Y3,Vg,LG,rfl⟩
  rw[hCl]at Vg LG
  exact⟨_,_,_,_,_,_,_,y,x,s7,g7,Y3,Vg.up (by omega),by rw[Nat.succ_mul];exact LG,Λ⟩
 rintro j v B L hv ⟨a5,a6,S,U,X,Y,y,x,s7,g7,gC7,Y3,Vg,LG,rfl⟩
 have hj:j<ps.length+1:=by rw[←hCl];exact(gQ0 hv)
 obtain⟨A,rfl,NQ,O2⟩:=yP hv
 refine⟨_,Λ,λo5 ho5=>?_⟩
 have t5:=(DP.refl L).new (o:=jU o5 (n:Int)) ho5
 have g5:(π L o5 (jU o5 (n:Int))) o5=Β (jU o5 (n:Int)):=ac
 generalize π L o5 (jU o5 (n:Int))=H8 at t5 g5⊢
 refine⟨o5,n,Λ,g5,by omega,λo6 ho6=>?_⟩
 have t6:=t5.new (o:=.ρ ((ό n).map λk:Nat=>V.int (k:Int))) ho6
 have g6:(π H8 o6 (.ρ ((ό n).map λk:Nat=>V.int (k:Int)))) o6=Β (.ρ (ci (ό n))):=ac
 have n6:o6≠D:=ϛ (ag (t5 _ _ g7) ho6)
 generalize π H8 o6 (.ρ ((ό n).map λk:Nat=>V.int (k:Int)))=H9 at t6 g6⊢
 refine⟨λB Ha=>∃(R:Ν)(xs:List Nat),DP L Ha/\Ha R=Β (.ρ (ci xs))/\R≠D/\xs.Pairwise (· < ·)/\(∀p∈xs,p<n/\∀k,A=Β k->k∈i6 ç ps (p:Int))/\BE n j+xs.length<=BE n (j+1)/\B=[Β (.ref l),Β (.int n),Β (.int cl),Β (.ref D),Β (.int (i:Int)),Β (cV A),Β (.ref R),S,U,X,Y,Β (.ref O)],?_,?_⟩
 ·refine⟨Λ,_,Λ,?_⟩
  cases A with
  |none=>exact aG ⟨o6,ό n,t6,g6,n6,Jq,(λp Z=>⟨Ë.mp Z,λk e=>by cases e⟩),by rw[←NQ,å];show 0+n<=n+0;omega,Λ⟩
  | some k =>
   have J:=O2 k Λ
   obtain⟨v,FW,u,rfl,gu⟩:=Eu.Nr HP (Μ J)
   have s9:=s7.s.trans t6
   refine aK ⟨l,Eb,(k:Int),_,Λ,Λ,DS.of (s9 _ _ gl),al FW,u,_,1,_,Λ,Λ,DY.of (s9 _ _ gu),al (j:=1) Λ,by show 1<=Χ;decide,λR Sb=>?_⟩
   have Kx:=DW _ (ė J)
   unfold jx at Kx
   simp only[Ö,decide_eq_true_eq,Ĩ,decide_eq_false_iff_not]at Kx
   obtain⟨p0,hp0⟩:∃p0:Nat,(ps[k]).2=(p0:Int):=⟨(ps[k]).2.toNat,by omega⟩
   have egk:ps.getD k (0,0)=ps[k]:=by rw[Ω,Μ J];rfl
   refine⟨R,[p0],t6.new Sb,by rw[ac,hp0];rfl,ϛ (ag (t6 _ _ g7) Sb),by simp,(λp Z=>?_),by rw[←NQ];show n+k+1<=n+(k+1);omega,Λ⟩
   rw[Φ.mp Z]
   refine⟨by omega,λk' e=>?_⟩
   cases e
   exact Å.mpr ⟨Ë.mpr J,Ζ (by show(ps.getD k (0,0)).2=_;rw[egk];exact hp0)⟩
 rintro B Ha ⟨Sd,OS,tS',gS',nS',Sf,Sg,Sh,rfl⟩
 refine⟨Sd,Λ,⟨_,DS.of gS'⟩,?_⟩
 have Ks:OS.length<=n+ps.length:=by cases j<;>simp only[BE]at Sh<;>omega
 refine nO (λk=>decide (k≠i)) (by rw[ϗ];omega) (DS.of gS') (λk acc N J h=>?_) (λR Sb=>?_)
 ·refine⟨Λ,_,Λ,?_⟩
  rw[j7]
  by_cases hb:k=i
  ·rw[Ζ (show (k:Int)=(i:Int) by omega)]
   rw[Η (λz:k≠i=>z hb)]at h
   exact aG h
  ·rw[Η (show ¬(k:Int)=(i:Int) by omega)]
   rw[Ζ (show k≠i from hb)]at h
   exact aK (h)
 have tS:=tS'.new (o:=.ρ (ci (OS.filter λk=>decide (k≠i)))) Sb
 have gS:(π Ha R (.ρ (ci (OS.filter λk=>decide (k≠i))))) R=Β (.ρ (ci (OS.filter λk=>decide (k≠i)))):=ac
 have nS:R≠D:=ϛ (ag (tS' _ _ g7) Sb)
 generalize π Ha R (.ρ (ci (OS.filter λk=>decide (k≠i))))=Ha2 at tS gS⊢
 obtain⟨xs,OP,Y4,hxp,hbd⟩:∃xs,(OS.filter λk=>decide (k≠i))=xs/\xs.Pairwise (· < ·)/\(∀p∈xs,p<n/\(∀k,A=Β k->k∈i6 ç ps (p:Int))/\p≠i)/\BE n j+xs.length<=BE n (j+1):=by
  refine⟨_,Λ,Sf.filter _,λp Z=>?_,Î (Đ (Ò _ _) _) Sh⟩
  obtain⟨h1,h2⟩:=Å.mp Z
  exact⟨(Sg p h1).1,(Sg p h1).2,of_decide_eq_true h2⟩
 rw[OP]at gS
 refine⟨R,Λ,⟨_,DS.of gS⟩,?_⟩
 refine bV (K:=K) (a:=R) (xs:=ci xs) (λt B M=>∃(S U X Y:Option V)(y:List V)(x:List Rw),NP H O ds M/\M D=Β (.ρ y)/\M C=Β (.ρ ((jD ps.length).map cV))/\M R=Β (.ρ (ci xs))/\GP D M y x/\J6 n ps ((i* 100+j)* 100+lim xs t) x/\x.length<=i* (n+ps.length)+BE n j+t/\B=[Β (.ref l),Β (.int n),Β (.int cl),Β (.ref D),Β (.int (i:Int)),Β (cV A),Β (.ref Sd),S,U,X,Y,Β (.ref O)])
  ⟨_,_,_,_,y,x,s7.trans tS,tS _ _ g7,tS _ _ gC7,gS,Y3.same tS,Vg.up (by omega),LG,Λ⟩ (λt B M _ DT=>by obtain⟨_,_,_,_,_,_,_,_,_,g,_⟩:=DT;exact DS.of g) ?_ ?_
 rotate_left
 ·rintro B M ⟨S,U,X,Y,y,x,sb,gb,Y5,gSb,Vh,Si,Sj,rfl⟩
  have Y6:(ci xs).length=xs.length:=by unfold ci;rw[Ο]
  rw[Y6]at Si Sj
  have:=Az (xs:=xs) λp Z=>by have:=(hxp p Z).1;omega
  exact⟨_,_,_,_,_,_,y,x,sb,gb,Y5,Vh,Si.up (by omega),by omega,Λ⟩
 rintro t v B M OT ⟨S,U,X,Y,y,x,sb,gb,Y5,gSb,Vh,Si,Sj,rfl⟩
 obtain⟨p,Z,rfl⟩:=qw OT
 obtain⟨hpn,hpc,hpi0⟩:=hxp p (Ϗ Z)
 have hlp:=Db Y4 Z
 have hls:=ym Z
 have HA:y.length=x.length:=Paired.length Vh
 have hrm:=Si.len
 have ht:t<xs.length:=(gQ0 Z)
 have Y7:=Nat.mul_le_mul_right (n+ps.length) (show i+1<=n from hi)
 rw[Nat.succ_mul]at Y7
 have hbm:BE n (j+1)<=n+ps.length:=by show n+j<=_;omega
 have El:y.length<ds.length:=by rw[IA,HA];omega
 obtain⟨m,hm⟩:∃m:Nat,ds[y.length]=(m:Int):=⟨(ds[y.length]).toNat,by have:=Fw _ (ė El);omega⟩
 refine⟨D,_,Λ,.inl (DS.of gb),O,ds.map V.int,(y.length:Int),.int m,Λ,Λ,DS.of sb.d,al (by rw[ϝ,Μ El,hm];rfl),?_⟩
 refine⟨l,_,Λ,.inl (DS.of (sb.s _ _ gl)),(Eb.length:Int),Λ,by omega,by omega,?_⟩
 rw[ϋ,FZ]
 refine AU (sel:=Â) (ps:=ps) (pl:=(p:Int)) (by rw[ϗ];omega) (λz acc N pr IF h=>?_) (λOu hOu=>?_)
 ·obtain⟨v,hv,u,rfl,gu⟩:=Eu.Nr HP IF
  refine⟨l,Eb,_,_,Λ,Λ,DS.of (sb.s _ _ gl),al hv,u,_,0,_,Λ,Λ,DY.of (sb.s _ _ gu),al (j:=0) Λ,Λ,_,Λ,?_⟩
  rw[j7]
  cases hb:decide (pr.1=(p:Int)) with
  | true =>
   have FO:decide (Â pr=(p:Int))=Δ:=hb
   rw[FO]at h
   exact aK (h)
  | false =>
   have FO:decide (Â pr=(p:Int))=Ε:=hb
   rw[FO]at h
   exact aG h
 have Hu:(i6 Â ps (p:Int)).length<=6:=by
  have:=Ò (λk=>decide (Â (ps.getD k (0,0))=(p:Int))) (ό ps.length)
  rw[å]at this
  unfold i6
  omega
 have u1:=(DP.refl M).new (o:=.ρ (ci (i6 Â ps (p:Int)))) hOu
 have gO:(π M Ou (.ρ (ci (i6 Â ps (p:Int))))) Ou=Β (.ρ (ci (i6 Â ps (p:Int)))):=ac
 show cO 9 (V.ref Ou) _ (π M Ou (.ρ (ci (i6 Â ps (p:Int))))) _
 generalize π M Ou (.ρ (ci (i6 Â ps (p:Int))))=Hc at u1 gO⊢
 generalize Y8:i6 Â ps (p:Int)=out at Hu gO⊢
 refine⟨Ou,Λ,⟨_,DS.of gO⟩,?_⟩
 refine nO (λk=>m.testBit k) (by rw[ϗ];omega) (DS.of gO) (λk acc N J h=>?_) (λWa Y9=>?_)
 ·refine⟨_,_,Λ,Λ,(show (0:Int)<=(k:Int) by omega),_,_,Λ,Λ,Λ,_,Λ,?_⟩
  rw[Yq]
  cases hb:m.testBit k with
  |true=>rw[hb]at h;exact aK (h)
  |false=>rw[hb]at h;exact aG h
 have u2:=u1.new (o:=.ρ (ci (out.filter λk=>m.testBit k))) Y9
 have gW:(π Hc Wa (.ρ (ci (out.filter λk=>m.testBit k)))) Wa=Β (.ρ (ci (out.filter λk=>m.testBit k))):=ac
 have YB:(π Hc Wa (.ρ (ci (out.filter λk=>m.testBit k)))) Ou=Β (.ρ (ci out)):=by rw[af (ag gO Y9)];exact gO
 have nW:Wa≠D:=ϛ (ag (u1 _ _ gb) Y9)
 show cO 10 (V.ref Wa) _ (π Hc Wa (.ρ (ci (out.filter λk=>m.testBit k)))) _
 generalize π Hc Wa (.ρ (ci (out.filter λk=>m.testBit k)))=Hd at u2 gW YB⊢
 refine⟨λB He=>∃(I:Ν)(us:List Nat),DP M He/\He I=Β (.ρ (ci us))/\I≠D/\(∀k∈us,k∈out)/\us.length<=6/\B=[Β (.ref l),Β (.int n),Β (.int cl),Β (.ref D),Β (.int (i:Int)),Β (cV A),Β (.ref Sd),Β (.int (p:Int)),Β (.int (m:Int)),Β (.ref Ou),Β (.ref I),Β (.ref O)],?_,?_⟩
 ·refine⟨Ϧ _,λo7 OU=>?_⟩
  have u3:=u2.new (o:=.ρ []) OU
  have YC:(π Hd o7 (.ρ [])) Wa=Β (.ρ (ci (out.filter λk=>m.testBit k))):=by rw[af (ag gW OU)];exact gW
  have gO3:(π Hd o7 (.ρ [])) Ou=Β (.ρ (ci out)):=by rw[af (ag YB OU)];exact YB
  have g7':(π Hd o7 (.ρ [])) o7=Β (.ρ (([]:List Int).map V.int)):=ac
  generalize π Hd o7 (.ρ [])=He at u3 YC gO3 g7'⊢
  have EU:∃(I:Ν)(us:List Nat),DP M He/\He I=Β (.ρ (ci us))/\I≠D/\(∀k∈us,k∈out)/\us.length<=6/\([Β (.ref l),Β (.int n),Β (.int cl),Β (.ref D),Β (.int (i:Int)),Β (cV A),Β (.ref Sd),Β (.int (p:Int)),Β (.int (m:Int)),Β (.ref Ou),Β (.ref Wa),Β (.ref O)]:St)=[Β (.ref l),Β (.int n),Β (.int cl),Β (.ref D),Β (.int (i:Int)),Β (cV A),Β (.ref Sd),Β (.int (p:Int)),Β (.int (m:Int)),Β (.ref Ou),Β (.ref I),Β (.ref O)]:=
   ⟨Wa,_,u3,YC,nW,(λk J=>(Å.mp J).1),Î (Ò _ _) Hu,Λ⟩
  refine⟨Wa,o7,iz (out.filter λk=>m.testBit k),[],Λ,Λ,by rw[←iU];exact DS.of YC,DS.of g7',_,Λ,?_⟩
  cases hb:decide (iz (out.filter λk=>m.testBit k)=[]) with
  |false=>exact aG (aG EU)
  | true =>
   refine aK ⟨_,_,Λ,Λ,⟨by decide,by decide⟩,_,_,Λ,Λ,(by show (0:Int)<4;decide),_,_,Λ,Λ,_,Λ,?_⟩
   dsimp only
   cases hb2:decide ((0:Int)<(m:Int) / 64% 4) with
   |false=>exact aG EU
   | true =>
    refine aK ⟨_,Λ,Ou,_,Λ,DS.of gO3,λI hWb=>?_⟩
    refine⟨I,out.take 1,u3.new hWb,?_,ϛ (ag (u3 _ _ gb) hWb),(λk J=>ì J),by rw[ć];omega,Λ⟩
    rw[ac,show((1:Int))=((1:Nat):Int) from Λ]
    exact congrArg (λz=>Β (HO.ρ z)) (sM out 1)
 rintro B He ⟨I,us,u4,gWb,nWb,hus,Va,rfl⟩
 have Vi:¬(p:Int)=(i:Int):=by omega
 refine⟨.inl ⟨Λ,_,DS.of (u4 _ _ gb)⟩,by show 4<=Χ;decide,λtt KI=>?_⟩
 have u5:=u4.new (o:=.tup [.int (p:Int),.int (i:Int),cV A,.ref I]) KI
 have gT:(π He tt (.tup [.int (p:Int),.int (i:Int),cV A,.ref I])) tt=Β (.tup [.int (p:Int),.int (i:Int),cV A,.ref I]):=ac
 have gWc:(π He tt (.tup [.int (p:Int),.int (i:Int),cV A,.ref I])) I=Β (.ρ (ci us)):=by rw[af (ag gWb KI)];exact gWb
 generalize π He tt (.tup [.int (p:Int),.int (i:Int),cV A,.ref I])=Hf at u5 gT gWc⊢
 have gDf:=u5 _ _ gb
 refine⟨D,y,_,Λ,Λ,gDf,by rw[ϗ];omega,?_⟩
 have YD:fQ n ps ⟨(p:Int),(i:Int),A,us⟩=Δ:=by
  unfold fQ
  have ho:jx n ((p:Int),(i:Int))=Δ:=by
   unfold jx
   simp only[Ö,decide_eq_true_eq,Ĩ,decide_eq_false_iff_not]
   exact⟨⟨by omega,by omega⟩,⟨by omega,by omega⟩,Vi⟩
  rw[ho,Ě]
  have hs:(us.all λz=>decide (z∈i6 Â ps (p:Int)))=Δ:=by
   rw[ĭ]
   exact λz hz=>Ζ (by rw[Y8];exact hus z hz)
  dsimp only
  rw[hs,Bool.and_true]
  cases A with
  |none=>rfl
  |some k=>exact Ζ (hpc k Λ)
 have erk:xk ⟨(p:Int),(i:Int),A,us⟩=(i* 100+j)* 100+p:=by
  unfold xk
  show(((i:Int)).toNat* 100+Yp A)* 100+((p:Int)).toNat=_
  rw[ϋ,ϋ,NQ]
 have hOn:=Si.snoc (r:=⟨(p:Int),(i:Int),A,us⟩) (by rw[erk];omega) YD (by show us.length<=40;omega)
 refine⟨_,_,_,_,y++[.ref tt],x++[⟨(p:Int),(i:Int),A,us⟩],⟨λb o e=>by rw[af (ag e hD)];exact u5 _ _ (sb.s _ _ e),by rw[af nDD];exact u5 _ _ sb.d⟩,ac,?_,?_,?_,hOn.up (by rw[erk,hls];omega),by rw[Υ,ϙ];omega,Λ⟩
 ·rw[af nC];exact u5 _ _ Y5
 ·rw[af nS];exact u5 _ _ gSb
 ·have hRf:=GP.snoc (r:=⟨(p:Int),(i:Int),A,us⟩) ⟨tt,I,Λ,⟨gT,gWc⟩,nWb⟩ (Vh.same u5)
  exact GP.off gDf hRf
theorem ES.det(t:ES a s m s1)(j:ES a s m s2):s1=s2:=by
 cases t with
 | Fm l u v o x =>
  cases j with
  | Fm d y z f A =>
   rw[l]at d;cases d
   rw[o]at f;cases f
   rfl
 | on g p l v o x =>
  cases j with
  | on b h d z f A =>
   rw[g]at b;cases b
   rw[p]at h
   have e:=Ψ h
   have c:=congrArg Â e
   have q:=congrArg ç e
   have c:=ly c
   cases c;cases q
   rw[l]at d;cases d
   rw[o]at f;cases f
   rfl
 | Fn g p l u B C =>
  cases j with
  | Fn b h d y i r =>
   rw[g]at b;cases b
   rw[p]at h
   have e:=Ψ h
   have c:=congrArg Â e
   have q:=congrArg ç e
   have c:=ly c
   cases c;cases q
   rw[B]at i
   have D:=ly i
   cases D
   rw[C]at r;cases r
   rfl
 | back g E =>
  cases j with
  |back b F=>rw[g]at b;cases b;rfl
noncomputable def core(s:YS):YS:={s with done:=[]}
theorem ES.core(h:ES a s m s'):ES a (core s) m (core s'):=by
 cases h with
 |Fm b d e f g=>exact .Fm (s:=K69.core s) b d e f g
 |on c i b e f g=>exact .on (s:=K69.core s) c i b e f g
 |Fn c i b d j l=>exact .Fn (s:=K69.core s) c i b d j l
 |back c o=>exact .back (s:=K69.core s) c o
theorem iu(a:YA)(s:YS):aF a (core s)=aF a s:=rfl
theorem ie(a:YA)(s:YS):aS a (core s)=aS a s:=rfl
noncomputable def kq(s:YS):List bO×List (List Nat)×List (List (Int×Int)):=(s.δ,s.U.map (·.Α),s.ι)
structure Ent where
 s:YS
 p:List Mv
structure jp where
 L:List Ent
 i:Nat
 j:Nat
def New(a:YA)(c:jp)(s':YS)(p:List Mv):Prop:=∃e m,c.L[c.i]?=Β e/\(aF a e.s)[c.j]?=Β m/\ES a e.s m s'/\(∀x∈c.L,kq x.s≠kq s')/\p=e.p++[m]
inductive Nx(a:YA):jp->jp->Prop
 |skip {L:List Ent} {i j:Nat} {e:Ent} {m:Mv} {s':YS} (h1:L[i]?=Β e) (h2:(aF a e.s)[j]?=Β m) (h3:ES a e.s m s') (h4:∃x∈L,kq x.s=kq s'):Nx a ⟨L,i,j⟩ ⟨L,i,j+1⟩
 |new {L:List Ent} {i j:Nat} {s':YS} {p:List Mv} (h1:New a ⟨L,i,j⟩ s' p) (h2:aS a s'=Ε):Nx a ⟨L,i,j⟩ ⟨L++[⟨s',p⟩],i,j+1⟩
 |next {L:List Ent} {i j:Nat} {e:Ent} (h1:L[i]?=Β e) (h2:(aF a e.s).length=j):Nx a ⟨L,i,j⟩ ⟨L,i+1,0⟩
theorem New.det(f:New a c s1 p1)(g:New a c s2 p2):s1=s2/\p1=p2:=by
 obtain⟨e,m,h,i,j,_,rfl⟩:=f
 obtain⟨o,p,b,d,l,_,rfl⟩:=g
 rw[h]at b;cases b
 rw[i]at d;cases d
 exact⟨j.det l,Λ⟩
theorem New.nx(h:New a c s' p)(n:Nx a c c'):aS a s'=Ε/\c'=⟨c.L++[⟨s',p⟩],c.i,c.j+1⟩:=by
 cases n with
 | skip b f o q =>
  obtain⟨e,m,d,g,r,s,_⟩:=h
  rw[b]at d;cases d
  rw[f]at g;cases g
  obtain⟨x,t,l⟩:=q
  rw[o.det r]at l
  exact Κ l (s x t)
 | new b f =>
  obtain⟨rfl,rfl⟩:=h.det b
  exact⟨f,Λ⟩
 | next b f =>
  obtain⟨e,m,d,g,_⟩:=h
  rw[b]at d;cases d
  have:=(gQ0 g)
  simp only at this
  omega
theorem Nx.det(h:Nx a c c1)(g:Nx a c c2):c1=c2:=by
 cases h with
 | skip d f i j =>
  cases g with
  |skip=>rfl
  |new b e=>have:=(b.nx (.skip d f i j)).2;exact this
  | next b e =>
   rw[d]at b;cases b
   have:=(gQ0 f)
   omega
 |new b e=>exact((b.nx g).2).symm
 | next d f =>
  cases g with
  | skip b e l m =>
   rw[d]at b;cases b
   have:=(gQ0 e)
   omega
  |new b e=>exact(b.nx (.next d f)).2
  |next=>rfl
theorem Nx.len(h:Nx a c c'):c.L.length<=c'.L.length:=by
 cases h with
 |skip=>exact Ξ _
 |new=>simp
 |next=>exact Ξ _
theorem Nx.lt(h:Nx a c c'):c.i<c.L.length:=by
 cases h with
 |skip b=>exact(gQ0 b)
 |new b=>obtain⟨e,m,d,_⟩:=b;exact(gQ0 d)
 |next b=>exact(gQ0 b)
noncomputable def YE(s:YS):jp:=⟨[⟨core s,[]⟩],0,0⟩
inductive Tr(a:YA)(s:YS):Nat->jp->Prop
 |nil:Tr a s 0 (YE s)
 |snoc {n:Nat} {c c':jp}:Tr a s n c->Nx a c c'->Tr a s (n+1) c'
theorem Tr.det(c:Tr a s n c1)(b:Tr a s n c2):c1=c2:=by
 induction c generalizing c2 with
 |nil=>cases b;rfl
 | snoc _ d e =>
  cases b with
  | snoc f g =>
   have:=e f
   subst this
   exact d.det g
theorem Tr.lt(f:Tr a s n c)(g:Tr a s n' c')(j:n<n'):∃b,Nx a c b/\b.L.length<=c'.L.length:=by
 induction g with
 |nil=>omega
 | @snoc k d d' t2 n2 ih =>
  by_cases e:n=k
  ·subst e
   have:=f.det t2
   subst this
   exact⟨d',n2,Ξ _⟩
  ·obtain⟨b,h,i⟩:=ih (by omega)
   exact⟨b,h,Î i n2.len⟩
inductive Rs
 |more|ends|Em (p:List Mv)
inductive Sr(a:YA)(s:YS)(most:Nat):Rs->Prop
 |now (h:aS a s=Δ):Sr a s most (.Em [])
 |more {n:Nat} {c:jp} {s':YS} {p:List Mv} (h0:aS a s=Ε) (h1:Tr a s n c) (h2:New a c s' p) (h3:c.L.length=most):Sr a s most .more
 |Em {n:Nat} {c:jp} {s':YS} {p:List Mv} (h0:aS a s=Ε) (h1:Tr a s n c) (h2:New a c s' p) (h3:aS a s'=Δ) (h4:c.L.length<most):Sr a s most (.Em p)
 |ends {n:Nat} {c:jp} (h0:aS a s=Ε) (h1:Tr a s n c) (h2:c.L.length<=c.i) (h3:c.L.length<=most):Sr a s most .ends
noncomputable def tN(n:Nat)(q:Int×Int):Lv (n+1):=([.inl (Β q.1),.inl (Β q.2)]:List (Option Int ⊕ Lv n))
noncomputable def ip(n:Nat)(qs:List (Int×Int)):Lv (n+2):=(qs.map λq=>ï (tN n q):List (Option Int ⊕ Lv (n+1)))
noncomputable def jN(n:Nat)(ln:bO):Lv (n+3):=([.inl (Β ln.r),.inl (Β ln.b),.inl ln.h,.inr (ip n ln.qs)]:List (Option Int ⊕ Lv (n+2)))
noncomputable def fT(n:Nat)(w:List Nat):Lv (n+1):=(w.map λ(k:Nat)=>Ï (Β (k:Int)):List (Option Int ⊕ Lv n))
noncomputable def kS(s:YS):Lv 5:=([.inr ((s.δ.map λln=>ï (jN 0 ln):List (Option Int ⊕ Lv 3)):Lv 4),.inr ((s.U.map λt=>ï (fT 2 t.Α):List (Option Int ⊕ Lv 3)):Lv 4),.inr ((s.ι.map λqs=>ï (ip 1 qs):List (Option Int ⊕ Lv 3)):Lv 4)]:List (Option Int ⊕ Lv 4))
theorem fJ{b c:Type}{f:b->c}(h:∀x y,f x=f y->x=y):∀{l a:List b},l.map f=a.map f->l=a
 |[],[],_=>rfl
 |[],_:: _,e=>by cases e
 |_:: _,[],e=>by cases e
 | x:: l,y:: a,e=>by
  rw[Ç,Ç]at e
  injection e with d g
  rw[h x y d,fJ h g]
theorem uU(h:tN n x=tN n y):x=y:=by
 unfold tN at h
 injection h with b a
 injection a with a _
 injection b with b
 injection b with b
 injection a with a
 injection a with a
 exact Prod.ext b a
theorem lq(h:ip n x=ip n y):x=y:=fJ (λa b e=>uU (by injection e)) h
theorem vj(h:jN n x=jN n y):x=y:=by
 unfold jN at h
 injection h with d a
 injection a with a e
 injection e with e c
 injection c with c _
 injection d with d
 injection d with d
 injection a with a
 injection a with a
 injection e with e
 injection c with c
 replace c:=lq c
 obtain⟨r,b,g,i⟩:=x
 obtain⟨j,l,f,m⟩:=y
 simp only at d a e c
 subst d a e c
 rfl
theorem vM(h:fT n x=fT n y):x=y:=fJ (f:=λ(k:Nat)=>(Ï (Β (k:Int)):Option Int ⊕ Lv n)) (λa b e=>by
 injection e with e
 injection e with e
 omega) h
theorem vL{x y:List bE}(h:(x.map λt=>fT n t.Α)=y.map λt=>fT n t.Α):x.map (·.Α)=y.map (·.Α):=by
 have e:∀z:List bE,(z.map λt=>fT n t.Α)=(z.map (·.Α)).map (fT n):=λz=>by rw[ê];rfl
 rw[e,e]at h
 exact fJ (λa b=>vM) h
theorem Dk:kS s=kS s'↔kq s=kq s':=by
 constructor
 ·intro h
  unfold kS at h
  injection h with f c
  injection c with c d
  injection d with d _
  injection f with f
  injection c with c
  injection d with d
  have i:=fJ (λa b e=>vj (by injection e)) f
  have j:=fJ (λa b e=>lq (by injection e)) d
  have e:∀z:List bE,(z.map λt=>(ï (fT 2 t.Α):Option Int ⊕ Lv 3))=(z.map (λt=>fT 2 t.Α)).map ï:=λz=>by rw[ê];rfl
  have g:=c
  rw[e,e]at g
  have l:=vL (fJ (λa b e=>by injection e) g)
  unfold kq
  rw[i,l,j]
 ·intro h
  unfold kq at h
  injection h with f c
  injection c with c d
  have e:∀z:List bE,(z.map λt=>(ï (fT 2 t.Α):Option Int ⊕ Lv 3))=(z.map (·.Α)).map λw=>ï (fT 2 w):=λz=>by rw[ê];rfl
  unfold kS
  rw[e,e,f,c,d]
theorem Paired.mapR{c:α->γ->Prop}{f:β->γ}(h:∀a b,R a b->c a (f b)):∀{as:List α}{bs:List β},Paired R as bs->Paired c as (bs.map f):=λd=>by
 induction d with
 |nil=>exact .nil
 |cons x r e=>exact .cons (h _ _ x) e
theorem uf(g:H t=Β (.tup vs))(h:Eu H vs qs):Ew (n+2) H (ip n qs) t:=⟨vs,g,Paired.mapR (λv q ⟨t,e,z⟩=>⟨t,e,_,z,.cons Λ (.cons Λ .nil)⟩) h⟩
theorem Sm(h:Option Int):hV h=si h:=by cases h<;>rfl
theorem yq(g:H t=Β (.tup [.int ln.r,.int ln.b,hV ln.h,.ref q]))(a:H q=Β (.tup Ep))(h:Eu H Ep ln.qs):Ew (n+3) H (jN n ln) t:=
 ⟨_,g,.cons Λ (.cons Λ (.cons (Sm _) (.cons ⟨q,Λ,uf a h⟩ .nil)))⟩
theorem lr:∀w:List Nat,Paired (λv (e:Option Int ⊕ Lv n)=>match e with|.inl o=>v=si o|.inr l=>∃c,v=.ref c/\Ew n H l c) (nV w) (w.map λ(k:Nat)=>Ï (Β (k:Int)))
 |[] =>.nil
 |_:: w =>.cons Λ (lr w)
theorem A0{w:List Nat}(g:H t=Β (.tup (nV w))):Ew (n+1) H (fT n w) t:=⟨_,g,lr w⟩
def KR(n:Nat)(H:Hp)(v:V)(k:Lv n):Prop:=∃c,v=.ref c/\Ew n H k c
theorem KR.same(s:DP H H')(h:KR n H v k):KR n H' v k:=by
 obtain⟨c,e,h⟩:=h
 exact⟨c,e,h.same s⟩
theorem yp(g:H t=Β (.tup vs))(h:Paired (KR n H) vs ks):Ew (n+1) H ((ks.map ï:List (Option Int ⊕ Lv n))) t:=⟨vs,g,Paired.mapR (f:=ï) (λv k h=>h) h⟩
def Ss(K:ϣ):List V->Hp->VK->Prop:=λxs H Q=>∃p ys,xs=[.ref p]/\((DS K H p ys/\∀l,H l=Γ->Q (.ref l) (π H l (.tup ys)))∨(DY K H p ys/\Q (.ref p) H))
theorem nN{R:Hp->V->α->Prop}(mono:∀{H b:Hp},DP H b->∀v a,R H v a->R b v a)(as:List α)(C:xs.length=as.length)(f:H p=Β (.ρ xs))(t:as.length<Χ)
  (u:∀(i:Nat)(x:V)(a:α)(c:Hp)(N:V->Hp->Prop),xs[i]?=Β x->as[i]?=Β a->DP H c->(∀v d,DP c d->R d v a->N v d)->g x σ0 c λj d=>te j d N)
  (z:∀D m c,DP H c->c D=Γ->Paired (R c) m as->Q (.ref D) (π c D (.ρ m))):e9 (yY K p) g pR te σ0 Q H:=by
 refine bQ as.length t (λi acc b=>DP H b/\Paired (R b) acc (as.take i)) ⟨DP.refl _,.nil⟩ (λi acc b h=>by rw[Paired.length h.2];exact Ą _ _) (λi acc b o h=>?_) (λacc b h=>?_)
 ·obtain⟨s,e⟩:=h
  have A:xs[i]?=Β (xs[i]'(by omega)):=Μ (by omega)
  refine⟨⟨xs,_,DS.of (s _ _ f),A⟩,λv d y=>?_⟩
  obtain⟨rfl,y⟩:=y
  have l:=y xs (DS.of (s _ _ f))
  refine u i v as[i] d (λy q=>DP H q/\Paired (R q) (acc++[y]) (as.take (i+1))) l (Μ o) s λv E r l=>⟨s.trans r,?_⟩
  rw[ß,Μ o]
  exact Paired.snoc l (Paired.mono (mono r) e)
 ·obtain⟨s,e⟩:=h
  rw[Þ]at e
  exact⟨⟨xs,DS.of (s _ _ f),by omega⟩,λD B=>z D acc b s B e⟩
noncomputable def YF(s:Ã):Scope:=match s with
 |.Assign _ (.ListComp _ _ sc _) _=>sc
 |_=>zQ0
noncomputable def YG(s:Ã):Scope:=match s with
 |.Return (Β (.Tuple [_,.Call _ [.ListComp _ _ sc _] _ _,_] _ _)) _=>sc
 |_=>zQ0
inductive wj(K:ϣ)(ys:Ys)(vs:List V)(H:Hp)(Q:VK)(E:XK):Prop
 |mk (a:YA) (s:YS) (_:vs=[.ref a.y]) (_:E8 K ys H a s) (_:s.δ.length<=900) (_:s.U.length<=900) (_:∀(t:Ν)(H':Hp),DP H H'->Ew 5 H' (kS s) t->Q (.ref t) H')
theorem MI:ar ["self","lanes"] ["self"] (aj rO):=L2.Ez
theorem D9:EV ["self","lanes"] (aj rO) (YF ((aJ rO).getD 0 (.Pass ⟨0,0,0,0⟩))) [] []:=L2.FH
theorem D8:EV ["self","lanes"] (aj rO) (YG ((aJ rO).getD 1 (.Pass ⟨0,0,0,0⟩))) [] []:=L2.FH
theorem CU:(["lane"]:List Str).Nodup:=by decide +kernel
theorem CT:(["letter"]:List Str).Nodup:=by decide +kernel
theorem C6(F:Et K "stand" "Yard.stand" rO f fd)(T:eK mg)(Y:jo K ys):DQ P w K mg ν aB 1 f fd ["self"] (wj K ys):=by
 refine F.ok MI λcdv A outer s0 H c Q E hr h=>?_
 obtain⟨a,s,rfl,hY,Jz,GX,q⟩:=h
 refine⟨_,ae (dB (i:=1) (own:=["lane"]) (capN:=[]) (cap:=[]) D9 Λ MI.nd Λ Λ (aV (ap (pv 0) Λ)) (λC s' X fp=>⟨ax (i:=0) CU Λ (ύ Λ),bX,
   bq (aa (show PE _ _ (kJ K (jQ 0) "rights") from ap (pv 0) Λ) (aa (show PE _ _ (kJ K (jQ 0) "returning") from ap (pv 0) Λ) (aa (show PE _ _ (kJ K (jQ 0) "holder") from ap (pv 0) Λ) (aa (aN (show du _ (.type "tuple") (Ss K) from aY) Λ T.tuple PySem.Pv.boot_tuple (aa (show PE _ _ (kJ K (jQ 0) "pieces") from ap (pv 0) Λ) ad)) ad))))⟩))
  (ah (au (bq (aa (aN aY Λ T.tuple PySem.Pv.boot_tuple (aa (pv 1) ad))
   (aa (aN aY Λ T.tuple PySem.Pv.boot_tuple (aa (b5 (own:=["letter"]) (capN:=[]) (cap:=[]) D8 Λ (aV (ap (pv 0) Λ)) (λC s' X fp=>⟨ax (i:=0) CT Λ (ύ Λ),bX,aN (show du _ (.type "tuple") (Ss K) from aY) Λ T.tuple PySem.Pv.boot_tuple (aa (show PE _ _ (kJ K (jQ 0) "way") from ap (pv 0) Λ) ad)⟩)) ad))
   (aa (aN aY Λ T.tuple PySem.Pv.boot_tuple (aa (ap (pv 0) Λ) ad)) ad)))))),?_⟩
 have ml:∀{n:Nat}{H X:Hp},DP H X->∀(v:V)(k:Lv n),KR n H v k->KR n X v k:=λs v k h=>h.same s
 obtain⟨Eb,EO,pl⟩:=hY.χ
 refine⟨a.y,ys.DR,a.dy,_,_,Λ,hY.ς,Y.cl,Y.n3,Λ,a.la,Λ,⟨_,DS.of EO⟩,?_⟩
 refine nN (R:=KR 3) ml (s.δ.map (jN 0)) (by rw[Ο];exact Paired.length pl) EO (by rw[Ο,ϗ];omega) (λi x k g N hx G s1 hN=>?_) (λL c g s1 hL pL=>?_)
 ·obtain⟨ln,Ej,j,l,pa,Ep,rfl,L,_⟩:=Paired.at pl hx
  rw[ϝ,Ej]at G
  cases G
  have m:=L.same s1
  refine⟨j,ys.Ek,l,_,_,Λ,m.ς,Y.L.cl,Y.L.n1,Λ,j,ys.Ek,l,_,_,Λ,m.ς,Y.L.cl,Y.L.n2,Λ,j,ys.Ek,l,_,_,Λ,m.ς,Y.L.cl,Y.L.n3,Λ,j,ys.Ek,l,_,_,Λ,m.ς,Y.L.cl,Y.L.n4,Λ,pa,Ep,Λ,.inl ⟨DS.of m.ρ,λt I=>⟨by show 4<=Χ;decide,λu hu=>?_⟩⟩⟩
  have Z:=(DP.refl g).new (o:=.tup Ep) I
  have p:=Z.new (o:=.tup [.int ln.r,.int ln.b,hV ln.h,.ref t]) hu
  exact hN _ _ p ⟨u,Λ,yq ac (by rw[af (ag ac hu)];exact ac) (Eu.same p m.Fc)⟩
 have Z:=s1.new (o:=.ρ c) hL
 have g2:(π g L (.ρ c)) L=Β (.ρ c):=ac
 have p2:Paired (KR 3 (π g L (.ρ c))) c (s.δ.map (jN 0)):=Paired.mono (λv k h=>h.same ((DP.refl g).new hL)) pL
 generalize π g L (.ρ c)=H2 at Z g2 p2⊢
 refine⟨L,c,Λ,.inl ⟨DS.of g2,λJ J7=>?_⟩⟩
 have p:=Z.new (o:=.tup c) J7
 have k1:=yp ac (Paired.mono (λv k h=>h.same ((DP.refl H2).new J7)) p2)
 generalize π H2 J (.tup c)=H3 at p k1⊢
 have GO:=Ec.same hY p
 obtain⟨DX,Fz,pt⟩:=GO.ω
 refine⟨a.y,ys.DR,a.dy,_,_,Λ,GO.ς,Y.cl,Y.n4,Λ,a.le,Λ,⟨_,DS.of Fz⟩,?_⟩
 refine nN (R:=KR 3) ml (s.U.map λt=>fT 2 t.Α) (by rw[Ο];exact Paired.length pt) Fz (by rw[Ο,ϗ];omega) (λi x k z N hx G s4 hN=>?_) (λD d z s4 hD pW=>?_)
 ·obtain⟨lt,El,j,l,wa,rfl,F1,hw,_⟩:=Paired.at pt hx
  rw[ϝ,El]at G
  cases G
  exact⟨j,ys.DU,l,_,_,Λ,s4 _ _ F1,Y.ct,Y.t6,Λ,wa,_,Λ,.inl ⟨DS.of (s4 _ _ hw),λt I=>hN _ _ ((DP.refl z).new I) ⟨t,Λ,A0 ac⟩⟩⟩
 have s5:=s4.new (o:=.ρ d) hD
 have g5:(π z D (.ρ d)) D=Β (.ρ d):=ac
 have p5:Paired (KR 3 (π z D (.ρ d))) d (s.U.map λt=>fT 2 t.Α):=Paired.mono (λv k h=>h.same ((DP.refl z).new hD)) pW
 generalize π z D (.ρ d)=H5 at s5 g5 p5⊢
 refine⟨D,d,Λ,.inl ⟨DS.of g5,λM GB=>?_⟩⟩
 have s6:=s5.new (o:=.tup d) GB
 have k2:=yp ac (Paired.mono (λv k h=>h.same ((DP.refl H5).new GB)) p5)
 generalize π H5 M (.tup d)=H6 at s6 k2⊢
 have MJ:=Ec.same GO s6
 obtain⟨B,Kq,ph⟩:=MJ.FQ
 refine⟨a.y,ys.DR,a.dy,_,_,Λ,MJ.ς,Y.cl,Y.n5,Λ,a.li,B,Λ,.inl ⟨DS.of Kq,λO YI=>?_⟩⟩
 have s7:=s6.new (o:=.tup B) YI
 have k3:Ew 4 (π H6 O (.tup B)) ((s.ι.map λqs=>ï (ip 1 qs):List (Option Int ⊕ Lv 3))) O:=⟨B,ac,Paired.mapR (f:=λqs=>ï (ip 1 qs)) (λv qs h=>by
  obtain⟨t,c,e,h1,h2⟩:=h
  exact⟨t,e,Ew.same ((DP.refl H6).new YI) (uf (n:=1) h1 h2)⟩) ph⟩
 have S:=(DP.refl H6).new (o:=.tup B) YI
 generalize π H6 O (.tup B)=H7 at s7 k3 S⊢
 refine⟨by show 3<=Χ;decide,λt I=>?_⟩
 have u:=(DP.refl H7).new (o:=.tup [.ref J,.ref M,.ref O]) I
 refine q t _ ((p.trans s7).trans u) ⟨_,ac,.cons ⟨J,Λ,?_⟩ (.cons ⟨M,Λ,?_⟩ (.cons ⟨O,Λ,k3.same u⟩ .nil))⟩
 ·have:=(k1.same s7).same u
  rw[ê]at this
  exact this
 ·have:=(k2.same S).same u
  rw[ê]at this
  exact this
end K69
namespace L2
open PySem PySem.Spec PyProof.Rows
theorem DQ.ex{K:ϣ}{e:Type}{d:e->Sp}(h:∀i,DQ P w K mg ν CX k f fd ps (d i)):DQ P w K mg ν CX k f fd ps (λb H Q E=>∃i,d i b H Q E):=
 ⟨λb H Q E c=>by obtain⟨i,q⟩:=c;exact(h i).len b H Q E q,λA a s H args us b Q E g j l m c=>by obtain⟨i,o⟩:=c;exact(h i).run A a s H args us b Q E g j l m o⟩
end L2
namespace K69
open PySem L2
variable {P:Program}{w:Ϭ}{K:ϣ}{mg:Str->Option Ρ}{ν:Ù}
structure Yg where
 a0:YA
 X:List Ν
 m:Nat
 A:Nat->YA
 S:Nat->YS
 j:Nat
def sS(K:ϣ)(c:Cs)(TC:Ν)(J:TJ)(ys:Ys)(H:Hp)(g:Yg):Prop:=g.j<g.m/\EN K c TC J ys g.a0 g.X g.m H g.A g.S
inductive p6(K:ϣ)(c:Cs)(TC:Ν)(J:TJ)(ys:Ys)(vs:List V)(H:Hp)(Q:VK)(_:XK):Prop
 |mk (g:Yg)(_:vs=[.ref (g.A g.j).y])(_:sS K c TC J ys H g)(_:∀(D:Ν)(En:List V)(H':Hp),DP H H'->H D=Γ->H' D=Β (.ρ En)->Paired (EY H') En ((aF g.a0 (g.S g.j)).map dA)->Q (.ref D) H')
inductive pz(K:ϣ)(c:Cs)(TC:Ν)(J:TJ)(ys:Ys)(vs:List V)(H:Hp)(Q:VK)(_:XK):Prop
 |mk (g:Yg)(_:vs=[.ref (g.A g.j).y])(_:sS K c TC J ys H g)(_:∀H',DP H H'->Q (.bl (aS g.a0 (g.S g.j))) H')
inductive Su(K:ϣ)(c:Cs)(TC:Ν)(J:TJ)(ys:Ys)(vs:List V)(H:Hp)(Q:VK)(_:XK):Prop
 |mk (g:Yg)(_:vs=[.ref (g.A g.j).y])(_:sS K c TC J ys H g)(_:∀(t:Ν)(H':Hp),DP H H'->Ew 5 H' (kS (g.S g.j)) t->Q (.ref t) H')
inductive B9(K:ϣ)(c:Cs)(TC:Ν)(J:TJ)(ys:Ys)(vs:List V)(H:Hp)(Q:VK)(_:XK):Prop
 |mk (g:Yg)(_:vs=[.ref (g.A g.j).y])(_:sS K c TC J ys H g)(_:∀(b:YA)(H':Hp),DP H H'->(∀z∈b.four,H z=Γ)->EN K c TC J ys g.a0 g.X (g.m+1) H' (Eo g.A g.m b) (Eo g.S g.m (core (g.S g.j)))->Q (.ref b.y) H')
inductive B7(K:ϣ)(c:Cs)(TC:Ν)(J:TJ)(ys:Ys)(vs:List V)(H:Hp)(Q:VK)(_:XK):Prop
 |mk (g:Yg)(_:vs=[.ref (g.A g.j).y])(_:sS K c TC J ys H g)(_:∀(b:YA)(H':Hp),DP H H'->(∀z∈b.four,H z=Γ)->EN K c TC J ys g.a0 g.X (g.m+1) H' (Eo g.A g.m b) (Eo g.S g.m (g.S g.j))->Q (.ref b.y) H')
inductive YJ(K:ϣ)(c:Cs)(TC:Ν)(J:TJ)(ys:Ys)(vs:List V)(H:Hp)(Q:VK)(_:XK):Prop
 |mk (g:Yg)(p:Ν)(mv:Mv)(_:vs=[.ref (g.A g.j).y,.ref p])(_:sS K c TC J ys H g)(_:H p=Β (.tup (dA mv)))(_:mv∈aF g.a0 (g.S g.j))(_:(g.S g.j).done.length<1000)(_:∀(H':Hp)(s':YS),ES g.a0 (g.S g.j) mv s'->Ee (g.A g.j).four H H'->EN K c TC J ys g.a0 g.X g.m H' g.A (mB g.S g.j {s' with done:=(g.S g.j).done++[dA mv]})->Q .Eg H')
section
variable {P:Program}{w:Ϭ}{K:ϣ}{mg:Str->Option Ρ}{ν:Ù}{c:Cs}{TC fw:Ν}{dw:Ñ}{J:TJ}{ys:Ys}
theorem AG(G:∀ex,DQ P w K mg ν aB n f fd ["self"] (iB K c TC J (yx ys ex))):DQ P w K mg ν aB n f fd ["self"] (p6 K c TC J ys):=
 (DQ.ex G).imp λr H Q E h=>by obtain⟨g,e,⟨a,b⟩,q⟩:=h;exact⟨_,g.A g.j,g.S g.j,e,b.RP a,λD i l m o p d=>q D i l m o p (by rw[l8 (b.E _ a).ps (b.E _ a).wy]at d;exact d)⟩
theorem vZ(b:a'.ps=a.ps)(d:a'.wy=a.wy):aS a' s=aS a s:=by unfold aS;rw[l8 b d]
theorem AF(G:∀ex,DQ P w K mg ν aB n f fd [p] (ow K c TC J (yx ys ex))):DQ P w K mg ν aB n f fd [p] (pz K c TC J ys):=
 (DQ.ex G).imp λl H Q E d=>by obtain⟨g,e,⟨a,b⟩,q⟩:=d;exact⟨_,g.A g.j,g.S g.j,e,b.RP a,λh i=>by rw[vZ (b.E _ a).ps (b.E _ a).wy];exact q h i⟩
theorem Sv(G:∀ex,DQ P w K mg ν aB n f fd ["self"] (wj K (yx ys ex))):DQ P w K mg ν aB n f fd ["self"] (Su K c TC J ys):=
 (DQ.ex G).imp λh H Q E d=>by obtain⟨g,e,⟨a,b⟩,q⟩:=d;exact⟨_,g.A g.j,g.S g.j,e,b.Y _ a,by have:=(b.J _ a).δ;have:=(b.J _ a).Ig;omega,by have:=(b.J _ a).E4;omega,q⟩
theorem EN.twn(a:EN K c TC J ys a0 X m H A S)(b:j<m):Yt K (yx ys (xx m A j++X)) H (A j) (S j):=by
 have:=a.J _ b
 have d:=this.δ
 have e:=this.Ig
 have f:=this.E4
 have g:=this.ι
 have h:=a.T.JL
 have i:=(a.E _ b).n
 have l:=a.N _ b
 exact⟨a.Y _ b,by rw[(a.E _ b).ps];exact a.R _ b,by omega,by omega,by omega,by omega⟩
theorem EN.cov{a0:YA}{H d:Hp}{S:Nat->YS}(f:E8 K (yx ys ((A j).four++(xx m A j++X))) d b s):E8 K (yx ys (Ba m A++X)) d b s:=
 E8.OP f (DP.refl _) λz a =>.inl (by
  rcases Ϣ.mp a with a|a
  ·obtain⟨k,g,a⟩:=HU.mp a
   by_cases e:k=j
   ·subst e;exact Ä _ a
   ·exact Ϩ _ (Ä _ (F0.mpr ⟨k,g,e,a⟩))
  ·exact Ϩ _ (Ϩ _ a))
theorem Dz(W:Wy K TC fw dw J)(G:∀ex,DQ P w K mg ν aB n f fd ["self"] (oB K c TC J (yx ys ex))):DQ P w K mg ν aB n f fd ["self"] (B9 K c TC J ys):=
 (DQ.ex G).imp λL H Q E ⟨g,e,⟨b,a⟩,q⟩=>⟨_,g.A g.j,g.S g.j,e,a.twn b,(a.RP b).T,λy l m o le p dn M N O r d U s t u v gr z B C D h F=>by
  have I:=sV (dn':=[]) (a.Y _ b) d s t u v gr z B C D .nil h F
  refine q ((g.A g.j).twin y l m o le p dn) r d h (EN.add W a d (EN.cov (a0:=g.a0) (H:=H) (S:=g.S) I) (((a.E _ b).twin y l m o le p dn).RO ((a.E _ b).Ve ((a.J _ b).done []))) ((a.E _ b).twin ..) (a.R _ b) (Ϧ _) h (λx i=>?_))
  obtain⟨xs,i⟩:=(a.Y _ b).hex x (Ϩ _ i)
  exact⟨_,i⟩⟩
theorem Dx(W:Wy K TC fw dw J)(G:∀ex,DQ P w K mg ν aB n f fd ["self"] (rE K c TC J (yx ys ex))):DQ P w K mg ν aB n f fd ["self"] (B7 K c TC J ys):=
 (DQ.ex G).imp λt H Q E ⟨g,e,⟨b,a⟩,q⟩=>⟨_,g.A g.j,g.S g.j,e,a.twn b,(a.RP b).T,λy h i l le m dn r o p s=>by
  refine q ((g.A g.j).twin y h i l le m dn) r o p (EN.add W a o (EN.cov (a0:=g.a0) (H:=H) (S:=g.S) s) (((a.E _ b).twin y h i l le m dn).RO ((a.E _ b).Ve (a.J _ b))) ((a.E _ b).twin ..) (a.R _ b) (a.N _ b) p (λx d=>?_))
  obtain⟨xs,d⟩:=(a.Y _ b).hex x (Ϩ _ d)
  exact⟨_,d⟩⟩
theorem YK(W:Wy K TC fw dw J)(G:∀ex,DQ P w K mg ν aB n f fd ["self","move"] (zm K c TC J (yx ys ex))):DQ P w K mg ν aB n f fd ["self","move"] (YJ K c TC J ys):=
 (DQ.ex G).imp λu H Q E ⟨g,p,d,e,⟨a,b⟩,l,m,v,q⟩=>⟨_,g.A g.j,g.S g.j,p,d,e,b.RP a,l,by rw[l8 (b.E _ a).ps (b.E _ a).wy];exact m,(b.J _ a).sml (by omega),λr i h o s=>by
  have t:=ES.to (b.E _ a).ps.symm (b.E _ a).wy.symm h
  refine q r i t o (EN.step W b a o s (((b.J _ a).step h).done _) h.rooms ?_)
  show((g.S g.j).done++[dA d]).length<=1000
  rw[Υ,ϙ];omega⟩
end
def OX(H:Hp)(v:V)(e:Option (Nat×Mv)):Prop:=match e with
 |none=>v=.Eg
 |some (k,m)=>∃t mt,v=.ref t/\H t=Β (.tup [.int (k:Int),.ref mt])/\H mt=Β (.tup (dA m))
structure OY(es:List (Option (Nat×Mv)))(ps:List (List Mv)):Prop where
 len:es.length=ps.length
 root:∀(i:Nat),es[i]?=Β Γ->ps[i]?=Β []
 step:∀(i k:Nat)(m:Mv),es[i]?=Β (Β (k,m))->∃p,k<i/\ps[k]?=Β p/\ps[i]?=Β (p++[m])
theorem OY.snoc(h:OY es ps){k:Nat}{m:Mv}{p:List Mv}(b:ps[k]?=Β p):OY (es++[Β (k,m)]) (ps++[p++[m]]):=by
 have c:=h.len
 have d:=(gQ0 b)
 refine⟨by rw[Υ,Υ,h.len];rfl,λi a=>?_,λi f g a=>?_⟩
 ·by_cases e:i<es.length
  ·rw[Ϙ e]at a
   rw[Ϙ (by omega)]
   exact h.root i a
  ·have:=(gQ0 a)
   rw[Υ,ϙ]at this
   obtain rfl:i=es.length:=by omega
   rw[È]at a
   cases a
 ·by_cases e:i<es.length
  ·rw[Ϙ e]at a
   obtain⟨q,j,l,o⟩:=h.step i f g a
   exact⟨q,j,by rw[Ϙ (by omega)];exact l,by rw[Ϙ (by omega)];exact o⟩
  ·have:=(gQ0 a)
   rw[Υ,ϙ]at this
   obtain rfl:i=es.length:=by omega
   rw[È]at a
   cases a
   refine⟨p,by omega,by rw[Ϙ d];exact b,?_⟩
   rw[c,È]
theorem YL:OY [Γ] [[]]:=by
 refine⟨Λ,λi a=>?_,λi k m a=>?_⟩
 ·have:=(gQ0 a)
  obtain rfl:i=0:=by simp at this;omega
  rfl
 ·have:=(gQ0 a)
  obtain rfl:i=0:=by simp at this;omega
  cases a
inductive wu(vs:List V)(H:Hp)(Q:VK)(E:XK):Prop
 |mk (St:Ν) (F9:List V) (es:List (Option (Nat×Mv))) (ps:List (List Mv)) (i:Nat) (p:List Mv) (_:vs=[.ref St,.int (i:Int)]) (_:H St=Β (.ρ F9)) (_:Paired (OX H) F9 es) (_:OY es ps) (_:ps[i]?=Β p) (_:es.length<=10000) (_:∀(D:Ν)(En:List V)(H':Hp),DP H H'->H D=Γ->H' D=Β (.ρ En)->Paired (EY H') En (p.map dA)->Q (.ref D) H')
theorem Paired.rev:∀{as:List α}{bs:List β},Paired R as bs->Paired R as.reverse bs.reverse
 |_,_,.nil =>.nil
 | _,_,.cons h r=>by
  rw[O9,O9]
  exact Paired.snoc h (Paired.rev r)
theorem LH:ar ["steps","number","back","step"] ["steps","number"] (aj wW):=L2.Ez
theorem zY(F:Et K "moves_to" "moves_to" wW f fd)(T:eK mg):DQ P w K mg ν aB 1 f fd ["steps","number"] wu:=by
 refine F.ok LH λcdv A L D H vs Q E hr h=>?_
 obtain⟨St,c,es,ps,i,p,rfl,R,S,G,U,hel,q⟩:=h
 refine⟨_,ae (av (i:=2) LH.nd Λ (ύ Λ) (aW ad))
  (ae (av (i:=3) LH.nd Λ (ύ Λ) (aD aR (pv 0) (pv 1) (λ_ _=>rfl)))
  (ae (ge Ϟ (az ku (pv 3) cz (aA _))
   (ae (aM (c8 plainAttrs_list PySem.F.slot_list_append PySem.F.type_list_append bD (pv 2) (aa (aD aH (pv 3) ai (λ_ _=>rfl)) ad)))
   (ah (av (i:=3) LH.nd Λ (ύ Λ) (aD aR (pv 0) (aD aH (pv 3) ai (λ_ _=>rfl)) (λ_ _=>rfl))))))
  (ah (au (mU Λ Λ T.list Λ T.rev (aa (pv 2) ad)))))),?_⟩
 refine⟨Ϧ _,λB X=>?_⟩
 have D:=(DP.refl H).new (o:=.ρ []) X
 have Y:(π H B (.ρ [])) B=Β (.ρ []):=ac
 generalize π H B (.ρ [])=H0 at D Y⊢
 have Hu:=(gQ0 U)
 have UM:c.length=ps.length:=by rw[Paired.length S,G.len]
 have Hl:=G.len
 have s:c[i]?=Β (c[i]'(by omega)):=Μ (by omega)
 refine⟨St,c,(i:Int),_,Λ,Λ,DS.of (D _ _ R),al s,λk Z d=>∃(v:V)(b:List Mv)(a:List V)(r:List Mv),DP H d/\d B=Β (.ρ a)/\Paired (EY d) a (b.map dA)/\c[k]?=Β v/\ps[k]?=Β r/\p=r++b.reverse/\b.length+k<=i/\Z=[Β (.ref St),Β (.int (i:Int)),Β (.ref B),Β v],
  ⟨i,_,[],[],p,D,Y,.nil,s,U,by rw[List.reverse_nil,Ę],by simp,Λ⟩,?_⟩
 rintro k Z l ⟨v,b,a,r,I,J,M,hv,u,ep,hbk,rfl⟩
 obtain⟨e,he,hS⟩:=Paired.at S hv
 refine⟨Λ,_,Λ,?_⟩
 have hbl:a.length=b.length:=by rw[Paired.length M,Ο]
 cases e with
 | none =>
  have UY:=hS
  subst UY
  refine aG ?_
  have:=G.root k he
  rw[u]at this
  cases this
  refine⟨B,a,Λ,DS.of J,λt N=>?_⟩
  refine q t _ _ (I.new N) (I.free N) ac ?_
  rw[ep,ic,List.map_reverse]
  exact Paired.mono (λv m z=>z.keep (DP.Ed ((DP.refl l).new N))) (Paired.rev M)
 | some x =>
  obtain⟨g,m⟩:=x
  obtain⟨t,j,rfl,h1,h2⟩:=hS
  obtain⟨O,FG,Sw,Vi⟩:=G.step k g m he
  rw[u]at Vi
  cases Vi
  refine aK ⟨λy d=>∃(v:V)(b:List Mv)(a:List V)(r:List Mv),DP H d/\d B=Β (.ρ a)/\Paired (EY d) a (b.map dA)/\c[g]?=Β v/\ps[g]?=Β r/\p=r++b.reverse/\b.length+g<=i/\y=[Β (.ref St),Β (.int (i:Int)),Β (.ref B),Β v],λy d h=>⟨g,FG,h⟩,?_⟩
  refine⟨.inl ⟨Λ,_,DS.of J⟩,t,_,(1:Int),_,Λ,Λ,DY.of (I _ _ h1),Λ,B,a,_,Λ,Λ,J,by rw[ϗ];omega,?_⟩
  have kk:E5 l (π l B (.ρ (a++[.ref j]))):=iX J
  have C:DP H (π l B (.ρ (a++[.ref j]))):=λb o e=>by rw[af (ag e X)];exact I _ _ e
  have g2:(π l B (.ρ (a++[.ref j]))) B=Β (.ρ (a++[.ref j])):=ac
  have p2:Paired (EY (π l B (.ρ (a++[.ref j])))) (a++[.ref j]) ((b++[m]).map dA):=by
   rw[ϯ]
   exact Paired.snoc ⟨j,Λ,C _ _ h2⟩ (Paired.mono (λv m z=>z.keep kk) M)
  generalize π l B (.ρ (a++[.ref j]))=H2 at C g2 p2⊢
  have Fe:=(gQ0 Sw)
  have FW:c[g]?=Β (c[g]'(by omega)):=Μ (by omega)
  exact⟨t,_,(0:Int),_,Λ,Λ,DY.of (C _ _ h1),Λ,St,c,(g:Int),_,Λ,Λ,DS.of (C _ _ R),al FW,_,b++[m],_,O,C,g2,p2,FW,Sw,by rw[ep,Lj,Č];rfl,by rw[Υ,ϙ];omega,Λ⟩
theorem hu8(r:DZ k A):A.units+8<í:=by have:=r.units;omega
def mH(H H':Hp):Prop:=∀b vs,H b=Β (.tup vs)->H' b=Β (.tup vs)
theorem Ew.tup(k:mH H H'):∀{n:Nat}{x:Lv n}{b:Ν},Ew n H x b->Ew n H' x b
 |0,_,_,h=>h.elim
 | n+1,_,_,⟨vs,e,p⟩=>⟨vs,k _ _ e,Paired.mono (λv x h=>by
  cases x with
  |inl o=>exact h
  |inr l=>obtain⟨c,e,h⟩:=h;exact⟨c,e,Ew.tup k h⟩) p⟩
theorem OX.tup(k:mH H H'){v:V}{e:Option (Nat×Mv)}(h:OX H v e):OX H' v e:=by
 cases e with
 |none=>exact h
 |some x=>obtain⟨t,a,e,b,c⟩:=h;exact⟨t,a,e,k _ _ b,k _ _ c⟩
theorem vR(s:DP H H'):mH H H':=λb a e=>s _ _ e
theorem sW(g:H x=Β (.ρ xs)):mH H (π H x u):=λb a e=>by rw[af (aT e g (by intro z;cases z))];exact e
theorem sX(g:H x=Β (.ext φ)):mH H (π H x u):=λb a e=>by rw[af (aT e g (by intro z;cases z))];exact e
theorem AS(h:s.done=[]):core s=s:=by
 obtain⟨r,l,t,i,d⟩:=s
 simp only at h
 subst h
 rfl
def YM(S:Nat->YS)(m:Nat)(k:Nat)(e:Ent):Prop:=k<m/\core (S k)=e.s
def Kn(kf:YS->Lv 5)(kvs:List dC)(L:List Ent):Prop:=kvs.length<=L.length/\∀x:YS,(∀e∈L,e.s.δ.length=x.δ.length/\e.s.U.length=x.U.length)->((dz kvs (kf x)).isSome=Δ↔∃e∈L,kq e.s=kq x)
structure KQ(P:Program)(w:Ϭ)(K:ϣ)(c:Cs)(TC:Ν)(J:TJ)(ys:Ys)(a0:YA)(H:Hp)(Ln St Sn:Ν)(m:Nat)(H':Hp)(A:Nat->YA)(S:Nat->YS)(ix:List Nat)(L:List Ent):Prop where
 s:DP H H'
 D:EN K c TC J ys a0 [St,Ln] m H' A S
 ln:H' Ln=Β (.ρ (ix.map λk =>.ref (A k).y))
 st:∃F9 es,H' St=Β (.ρ F9)/\Paired (OX H') F9 es/\OY es (L.map (·.p))
 dn:∃kvs,EJ P w H' Sn kvs/\Kn kS kvs L
 ix:Paired (YM S m) ix L
theorem Paired.Sy:∀{as:List α}{bs:List β},Paired R as bs->∀a∈as,∃b,R a b
 |_,_,.nil,_,h=>by cases h
 | _,_,.cons x r,a,h=>by
  rcases Ϯ.mp h with rfl|h
  ·exact⟨_,x⟩
  ·exact Paired.Sy r a h
section
variable {P:Program}{w:Ϭ}{K:ϣ}{c:Cs}{TC fw:Ν}{dw:Ñ}{J:TJ}{ys:Ys}{a0:YA}{H:Hp}{Ln St Sn:Ν}{m:Nat}{H1 H3:Hp}{A:Nat->YA}{S:Nat->YS}{ix:List Nat}{L:List Ent}
theorem KQ.turn(h:KQ P w K c TC J ys a0 H Ln St Sn m H1 A S ix L)(e:DP H1 H3)(f:EN K c TC J ys a0 [St,Ln] m' H3 A' S')(g:m<=m')(i:∀k,k<m->A' k=A k)(j:∀k,k<m->S' k=S k):KQ P w K c TC J ys a0 H Ln St Sn m' H3 A' S' ix L:=by
 refine⟨h.s.trans e,f,?_,?_,?_,Paired.mono (λk x z=>⟨Ϥ z.1 g,by rw[j k z.1];exact z.2⟩) h.ix⟩
 ·rw[e _ _ h.ln]
  congr 2
  refine ŗ λk l=>?_
  obtain⟨x,z,_⟩:=Paired.Sy h.ix k l
  rw[i k z]
 ·obtain⟨o,p,a,b,q⟩:=h.st
  exact⟨o,p,e _ _ a,Paired.mono (λv x z=>z.tup (vR e)) b,q⟩
 ·obtain⟨d,a,b⟩:=h.dn
  exact⟨d,a.same e,b⟩
theorem KQ.same(W:Wy K TC fw dw J)(h:KQ P w K c TC J ys a0 H Ln St Sn m H1 A S ix L)(e:DP H1 H3):KQ P w K c TC J ys a0 H Ln St Sn m H3 A S ix L:=h.turn e (h.D.same W e) (Ξ _) (λ_ _=>rfl) (λ_ _=>rfl)
end
theorem Dc(c:∀x y:YS,x.δ.length=y.δ.length->x.U.length=y.U.length->(kf x=kf y↔kq x=kq y))(h:Kn kf kvs L)(l:∀e∈L,e.s.δ.length=s'.δ.length/\e.s.U.length=s'.U.length):Kn kf (cM kvs (kf s') t v) (L++[⟨s',p⟩]):=by
 refine⟨?_,λx d=>?_⟩
 ·have:=iN (kvs:=kvs) (k:=kf s') (b:=t) (v:=v)
  have:=h.1
  rw[Υ,ϙ];omega
 ·have i:=λe j=>d e (Ä _ j)
  obtain⟨f,g⟩:=d ⟨s',p⟩ (Ϩ _ (Φ.mpr Λ))
  rw[uD]
  by_cases e:kf x=kf s'
  ·rw[Ι e]
   exact⟨λ_=>⟨⟨s',p⟩,Ϩ _ (Φ.mpr Λ),((c x s' f.symm g.symm).mp e).symm⟩,λ_=>rfl⟩
  ·rw[Θ e,h.2 x i]
   constructor
   ·rintro⟨y,a,z⟩
    exact⟨y,Ä _ a,z⟩
   ·rintro⟨y,a,z⟩
    rcases Ϣ.mp a with a|a
    ·exact⟨y,a,z⟩
    ·rw[Φ.mp a]at z
     exact Κ ((c x s' f.symm g.symm).mpr z.symm) e
theorem De(a:∀x y:YS,x.δ.length=y.δ.length->x.U.length=y.U.length->(kf x=kf y↔kq x=kq y)):Kn kf [(kf s',t,v)] [⟨s',p⟩]:=by
 refine⟨Ξ _,λx d=>?_⟩
 obtain⟨b,c⟩:=d ⟨s',p⟩ (Φ.mpr Λ)
 rw[cx]
 by_cases e:kf s'=kf x
 ·rw[Ι e]
  exact⟨λ_=>⟨_,Φ.mpr Λ,(a s' x b c).mp e⟩,λ_=>rfl⟩
 ·rw[Θ e]
  constructor
  ·intro z;cases z
  ·rintro⟨y,f,z⟩
   rw[Φ.mp f]at z
   exact Κ ((a s' x b c).mpr z) e
def MK(H0 H:Hp)(v:V):Rs->Prop
 |.more=>∃t,v=.ref t/\H0 t=Γ/\H t=Β (.tup [.str "more"])
 |.ends=>∃t,v=.ref t/\H0 t=Γ/\H t=Β (.tup [.str "ends"])
 |.Em p=>∃t D En,v=.ref t/\H0 t=Γ/\H t=Β (.tup [.str "still",.ref D])/\H0 D=Γ/\H D=Β (.ρ En)/\Paired (EY H) En (p.map dA)
inductive kQ(K:ϣ)(c:Cs)(TC:Ν)(J:TJ)(ys:Ys)(vs:List V)(H:Hp)(Q:VK)(E:XK):Prop
 |mk (a:YA) (s:YS) (most:Nat) (_:vs=[.ref a.y,.int (most:Int)]) (_:Ic K c TC J (yx ys []) H a s) (_:EG a s) (_:l5 a.ps.length s.rooms=Δ) (_:s.done.length<=900) (_:1<=most) (_:most<=900) (_:∀(v:V)(H':Hp)(r:Rs),DP H H'->Sr a s most r->MK H H' v r->Q v H')
structure SrM(P:Program)(w:Ϭ)(K:ϣ)(mg:Str->Option Ρ)(ν:Ù)(c:Cs)(TC:Ν)(J:TJ)(ys:Ys)(fm fb fd ft fs fv:Ν)(dm db dd dt ds dv:Ñ):Prop where
 mm:bW K ys.DR "moves" fm
 bm:Binds K dm ["self"] []
 Gm:DQ P w K mg ν aB 7 fm dm ["self"] (p6 K c TC J ys)
 mb:bW K ys.DR "bare_twin" fb
 bb:Binds K db ["self"] []
 Gb:DQ P w K mg ν aB 6 fb db ["self"] (B9 K c TC J ys)
 md:bW K ys.DR "do" fd
 bd:Binds K dd ["self","move"] []
 Gd:DQ P w K mg ν aB 8 fd dd ["self","move"] (YJ K c TC J ys)
 mt:bW K ys.DR "stand" ft
 bt:Binds K dt ["self"] []
 Gt:DQ P w K mg ν aB 1 ft dt ["self"] (Su K c TC J ys)
 ms:mg "still"=Β (.ref fs)
 ks:ϳ K (.ref fs)=Δ
 bs:Binds K ds ["yard"] []
 Gs:DQ P w K mg ν aB 8 fs ds ["yard"] (pz K c TC J ys)
 mv:mg "moves_to"=Β (.ref fv)
 kv:ϳ K (.ref fv)=Δ
 bv:Binds K dv ["steps","number"] []
 Gv:DQ P w K mg ν aB 1 fv dv ["steps","number"] wu
def WI(P:Program)(w:Ϭ)(K:ϣ)(c:Cs)(TC:Ν)(J:TJ)(ys:Ys)(a:YA)(s:YS)(most:Nat)(H:Hp)(Ln St Sn:Ν)(i:Nat):L2.St->Hp->Prop:=λσ H'=>∃(n m:Nat)(B:Nat->YA)(S:Nat->YS)(ix:List Nat)(L:List Ent)(a6 a7 a8 a9:Option V),Tr a s n ⟨L,i,0⟩/\L.length<=most/\(∀e∈L,e.s.δ.length=s.δ.length/\e.s.U.length=s.U.length)/\KQ P w K c TC J ys a H Ln St Sn m H' B S ix L/\
 σ=[Β (.ref a.y),Β (.int (most:Int)),Β (.ref Ln),Β (.ref St),Β (.ref Sn),Β (.int (i:Int)),a6,a7,a8,a9]
def FI(P:Program)(w:Ϭ)(K:ϣ)(c:Cs)(TC:Ν)(J:TJ)(ys:Ys)(a:YA)(s:YS)(most:Nat)(H:Hp)(Ln St Sn:Ν)(i:Nat)(Bk:YA)(Sk:YS)(k:Nat)(Dm:Ν)(En:List V)(j:Nat):L2.St->Hp->Prop:=λσ H'=>∃(n m:Nat)(B:Nat->YA)(S:Nat->YS)(ix:List Nat)(L:List Ent)(a7 a8 a9:Option V),Tr a s n ⟨L,i,j⟩/\L.length<=most/\(∀e∈L,e.s.δ.length=s.δ.length/\e.s.U.length=s.U.length)/\KQ P w K c TC J ys a H Ln St Sn m H' B S ix L/\ix[i]?=Β k/\B k=Bk/\core (S k)=core Sk/\H' Dm=Β (.ρ En)/\Paired (EY H') En ((aF a Sk).map dA)/\
 σ=[Β (.ref a.y),Β (.int (most:Int)),Β (.ref Ln),Β (.ref St),Β (.ref Sn),Β (.int (i:Int)),Β (.ref Bk.y),a7,a8,a9]
abbrev NSr:List Str:=["yard","most","line","steps","seen","looked_at","here","move","other","stand"]
theorem GQ:ar NSr ["yard","most"] (aj oF):=L2.Ez
theorem uZ(F:Et K "search" "search" oF f f')(T:eK mg)(Y:jo K ys)(W:Wy K TC fw dw J)(M:SrM P w K mg ν c TC J ys fm fb fd ft fs fv dm db dd dt ds dv):
  DQ P w K mg ν aB 9 f f' ["yard","most"] (kQ K c TC J ys):=by
 refine F.ok GQ λcdv A outer s0 H vs Q E hr h=>?_
 obtain⟨a,s,most,rfl,hI,hJ,hR,Fw,OM,hm9,q⟩:=h
 have hu:=hu8 hr
 have EF:DZ 1 _:=hr.mono (by decide)
 have RC:DZ 6 _:=hr.mono (by decide)
 have II:DZ 7 _:=hr.mono (by decide)
 refine⟨_,(ae (aO (bH (aq M.Gs hr Λ M.ms M.ks M.bs .nil ao (aa (pv 0) ad)))
   (ah (au (bq (aa bR (aa (aW ad) ad)))))
   aE)
  (ae (av (i:=2) GQ.nd Λ (ύ Λ) (aW (aa (pv 0) ad)))
  (ae (av (i:=3) GQ.nd Λ (ύ Λ) (aW (aa cz ad)))
  (ae (av (i:=4) GQ.nd Λ (ύ Λ) (show PE _ _ (vX P w _ _) from xv hu (aQ (pv 0) Y.cl M.mt M.Gt EF M.bt .nil ao) jH))
  (ae (av (i:=5) GQ.nd Λ (ύ Λ) ai)
  (ae (ge Ϟ (az jI (pv 5) (ay aw Λ T.len PySem.boot_len (aa (pv 2) ad)) (aA _))
   (ae (av (i:=6) GQ.nd Λ (ύ Λ) (aD aR (pv 2) (pv 5) (λ_ _=>rfl)))
  (ae (bz Ϟ Λ (aV (aQ (pv 6) Y.cl M.mm M.Gm II M.bm .nil ao)) (ax (i:=7) GQ.nd Λ (ύ Λ))
   (ae (av (i:=8) GQ.nd Λ (ύ Λ) (aQ (pv 6) Y.cl M.mb M.Gb RC M.bb .nil ao))
  (ae (aM (aI (pv 8) Y.cl M.md M.Gd hr M.bd .nil ao (aa (pv 7) ad)))
  (ae (av (i:=9) GQ.nd Λ (ύ Λ) (aQ (pv 8) Y.cl M.mt M.Gt EF M.bt .nil ao))
  (ah (aO (jt (sf hu (pv 9) (pv 4)))
   (ae (aO (az bT (ay aw Λ T.len PySem.boot_len (aa (pv 2) ad)) (pv 1) (aA _))
   (ah (au (bq (aa bR ad))))
   aE)
  (ae (show PS _ _ (wU P w _ _ _) from xo hu (pv 4) (pv 9) jH Λ)
  (ae (aM (c8 plainAttrs_list PySem.F.slot_list_append PySem.F.type_list_append bD (pv 2) (aa (pv 8) ad)))
  (ae (aM (c8 plainAttrs_list PySem.F.slot_list_append PySem.F.type_list_append bD (pv 3) (aa (bq (aa (pv 5) (aa (pv 7) ad))) ad)))
  (ah (aO (bH (aq M.Gs hr Λ M.ms M.ks M.bs .nil ao (aa (pv 8) ad)))
   (ah (au (bq (aa bR (aa (aq M.Gv EF Λ M.mv M.kv M.bv .nil ao (aa (pv 3) (aa (aC dX (ay aw Λ T.len PySem.boot_len (aa (pv 3) ad)) ai) ad))) ad)))))
   aE))))))
   aE))))))
  (ah (se (i:=5) GQ.nd Λ (ύ Λ) ai sF)))))
  (ah (au (bq (aa bR ad)))))))))),?_⟩
 have YN:=EN.one hI hJ hR (by omega) (λz _ h=>by cases h)
 have OB:∀x y:YS,x.δ.length=y.δ.length->x.U.length=y.U.length->(kS x=kS y↔kq x=kq y):=λx y _ _=>Dk
 refine⟨⟨a,[],1,λ_=>a,λ_=>s,0⟩,Λ,⟨Ĕ,YN⟩,λH1 s1=>⟨_,Λ,?_⟩⟩
 dsimp only
 cases Ib:aS a s with
 | true =>
  refine aK ⟨Ϧ _,λD hD=>⟨by show 2<=Χ;decide,λt ht=>?_⟩⟩
  have s2:=s1.new (o:=.ρ []) hD
  exact q _ _ (.Em []) (s2.new ht) (.now Ib) ⟨t,D,[],Λ,s2.free ht,ac,s1.free hD,by rw[af (ag ac ht)];exact ac,.nil⟩
 |false =>
 refine aG ?_
 refine⟨by show 1<=Χ;decide,λC HP=>?_⟩
 have s2:=s1.new (o:=.ρ [.ref a.y]) HP
 have u2:=(DP.refl H1).new (o:=.ρ [.ref a.y]) HP
 have g2:(π H1 C (.ρ [.ref a.y])) C=Β (.ρ [.ref a.y]):=ac
 have FP:=EN.grow W (YN.same W s1) u2 HP g2
 show cO 2 (V.ref C) _ (π H1 C (.ρ [.ref a.y])) _
 generalize π H1 C (.ρ [.ref a.y])=H2 at s2 u2 g2 FP⊢
 refine⟨by show 1<=Χ;decide,λSt Ij=>?_⟩
 have s3:=s2.new (o:=.ρ [.Eg]) Ij
 have u3:=(DP.refl H2).new (o:=.ρ [.Eg]) Ij
 have g3:(π H2 St (.ρ [.Eg])) St=Β (.ρ [.Eg]):=ac
 have Sz:=EN.grow W FP u3 Ij g3
 show cO 3 (V.ref St) _ (π H2 St (.ρ [.Eg])) _
 generalize π H2 St (.ρ [.Eg])=H3 at s3 u3 g3 Sz⊢
 have nLS:C≠St:=ag g2 Ij
 have YO:H C=Γ:=s1.free HP
 have YQ:H St=Γ:=s2.free Ij
 intro l NR
 have s4:=s3.new (o:=cv P w l []) NR
 have u4:=(DP.refl H3).new (o:=cv P w l []) NR
 have g4:(π H3 l (cv P w l [])) l=Β (cv P w l []):=ac
 have J8:=Sz.same W u4
 generalize π H3 l (cv P w l [])=H4 at s4 u4 g4 J8⊢
 have S0:H l=Γ:=s3.free NR
 refine⟨a.y,a.dy,_,Λ,(J8.Y 0 (by decide)).ς,Λ,⟨a,[St,C],1,λ_=>a,λ_=>s,0⟩,Λ,⟨Ĕ,J8⟩,λt H5 r kt=>⟨kS s,t,Λ,r _ _ g4,kt,?_⟩⟩
 have J9:=J8.same W r
 have g5:=r _ _ g4
 have x5:H5 l=Β (.ext (m6 P w l [])):=g5
 have s6:DP H (π H5 l (cv P w l [(kS s,t,.bl Δ)])):=λb o e=>by rw[af (ag e S0)];exact r _ _ (s4 _ _ e)
 have S3:=EN.ext J9 (u:=cv P w l [(kS s,t,.bl Δ)]) x5 (EL.keep W hI.T (DP.Ed s6))
 have R:KQ P w K c TC J ys a H C St l 1 (π H5 l (cv P w l [(kS s,t,.bl Δ)])) (λ_=>a) (λ_=>s) [0] [⟨core s,[]⟩]:=by
  have gl:H5 C=Β (.ρ [.ref a.y]):=r _ _ (u4 _ _ (u3 _ _ g2))
  have gs:H5 St=Β (.ρ [.Eg]):=r _ _ (u4 _ _ g3)
  refine⟨s6,S3,by rw[af (aT gl x5 (by intro z;cases z))];exact gl,⟨[.Eg],[Γ],by rw[af (aT gs x5 (by intro z;cases z))];exact gs,.cons Λ .nil,YL⟩,⟨_,⟨ac,λx hx=>?_⟩,De (s':=core s) OB⟩,.cons ⟨by decide,Λ⟩ .nil⟩
  rw[Φ.mp hx]
  exact Ew.tup (sX x5) kt
 show cO 4 (V.ref l) _ (π H5 l (cv P w l [(kS s,t,.bl Δ)])) _
 generalize π H5 l (cv P w l [(kS s,t,.bl Δ)])=H6 at s6 R⊢
 clear S3 J9 J8 Sz FP g2 g3 g4 g5 x5 s2 s3 s4 u2 u3 u4 r kt HP Ij NR
 show vV _ _ _ _ _
 refine⟨λk σ H'=>∃i,k=most+1 - i/\WI P w K c TC J ys a s most H C St l i σ H',⟨_,0,Λ,0,1,_,_,_,_,Γ,Γ,Γ,Γ,.nil,OM,(λe he=>by rw[Φ.mp he];exact⟨Λ,Λ⟩),R,Λ⟩,?_⟩
 clear R s6
 rintro k σ H1 ⟨i,rfl,n,m,B,S,ix,L,a6,a7,a8,a9,hTr,hLm,YR,hS,rfl⟩
 have Hu:ix.length=L.length:=Paired.length hS.ix
 refine⟨C,_,Λ,.inl (DS.of hS.ln),_,_,Λ,Λ,_,Λ,?_⟩
 rw[Ο,Hu]
 by_cases El:i<L.length
 rotate_left
 ·rw[Η (by omega)]
  refine aG ⟨by show 1<=Χ;decide,λt ht=>?_⟩
  exact q _ _ .ends (hS.s.new ht) (.ends Ib hTr (by show L.length<=i;omega) hLm) ⟨t,Λ,hS.s.free ht,ac⟩
 rw[Ζ (by omega)]
 refine aK ⟨WI P w K c TC J ys a s most H C St l (i+1),λσ' H' h=>⟨most+1 - (i+1),by omega,i+1,Λ,h⟩,?_⟩
 obtain⟨k,hk,hkm,hce⟩:=Paired.at2 hS.ix (Μ El)
 have hvk:(ix.map λk=>V.ref (B k).y)[i]?=Β (.ref (B k).y):=by rw[ϝ,hk];rfl
 refine⟨C,_,(i:Int),_,Λ,Λ,DS.of hS.ln,al hvk,?_⟩
 refine⟨(B k).y,(B k).dy,_,Λ,(hS.D.Y k hkm).ς,Λ,⟨a,[St,C],m,B,S,k⟩,Λ,⟨hkm,hS.D⟩,λDm En H2 s2 OZ JS pM=>⟨Dm,Λ,⟨_,DS.of JS⟩,?_⟩⟩
 dsimp only at pM
 obtain⟨nD1,nD2,nD3⟩:Dm≠C/\Dm≠St/\Dm≠l:=by
  obtain⟨F9,es,g,_⟩:=hS.st
  obtain⟨G,g',_⟩:=hS.dn
  exact⟨ϛ (ag hS.ln OZ),ϛ (ag g OZ),ϛ (ag g'.1 OZ)⟩
 have L7:En.length=(aF a (S k)).length:=by rw[Paired.length pM,Ο]
 refine bV (K:=K) (a:=Dm) (xs:=En) (FI P w K c TC J ys a s most H C St l i (B k) (S k) k Dm En) ⟨n,m,B,S,ix,L,_,_,_,hTr,hLm,YR,hS.same W s2,hk,Λ,Λ,JS,pM,Λ⟩ (λj σ H' _ DT=>by obtain⟨_,_,_,_,_,_,_,_,_,_,_,_,_,_,_,_,g,_⟩:=DT;exact DS.of g) ?_ ?_
 rotate_left
 ·rintro σ H3 ⟨n',d,B',I,X,Z,b7,b8,b9,JA,NS,GC,Ju,FG,hB,HC,S4,YT,rfl⟩
  obtain⟨e',O,LI,IJ⟩:=Paired.at Ju.ix FG
  refine⟨_,_,Λ,Λ,n'+1,d,B',I,X,Z,_,_,_,_,.snoc JA (.next O ?_),NS,GC,Ju,Λ⟩
  rw[←IJ,HC,iu,L7]
 rintro j v σ H3 hv ⟨n',d,B',I,X,Z,b7,b8,b9,JA,NS,GC,Ju,FG,hB,HC,S4,YT,rfl⟩
 obtain⟨e',O,LI,IJ⟩:=Paired.at Ju.ix FG
 obtain⟨mvv,Nj,mt,rfl,gmt⟩:=Paired.at YT hv
 rw[ϝ]at Nj
 cases N:(aF a (S k))[j]? with
 |none=>rw[N]at Nj;cases Nj
 |some mv =>
 rw[N]at Nj
 cases Nj
 have YU:aF a e'.s=aF a (S k):=by rw[←IJ,HC,iu]
 rw[←YU]at N
 have S5:=(Ju.D.Y k LI).ς
 rw[hB]at S5
 refine⟨(B k).y,_,_,Λ,S5,Λ,⟨a,[St,C],d,B',I,k⟩,congrArg (λz:YA=>[V.ref z.y]) hB.symm,⟨LI,Ju.D⟩,λb H4 s4 fr J8=>?_⟩
 dsimp only at J8
 have YV:=(J8.Y d (by omega)).ς
 rw[aZ]at YV
 refine⟨b.y,_,_,Λ,YV,Λ,⟨a,[St,C],d+1,Eo B' d b,Eo I d (core (I k)),d⟩,mt,mv,congrArg (λz:YA=>[V.ref z.y,V.ref mt]) (aZ B' d b).symm,⟨by show d<d+1;omega,J8⟩,s4 _ _ gmt,?_,?_,?_⟩
 ·show mv∈aF a (Eo I d (core (I k)) d)
  rw[aZ,IJ]
  exact Ϗ N
 ·show(Eo I d (core (I k)) d).done.length<1000
  rw[aZ]
  show 0<1000
  decide
 intro H5 r JB o5 J9
 dsimp only at JB o5 J9
 rw[aZ,IJ]at JB
 rw[aZ]at o5
 have hd0:r.done=[]:=by rw[JB.done,←IJ];rfl
 have Vj:DP H3 H5:=iF s4 o5 fr
 have Pa:=Ju.turn Vj J9 (by omega) (λk hk=>jn hk) (λk hk=>by rw[iE (by omega),jn hk])
 rw[aZ]at J9 Pa
 have hcr:core (mB (Eo I d (core (I k))) d {r with done:=(core (I k)).done++[dA mv]} d)=r:=by
  rw[dE]
  exact AS hd0
 have ML:kS (mB (Eo I d (core (I k))) d {r with done:=(core (I k)).done++[dA mv]} d)=kS r:=by
  rw[dE]
  rfl
 have UM:aS a (mB (Eo I d (core (I k))) d {r with done:=(core (I k)).done++[dA mv]} d)=aS a r:=by
  rw[dE]
  rfl
 have NU:=(J9.Y d (by omega)).ς
 rw[aZ]at NU
 have Jh:∀e∈Z,e.s.δ.length=r.δ.length/\e.s.U.length=r.U.length:=by
  have j1:=(J9.J d (by omega)).δ
  rw[aZ,dE]at j1
  have j1:r.δ.length=b.ps.length:=j1
  have j2:=(J9.E d (by omega)).ps
  rw[aZ]at j2
  have j3:=JB.len
  have j4:=hJ.δ
  obtain⟨q1,q2⟩:=GC e' (Ϗ O)
  intro e he
  obtain⟨q3,q4⟩:=GC e he
  exact⟨by rw[q3,j1,j2,j4],by rw[q4,j3,q2]⟩
 generalize mB (Eo I d (core (I k))) d {r with done:=(core (I k)).done++[dA mv]}=S2 at J9 Pa hcr ML UM
 have Vk:Eo B' d b d=b:=aZ ..
 have NV:Eo B' d b k=B' k:=jn LI
 generalize Eo B' d b=B2 at J9 Pa Vk NV
 have hkm2:k<d+1:=by omega
 have Gq:core (S2 k)=core (S k):=by
  obtain⟨e2,JI,_,YW⟩:=Paired.at Pa.ix FG
  rw[O]at JI
  cases JI
  rw[YW,←IJ,HC]
 clear J8 YV o5 fr s4
 refine⟨b.y,_,_,Λ,NU,Λ,⟨a,[St,C],d+1,B2,S2,d⟩,congrArg (λz:YA=>[V.ref z.y]) Vk.symm,⟨by show d<d+1;omega,J9⟩,λt H6 s6 kt=>?_⟩
 dsimp only at kt
 rw[ML]at kt
 have R:=Pa.same W s6
 have S9:=s6 _ _ (Vj _ _ S4)
 have pM6:Paired (EY H6) En ((aF a (S k)).map dA):=Paired.mono (λv x z=>z.keep (DP.Ed (Vj.trans s6))) YT
 have YX:=s6 _ _ (Vj _ _ gmt)
 clear Pa J9 NU
 obtain⟨G,LJ,Pb⟩:=R.dn
 refine⟨l,_,Λ,⟨G,kS r,t,LJ,Λ,kt,Λ⟩,_,Λ,?_⟩
 cases Ky:(dz G (kS r)).isSome with
 | true =>
  refine aG ?_
  obtain⟨x,hx,YY⟩:=(Pb.2 r Jh).mp Ky
  exact⟨n'+1,d+1,B2,S2,X,Z,_,_,_,.snoc JA (.skip O N JB ⟨x,hx,YY⟩),NS,GC,R,FG,by rw[NV,hB],Gq,S9,pM6,Λ⟩
 |false =>
 have YZ:New a ⟨Z,i,j⟩ r (e'.p++[mv]):=⟨e',mv,O,N,JB,(λx hx YY=>by rw[(Pb.2 r Jh).mpr ⟨x,hx,YY⟩]at Ky;exact Bool.noConfusion Ky),Λ⟩
 have SA:X.length=Z.length:=Paired.length R.ix
 refine aK ?_
 refine⟨C,_,Λ,.inl (DS.of R.ln),Λ,_,Λ,?_⟩
 rw[bZ,Ο,SA]
 by_cases Je:Z.length=most
 ·rw[Ζ (by omega)]
  refine aK ⟨by show 1<=Χ;decide,λt2 GB=>?_⟩
  exact q _ _ .more (R.s.new GB) (.more Ib JA YZ Je) ⟨t2,Λ,R.s.free GB,ac⟩
 rw[Η (by omega)]
 refine aG ?_
 have Fe:=Pb.1
 refine⟨l,G,kS r,t,Λ,LJ,Λ,kt,by rw[ϗ];omega,?_⟩
 have x6:H6 l=Β (.ext (m6 P w l G)):=LJ.1
 have s7:DP H (π H6 l (cv P w l (cM G (kS r) t (.bl Δ)))):=λb o e=>by rw[af (ag e S0)];exact R.s _ _ e
 have Za:=EN.ext R.D (u:=cv P w l (cM G (kS r) t (.bl Δ))) x6 (EL.keep W hI.T (DP.Ed s7))
 have k7:mH H6 (π H6 l (cv P w l (cM G (kS r) t (.bl Δ)))):=sX x6
 have l7:∀b xs,H6 b=Β (.ρ xs)->(π H6 l (cv P w l (cM G (kS r) t (.bl Δ)))) b=Β (.ρ xs):=λb xs e=>by rw[af (aT e x6 (by intro z;cases z))];exact e
 have Kz:EJ P w (π H6 l (cv P w l (cM G (kS r) t (.bl Δ)))) l (cM G (kS r) t (.bl Δ)):=⟨ac,rZ (F:=λk b=>Ew 5 _ k b) (λx hx=>Ew.tup k7 (LJ.2 x hx)) (Ew.tup k7 kt)⟩
 generalize π H6 l (cv P w l (cM G (kS r) t (.bl Δ)))=H7 at s7 Za k7 l7 Kz⊢
 obtain⟨F9,es,gst,pst,hP⟩:=R.st
 have Pc:=l7 _ _ R.ln
 have Zb:F9.length=Z.length:=by rw[Paired.length pst,hP.len,Ο]
 refine⟨.inl ⟨Λ,_,DS.of Pc⟩,C,_,_,Λ,Λ,Pc,by rw[Ο,SA,ϗ];omega,?_⟩
 have Zc:=Za.put W (zs:=X.map (λk=>V.ref (B2 k).y)++[.ref b.y]) (show C∈[St,C] by simp) Pc
 have k8:mH H7 (π H7 C (.ρ (X.map (λk=>V.ref (B2 k).y)++[.ref b.y]))):=sW Pc
 have s8:DP H (π H7 C (.ρ (X.map (λk=>V.ref (B2 k).y)++[.ref b.y]))):=λb o e=>by rw[af (ag e YO)];exact s7 _ _ e
 have Vl:(π H7 C (.ρ (X.map (λk=>V.ref (B2 k).y)++[.ref b.y]))) St=Β (.ρ F9):=by rw[af (ϛ nLS)];exact l7 _ _ gst
 have Zd:(π H7 C (.ρ (X.map (λk=>V.ref (B2 k).y)++[.ref b.y]))) Dm=Β (.ρ En):=by rw[af nD1];exact l7 _ _ S9
 have x7:H7 l=Β (.ext (m6 P w l (cM G (kS r) t (.bl Δ)))):=Kz.1
 have LK:EJ P w (π H7 C (.ρ (X.map (λk=>V.ref (B2 k).y)++[.ref b.y]))) l (cM G (kS r) t (.bl Δ)):=⟨by rw[af (aT x7 Pc (by intro z;cases z))];exact Kz.1,λx hx=>Ew.tup k8 (Kz.2 x hx)⟩
 have Ze:(π H7 C (.ρ (X.map (λk=>V.ref (B2 k).y)++[.ref b.y]))) C=Β (.ρ (X.map (λk=>V.ref (B2 k).y)++[.ref b.y])):=ac
 have Zf:mH H6 (π H7 C (.ρ (X.map (λk=>V.ref (B2 k).y)++[.ref b.y]))):=λb vs e=>k8 _ _ (k7 _ _ e)
 generalize π H7 C (.ρ (X.map (λk=>V.ref (B2 k).y)++[.ref b.y]))=H8 at Zc k8 s8 Vl Zd LK Ze Zf⊢
 refine⟨.inl ⟨Λ,_,DS.of Vl⟩,by show 2<=Χ;decide,λu hu=>?_⟩
 have u9:=(DP.refl H8).new (o:=.tup [.int (i:Int),.ref mt]) hu
 have gu:(π H8 u (.tup [.int (i:Int),.ref mt])) u=Β (.tup [.int (i:Int),.ref mt]):=ac
 have Zg:=Zc.same W u9
 generalize π H8 u (.tup [.int (i:Int),.ref mt])=H9 at u9 gu Zg⊢
 have SD:=u9 _ _ Vl
 refine⟨St,F9,_,Λ,Λ,SD,by rw[Zb,ϗ];omega,?_⟩
 have k9:mH H9 (π H9 St (.ρ (F9++[.ref u]))):=sW SD
 have Vm:mH H6 (π H9 St (.ρ (F9++[.ref u]))):=λb vs e=>k9 _ _ (u9 _ _ (Zf _ _ e))
 have x9:H9 l=Β (.ext (m6 P w l (cM G (kS r) t (.bl Δ)))):=u9 _ _ LK.1
 have OW:KQ P w K c TC J ys a H C St l (d+1) (π H9 St (.ρ (F9++[.ref u]))) B2 S2 (X++[d]) (Z++[⟨r,e'.p++[mv]⟩]):=by
  refine⟨λb o e=>by rw[af (ag e YQ)];exact u9 _ _ (s8 _ _ e),Zg.put W (by simp) SD,?_,⟨F9++[.ref u],es++[Β (i,mv)],ac,?_,?_⟩,⟨_,⟨?_,λx hx=>Ew.tup k9 ((LK.same u9).2 x hx)⟩,Dc OB Pb Jh⟩,Paired.snoc ⟨by omega,hcr⟩ R.ix⟩
  ·rw[af nLS,u9 _ _ Ze,ϯ]
   show _=Β (HO.ρ (_++[V.ref (B2 d).y]))
   rw[Vk]
  ·exact Paired.snoc (show OX _ _ (Β (i,mv)) from ⟨u,mt,Λ,k9 _ _ gu,Vm _ _ YX⟩) (Paired.mono (λv x z=>z.tup Vm) pst)
  ·rw[ϯ]
   exact hP.snoc (k:=i) (m:=mv) (by rw[ϝ,O];rfl)
  ·rw[af (aT x9 SD (by intro z;cases z))];exact x9
 have dm0:(π H9 St (.ρ (F9++[.ref u]))) Dm=Β (.ρ En):=by rw[af nD2];exact u9 _ _ Zd
 have pM0:Paired (EY (π H9 St (.ρ (F9++[.ref u])))) En ((aF a (S k)).map dA):=Paired.mono (λv x DT=>by obtain⟨t,e,h⟩:=DT;exact⟨t,e,Vm _ _ h⟩) pM6
 generalize π H9 St (.ρ (F9++[.ref u]))=KJ at OW dm0 pM0⊢
 clear Zg Zc Za R LK Kz Vm Zf k7 k8 k9 x9 x7 x6 SD Vl Ze Pc l7 u9 s8 s7 Zd
 have G0:(Z++[(⟨r,e'.p++[mv]⟩:Ent)]).length=Z.length+1:=by rw[Υ];rfl
 have SE:∀e∈Z++[(⟨r,e'.p++[mv]⟩:Ent)],e.s.δ.length=s.δ.length/\e.s.U.length=s.U.length:=λe he=>by
  rcases Ϣ.mp he with he|he
  ·exact GC e he
  ·rw[Φ.mp he]
   have q1:=GC e' (Ϗ O)
   have q2:=Jh e' (Ϗ O)
   exact⟨q2.1.symm.trans q1.1,q2.2.symm.trans q1.2⟩
 have hbi0:=OW.D.Y d (by omega)
 refine⟨⟨a,[St,C],d+1,B2,S2,d⟩,congrArg (λz:YA=>[V.ref z.y]) Vk.symm,⟨by show d<d+1;omega,OW.D⟩,λSF Zh=>⟨_,Λ,?_⟩⟩
 dsimp only
 rw[UM]
 have LL:=OW.same W Zh
 cases SG:aS a r with
 | false =>
  exact aG ⟨n'+1,d+1,B2,S2,X++[d],_,_,_,_,.snoc JA (.new YZ SG),by omega,SE,LL,by rw[Ϙ (gQ0 FG)];exact FG,by rw[NV,hB],Gq,Zh _ _ dm0,Paired.mono (λv x z=>z.keep (DP.Ed Zh)) pM0,Λ⟩
 | true =>
  obtain⟨Zi,es2,gs2,ps2,Zj⟩:=LL.st
  have hsv:Zi.length=Z.length+1:=by rw[Paired.length ps2,Zj.len,Ο,G0]
  have hes:es2.length=Z.length+1:=by rw[Zj.len,Ο,G0]
  refine aK ⟨St,Zi,Λ,.inl (DS.of gs2),_,_,Λ,Λ,St,Zi,es2,_,Z.length,e'.p++[mv],congrArg (λz=>[V.ref St,V.int z]) (by omega),gs2,ps2,Zj,?_,by omega,λD K0 Pe Rt Zk SH Zl=>⟨by show 2<=Χ;decide,λt2 GB=>?_⟩⟩
  ·rw[ϯ,ø (by rw[Ο];exact Ξ _),Ο,Nat.sub_self]
   rfl
  ·have sA:=LL.s.trans Rt
   exact q _ _ (.Em _) (sA.new GB) (.Em Ib JA YZ SG (by show Z.length<most;omega)) ⟨t2,D,K0,Λ,sA.free GB,ac,LL.s.free Zk,by rw[af (ag SH GB)];exact SH,Paired.mono (λv x z=>z.keep (DP.Ed ((DP.refl Pe).new GB))) Zl⟩
noncomputable def kz:Scope:=zQ0
abbrev mI:=Hp->Ν->(cC->Nat)->Prop
inductive rD(J:mI)(vs:List V)(H:Hp)(Q:VK)(E:XK):Prop
 |mk (x:Ν) (wy:cC->Nat) (r:Rw) (_:vs=[.ref x,.int r.p,.int r.g,cV r.c]) (_:J H x wy) (_:∀H' D,DP H H'->H' D=Γ->Q (.ref D) (π H' D (.ρ (yg (wy (bB r))))))
structure yZ(K:ϣ)(C fw:Ν)(dw:Ñ)(J:mI):Prop where
 cl:GV K C
 m:bW K C "ways" fw
 b:Binds K dw ["self","place","goal","came"] []
 inst:∀H x wy,J H x wy->∃dx fs,H x=Β (.ς C dx fs)/\fs.lookup ("ways":Str)=Γ
 EU:∀H H' x wy,J H x wy->DP H H'->J H' x wy
noncomputable def pG(P:Program)(w:Ϭ)(ts:Ts):mI:=λH x wy=>∃(dx de:Ν)(lv:V)(kvs:List L2.Ent),H x=Β (.ς ts.told dx [("land",lv),("entries",.ref de)])/\EE P w H de kvs/\∀k,(dM kvs k).getD (.int 0)=.int (wy k)/\wy k<2^400
theorem uH(G:DQ P w K mg ν aB 3 f fd ["self","place","goal","came"] (ou P w ts)):DQ P w K mg ν aB 3 f fd ["self","place","goal","came"] (rD (pG P w ts)):=
 G.imp λl H Q E c=>by obtain⟨x,wy,r,e,⟨d,g,h,a,i,j,b⟩,q⟩:=c;exact⟨x,d,g,h,a,r,wy (bB r),e,i,j,(b _).1,(b _).2,q⟩
abbrev Key:=Int×Int×Option Nat
noncomputable def Zm(k:Key):cC:=[Β k.1,Β k.2.1,k.2.2.map λz:Nat=>(z:Int)]
abbrev As:=List (Nat×Option Nat)
noncomputable def addW(l:Option Nat)(a:As)(ws:List Nat):As:=ws.foldl (λa x=>if x∈a.map (·.1) then a else a++[(x,l)]) a
noncomputable def iI(on:Nat->List Nat):Nat->As->Nat->As
 |0,a,_=>a
 | f+1,a,i=>match a[i]? with
  |some x=>iI on f (addW (Β x.1) a (on x.1)) (i+1)
  |none=>a
structure GG(L:Nat)(a:As):Prop where
 nd:(a.map (·.1)).Nodup
 lt:∀x∈a,x.1<L
theorem iT:∀(n:Nat)(l:List Nat),l.Nodup->(∀x∈l,x<n)->l.length<=n
 | 0,l,_,h=>by
  cases l with
  |nil=>exact Ξ _
  |cons x l=>exact Κ (h x ϟ) (ī _)
 | n+1,l,hn,h=>by
  by_cases b:n∈l
  ·have e:=Hg b
   have:=iT n (l.erase n) (hn.erase n) λx a=>by
    have c:=(hn.mem_erase_iff).mp a
    have:=h x c.2
    have:=c.1
    omega
   omega
  ·have:=iT n l hn λx a=>by
    have:=h x a
    have:x≠n:=λz=>b (by rw[←z];exact a)
    omega
   omega
theorem GG.E4(h:GG L a):a.length<=L:=by
 have:=iT L (a.map (·.1)) h.nd λx b=>by
  obtain⟨y,c,rfl⟩:=Õ.mp b
  exact h.lt y c
 rwa [Ο]at this
theorem GG.add(h:GG L a)(e:x<L)(f:x∉a.map (·.1)):GG L (a++[(x,l)]) where
 nd:=by
  rw[ϯ,ı]
  refine⟨h.nd,by simp,λy b c d=>?_⟩
  have d:c=x:=by simpa using d
  intro z
  rw[z,d]at b
  exact f b
 lt:=λy b=>by
  rcases Ϣ.mp b with b|b
  ·exact h.lt y b
  ·rw[Φ.mp b];exact e
theorem yS(l:Option Nat)(a:As):addW l a []=a:=rfl
theorem nY(l:Option Nat)(a:As)(b:List Nat)(x:Nat):addW l a (b++[x])=if x∈(addW l a b).map (·.1) then addW l a b else addW l a b++[(x,l)]:=by
 unfold addW
 rw[Ŏ];rfl
theorem qi(h:a[i]?=Γ):∀f,iI on f a i=a
 |0=>rfl
 |f+1=>by unfold iI;rw[h]
theorem mS(h:a[i]?=Β x):iI on (f+1) a i=iI on f (addW (Β x.1) a (on x.1)) (i+1):=by
 rw[iI,h]
noncomputable def wl(wy:cC->Nat)(k:cC):List Nat:=Yd.Iw (wy k) (Ó ((wy k:Nat):Int))
theorem Ax(wy:cC->Nat)(k:cC):yg (wy k)=nV (wl wy k):=rfl
noncomputable def dN(wy:cC->Nat)(ps:List (Int×Int))(g l:Nat):List Nat:=if (ps.getD l (0,0)).2=(g:Int) then [] else wl wy [Β (ps.getD l (0,0)).2,Β (g:Int),Β (l:Int)]
noncomputable def bJ(wy:cC->Nat)(g m:Nat):List Nat:=(ό m).flatMap λp:Nat=>wl wy [Β (p:Int),Β (g:Int),Γ]
theorem lS(wy:cC->Nat)(g m:Nat):bJ wy g (m+1)=bJ wy g m++wl wy [Β (m:Int),Β (g:Int),Γ]:=by
 unfold bJ
 rw[ĩ,Kd];simp
structure Fi(c:Cs)(C:Ν)(J:mI)(H:Hp)(x lx Eh lt:Ν)(n:Nat)(DX:List V)(ps:List (Int×Int))(wy:cC->Nat):Prop where
 j:J H x wy
 i:∃dx fs,H x=Β (.ς C dx fs)/\fs.lookup ("land":Str)=Β (.ref lx)
 l:eR H c lx Eh lt (n:Int) DX ps
 JL:n<=12
 E4:ps.length<=40
 ok:∀k,∀z∈wl wy k,z<ps.length
 nr:∀k,(wl wy k).length<=40
theorem Fi.same(W:yZ K C fw dw J)(h:Fi c C J H x lx Eh lt n DX ps wy)(s:DP H H'):Fi c C J H' x lx Eh lt n DX ps wy:=
 ⟨W.EU _ _ _ _ h.j s,let ⟨dx,fs,h1,h2⟩:=h.i;⟨dx,fs,s _ _ h1,h2⟩,⟨s _ _ h.l.1,s _ _ h.l.2.1,Eu.same s h.l.2.2⟩,h.JL,h.E4,h.ok,h.nr⟩
inductive zk(c:Cs)(C:Ν)(J:mI)(vs:List V)(H:Hp)(Q:VK)(E:XK):Prop
 |mk (x lx Eh lt:Ν) (n:Nat) (DX:List V) (ps:List (Int×Int)) (wy:cC->Nat) (l g:Nat) (_:vs=[.ref x,.int l,.int g]) (_:Fi c C J H x lx Eh lt n DX ps wy) (_:l<ps.length) (_:∀(D:Ν)(H':Hp),DP H H'->H D=Γ->H' D=Β (.ρ (nV (dN wy ps g l)))->Q (.ref D) H')
inductive tF(c:Cs)(C:Ν)(J:mI)(vs:List V)(H:Hp)(Q:VK)(E:XK):Prop
 |mk (x lx Eh lt:Ν) (n:Nat) (DX:List V) (ps:List (Int×Int)) (wy:cC->Nat) (g:Nat) (_:vs=[.ref x,.int g]) (_:Fi c C J H x lx Eh lt n DX ps wy) (_:∀(D:Ν)(H':Hp),DP H H'->H D=Γ->H' D=Β (.ρ (nV (bJ wy g n)))->Q (.ref D) H')
theorem SI(F:Et K "onward" "onward" UL f fd)(L:rp K c)(W:yZ K C fw dw J)(B:Ea K C "land")(G:DQ P w K mg ν aB 3 fw dw ["self","place","goal","came"] (rD J))
  (M:vG K c fe de) (I:DQ P w K mg ν aB 1 fe de ["self","lane"] (uK c ç)):DQ P w K mg ν aB 4 f fd ["table","lane","goal"] (zk c C J):=by
 refine F.ok LA λ_ _ _ s H _ Q E u h=>?_
 obtain⟨x,v,y,lt,n,N,ps,wy,l,g,rfl,a,O,q⟩:=h
 have R:DZ 1 _:=u.mono (by decide)
 refine⟨_,ae (av (i:=3) LA.nd Λ (ύ Λ) (aI (ap (pv 0) Λ) L.cl M.m I R M.b .nil ao (aa (pv 1) ad)))
  (ah (au (dG (az bT (pv 3) (pv 2) (aA _)) (aW ad) (aI (pv 0) W.cl W.m G u W.b .nil ao (aa (pv 3) (aa (pv 2) (aa (pv 1) ad))))))),?_⟩
 obtain⟨z,fs,p,S⟩:=a.i
 obtain⟨Z,LY,e,T⟩:=W.inst _ _ _ a.j
 rw[p]at e
 injection e with e
 injection e with _ U X
 subst U X
 have r:=Μ O
 have Y:ps.getD l (0,0)=ps[l]:=by rw[Ω,r];rfl
 unfold dN at q
 rw[Y]at q
 generalize ps[l]=t at r q
 refine⟨x,C,z,fs,_,Λ,p,W.cl,B,S,v,y,_,Λ,a.l.1,Λ,v,y,lt,(n:Int),N,ps,l,t,Λ,a.l,r,Λ,_,Λ,?_⟩
 rw[bZ]
 by_cases o:t.2=(g:Int)
 ·rw[Ζ o]
  rw[Ι o]at q
  exact aK ⟨Ϧ _,λD d=>q D _ ((DP.refl H).new d) d ac⟩
 ·rw[Η o]
  rw[Θ o]at q
  exact aG ⟨x,z,fs,Λ,p,T,x,wy,⟨t.2,(g:Int),Β l,[]⟩,Λ,a.j,λH' D A d=>q D _ (A.new d) (A.free d) ac⟩
theorem NW:ar ["table","goal","found","place"] ["table","goal"] (aj rU):=L2.Ez
theorem xO(F:Et K "first_lanes" "first_lanes" rU f fd)(T:eK mg)(L:rp K c)(W:yZ K C fw dw J)(O:Ea K C "land")(R:DQ P w K mg ν aB 3 fw dw ["self","place","goal","came"] (rD J)):
  DQ P w K mg ν aB 4 f fd ["table","goal"] (tF c C J):=by
 refine F.ok NW λ_ _ _ s H _ Q E S h=>?_
 obtain⟨x,U,X,lt,n,DX,ps,wy,g,rfl,a,q⟩:=h
 refine⟨_,ae (av (i:=2) NW.nd Λ (ύ Λ) (aW ad))
  (ae (bz Ϟ Λ (bL Λ T.range (aa (ap (ap (pv 0) Λ) Λ) ad)) (ax (i:=3) NW.nd Λ (ύ Λ))
   (ah (aM (c8 plainAttrs_list slot_list_extend type_list_extend eZ (pv 2) (aa (aI (pv 0) W.cl W.m R S W.b .nil ao (aa (pv 3) (aa (pv 1) (aa cz ad)))) ad)))))
  (ah (au (pv 2)))),?_⟩
 obtain⟨I,fs,v,Y⟩:=a.i
 obtain⟨Iq,LY,r,Z⟩:=W.inst _ _ _ a.j
 rw[v]at r
 injection r with r
 injection r with _ e1 e2
 subst e1 e2
 have hn:=a.JL
 refine⟨Ϧ _,λD y=>?_⟩
 have z:=(DP.refl H).new (o:=.ρ []) y
 refine⟨x,C,I,fs,_,Λ,z _ _ v,W.cl,O,Y,U,c.land,X,_,_,Λ,z _ _ a.l.1,L.cl,L.np,Λ,(n:Int),Λ,by omega,by omega,?_⟩
 rw[ϋ]
 refine cT (n:=n) (λi A d=>∃B:Option V,DP H d/\d D=Β (.ρ (nV (bJ wy g i)))/\(bJ wy g i).length<=40* i/\A=[Β (.ref x),Β (.int g),Β (.ref D),B])
  ⟨Γ,z,ac,Ϧ _,Λ⟩ ?_ ?_
 ·rintro i A d hi ⟨B,p,t,hl,rfl⟩
  rw[ĥ]
  refine⟨.inl ⟨Λ,_,DS.of t⟩,x,I,fs,Λ,p _ _ v,Z,x,wy,⟨(i:Int),(g:Int),Γ,[]⟩,Λ,W.EU _ _ _ _ a.j p,λM u s3 Sz=>?_⟩
  have hk:bB ⟨(i:Int),(g:Int),Γ,[]⟩=[Β (i:Int),Β (g:Int),Γ]:=rfl
  rw[hk,Ax]
  have G:=s3.new (o:=.ρ (nV (wl wy [Β (i:Int),Β (g:Int),Γ]))) Sz
  have N:(π M u (.ρ (nV (wl wy [Β (i:Int),Β (g:Int),Γ])))) u=Β (.ρ (nV (wl wy [Β (i:Int),Β (g:Int),Γ]))):=ac
  generalize π M u (.ρ (nV (wl wy [Β (i:Int),Β (g:Int),Γ])))=H4 at G N⊢
  have hw:=a.nr [Β (i:Int),Β (g:Int),Γ]
  refine⟨D,u,_,_,Λ,Λ,G _ _ t,N,by rw[ϗ,aU,aU];omega,_,λb o e=>by rw[af (ag e y)];exact G _ _ (p _ _ e),by rw[ac,lS,ir],by rw[lS,Υ];omega,Λ⟩
 ·rintro A d ⟨B,p,t,hl,rfl⟩
  exact(q D d p y t)
noncomputable def oV:Option Nat->V
 |some l =>.int (l:Int)
 |none =>.Eg
noncomputable def ak(x:Nat×Option Nat):L2.Key×V:=(Ï (x.1:Int),oV x.2)
theorem pE(p:Nat):∀a:As,(cU (a.map ak) (Ï (p:Int))).isSome=decide (p∈a.map (·.1))
 |[]=>rfl
 | x:: a=>by
  have c:=pE p a
  rw[Ç]
  by_cases h:x.1=p
  ·rw[fV (show(ak x).1=Ï (p:Int) by rw[←h];rfl),Ζ (by rw[Ç,h];exact ϟ)];rfl
  ·rw[fW (λz=>h (by have:=HD z;omega)),c,Ç]
   by_cases b:p∈a.map (·.1)
   ·rw[Ζ b,Ζ (ϧ _ b)]
   ·rw[Η b,Η λz=>(Ϯ.mp z).elim (λe=>h e.symm) b]
theorem tJ{a:As}{x:Nat}(h:x∉a.map (·.1)):eV (a.map ak) (Ï (x:Int)) (oV c)=(a++[(x,c)]).map ak:=by
 have b:cU (a.map ak) (Ï (x:Int))=Γ:=by
  have:=pE x a
  rw[Η h]at this
  exact Option.not_isSome_iff_eq_none.mp (by rw[this];decide)
 rw[ql _ b,ϯ];rfl
theorem zF{a:As}{x:Nat}(b:∀y∈a,y.2=Γ)(h:x∈a.map (·.1)):eV (a.map ak) (Ï (x:Int)) .Eg=a.map ak:=by
 unfold eV
 rw[i7,pE,Ζ h,Ι Λ,ê]
 refine ŗ λy c=>?_
 show(if (ak y).1=Ï (x:Int) then ((ak y).1,V.Eg) else ak y)=ak y
 split
 ·unfold ak;rw[b y c];rfl
 ·rfl
theorem rj:∀(c:List Nat)(a:As),(∀y∈a,y.2=Γ)->∀y∈addW Γ a c,y.2=Γ
 |[],a,h=>h
 | x:: c,a,h=>by
  show ∀y∈addW Γ (if x∈a.map (·.1) then a else a++[(x,Γ)]) c,y.2=Γ
  refine rj c _ ?_
  split
  ·exact h
  ·intro y b
   rcases Ϣ.mp b with b|b
   ·exact h y b
   ·rw[Φ.mp b]
theorem GG.addW:∀(b:List Nat){a:As},GG L a->(∀x∈b,x<L)->GG L (K69.addW l a b)
 |[],a,h,_=>h
 | x:: b,a,h,hw=>by
  show GG L (K69.addW l (if x∈a.map (·.1) then a else a++[(x,l)]) b)
  refine GG.addW b ?_ λy c=>hw y (ϧ _ c)
  split
  ·exact h
  ·exact h.add (hw x ϟ) (by assumption)
noncomputable def bN(wy:cC->Nat)(ps:List (Int×Int))(n g:Nat):As:=iI (dN wy ps g) ps.length (addW Γ [] (bJ wy g n)) 0
inductive tH(c:Cs)(C:Ν)(J:mI)(vs:List V)(H:Hp)(Q:VK)(E:XK):Prop
 |mk (x lx Eh lt:Ν) (n:Nat) (DX:List V) (ps:List (Int×Int)) (wy:cC->Nat) (g:Nat) (_:vs=[.ref x,.int g]) (_:Fi c C J H x lx Eh lt n DX ps wy) (_:∀(D:Ν)(H':Hp),DP H H'->H D=Γ->GG ps.length (bN wy ps n g)->H' D=Β (.dK ((bN wy ps n g).map ak))->Q (.ref D) H')
abbrev NAh:List Str:=["table","goal","ahead","lane","line","looked_at","way"]
theorem HV:ar NAh ["table","goal"] (aj rY):=L2.Ez
theorem xT(F:Et K "lanes_ahead" "lanes_ahead" rY f fd)(T:eK mg)(W:yZ K C fw dw J)
  (mf:mg "first_lanes"=Β (.ref ff)) (kf:ϳ K (.ref ff)=Δ) (bf:Binds K df ["table","goal"] []) (Gf:DQ P w K mg ν aB 4 ff df ["table","goal"] (tF c C J))
  (mo:mg "onward"=Β (.ref fo)) (ko:ϳ K (.ref fo)=Δ) (bo:Binds K KS ["table","lane","goal"] []) (Go:DQ P w K mg ν aB 4 fo KS ["table","lane","goal"] (zk c C J)):
  DQ P w K mg ν aB 5 f fd ["table","goal"] (tH c C J):=by
 refine F.ok HV λ_ _ _ s H _ Q E hr h=>?_
 obtain⟨x,lx,Eh,lt,n,DX,ps,wy,g,rfl,hT,q⟩:=h
 have hu:=yw hr
 have h40:=hT.E4
 refine⟨_,ae (av (i:=2) HV.nd Λ (ύ Λ) lm)
  (ae (bz Ϟ Λ (aV (aq Gf hr Λ mf kf bf .nil ao (aa (pv 0) (aa (pv 1) ad)))) (ax (i:=3) HV.nd Λ (ύ Λ))
   (ah (oM hu (pv 2) (pv 3) cz Λ)))
  (ae (av (i:=4) HV.nd Λ (ύ Λ) (aN (lW Λ) Λ T.list PySem.Pv.boot_list (aa (pv 2) ad)))
  (ae (av (i:=5) HV.nd Λ (ύ Λ) ai)
  (ae (ge Ϟ (az jI (pv 5) (ay aw Λ T.len PySem.boot_len (aa (pv 4) ad)) (aA _))
   (ae (av (i:=3) HV.nd Λ (ύ Λ) (aD aR (pv 4) (pv 5) (λ_ _=>rfl)))
   (ae (se (i:=5) HV.nd Λ (ύ Λ) ai sF)
   (ah (bz Ϟ Λ (aV (aq Go hr Λ mo ko bo .nil ao (aa (pv 0) (aa (pv 3) (aa (pv 1) ad))))) (ax (i:=6) HV.nd Λ (ύ Λ))
    (ah (aO (jt (gJ hu (pv 6) (pv 2)))
     (ae (oM hu (pv 2) (pv 6) (pv 3) Λ)
     (ah (aM (c8 plainAttrs_list PySem.F.slot_list_append PySem.F.type_list_append bD (pv 4) (aa (pv 6) ad))))) aE)))))))
  (ah (au (pv 2))))))),?_⟩
 refine λd LM=>?_
 have s0:=(DP.refl H).new (o:=.dK []) LM
 have Zn:(π H d (.dK [])) d=Β (.dK ([].map ak)):=ac
 generalize π H d (.dK [])=H0 at s0 Zn⊢
 refine⟨x,lx,Eh,lt,n,DX,ps,wy,g,Λ,hT.same W s0,λFl H1 s1 hFl gFl=>⟨Fl,Λ,⟨_,DS.of gFl⟩,?_⟩⟩
 have gf1:=s1 _ _ Zn
 have nFf:=ϛ (ag Zn hFl)
 have UZ:∀z∈bJ wy g n,z<ps.length:=λz D=>by
  obtain⟨p,_,D⟩:=Ć.mp D
  exact hT.ok _ z D
 refine bV (K:=K) (a:=Fl) (xs:=nV (bJ wy g n)) (λi u M=>∃a3:Option V,DP H M/\M Fl=Β (.ρ (nV (bJ wy g n)))/\M d=Β (.dK ((addW Γ [] ((bJ wy g n).take i)).map ak))/\u=[Β (.ref x),Β (.int g),Β (.ref d),a3,Γ,Γ,Γ])
  ⟨Γ,s0.trans s1,gFl,gf1,Λ⟩ (λi u M _ DT=>by obtain⟨_,_,g2,_⟩:=DT;exact DS.of g2) ?_ ?_
 ·rintro i v u M B ⟨a3,s2,g2,R,rfl⟩
  have hi:i<(bJ wy g n).length:=by have:=(gQ0 B);rw[aU]at this;exact this
  have j:=Μ hi
  have FW:=cZ j
  rw[FW]at B
  have B:=Ψ B
  subst B
  generalize (bJ wy g n)[i]=l at j
  have Y:GG ps.length (addW Γ [] ((bJ wy g n).take i)):=GG.addW _ ⟨by simp,λy G=>by cases G⟩ λz D=>UZ z (ì D)
  have FE:=Y.E4
  have Zo:=rj ((bJ wy g n).take i) [] λy G=>by cases G
  have SJ:=nY Γ [] ((bJ wy g n).take i) l
  have Kb:(bJ wy g n).take (i+1)=(bJ wy g n).take i++[l]:=by rw[ß,j];rfl
  refine⟨d,_,Λ,IB.k (k:=Ï (l:Int)) R (by rw[ϗ,Ο];omega),_,λb o e=>by rw[af (ag e LM)];exact s2 _ _ e,by rw[af nFf];exact g2,?_,Λ⟩
  rw[ac,Kb,SJ]
  by_cases Z:l∈(addW Γ [] ((bJ wy g n).take i)).map (·.1)
  ·rw[Ι Z,zF Zo Z]
  ·rw[Θ Z]
   exact congrArg (λz=>Β (HO.dK z)) (tJ (c:=Γ) Z)
 rintro u M ⟨a3,s2,g2,R,rfl⟩
 rw[aU,Þ]at R
 have hA0:GG ps.length (addW Γ [] (bJ wy g n)):=GG.addW _ ⟨by simp,λy G=>by cases G⟩ UZ
 have Lr:bN wy ps n g=iI (dN wy ps g) (ps.length - 0) (addW Γ [] (bJ wy g n)) 0:=rfl
 generalize addW Γ [] (bJ wy g n)=N at R hA0 Lr
 refine⟨d,_,Λ,.inl R,λr Ej=>?_⟩
 have el:(N.map ak).map (λp=>kV p.1)=nV (N.map (·.1)):=by
  unfold nV
  rw[ê,ê];rfl
 rw[el]
 have s3:=s2.new (o:=.ρ (nV (N.map (·.1)))) Ej
 have Zp:=s2.free Ej
 have gl:(π M r (.ρ (nV (N.map (·.1))))) r=Β (.ρ (nV (N.map (·.1)))):=ac
 have SK:(π M r (.ρ (nV (N.map (·.1))))) d=Β (.dK (N.map ak)):=by rw[af (ag R Ej)];exact R
 generalize π M r (.ρ (nV (N.map (·.1))))=H3 at s3 gl SK⊢
 refine⟨λm u O=>∃(a:As)(i:Nat)(b3 I:Option V),m=ps.length - i/\GG ps.length a/\i<=a.length/\bN wy ps n g=iI (dN wy ps g) (ps.length - i) a i/\DP H O/\O d=Β (.dK (a.map ak))/\O r=Β (.ρ (nV (a.map (·.1))))/\u=[Β (.ref x),Β (.int g),Β (.ref d),b3,Β (.ref r),Β (.int (i:Nat)),I],
  ⟨ps.length - 0,N,0,_,_,Λ,hA0,Ϧ _,Lr,s3,SK,gl,Λ⟩,?_⟩
 rintro m u H4 ⟨a,i,b3,I,rfl,Y,hile,FK,s4,Vn,SM,rfl⟩
 have FE:=Y.E4
 refine⟨r,_,Λ,.inl (DS.of SM),_,_,Λ,Λ,_,Λ,?_⟩
 by_cases hi:i<a.length
 rotate_left
 ·have e:i=a.length:=by omega
  subst e
  rw[Η (by rw[aU,Ο];omega)]
  rw[qi (Í (Ξ _))]at FK
  exact aG (q d H4 s4 LM (by rw[FK];exact Y) (by rw[FK];exact Vn))
 rw[Ζ (by rw[aU,Ο];omega)]
 have G:=Μ hi
 generalize a[i]=lc at G
 obtain⟨l,lc⟩:=lc
 have hl:=Y.lt _ (Ϗ G)
 have Hl:(nV (a.map (·.1)))[i]?=Β (.int (l:Int)):=cZ (by rw[ϝ,G];rfl)
 have Ji:bN wy ps n g=iI (dN wy ps g) (ps.length - (i+1)) (addW (Β l) a (dN wy ps g l)) (i+1):=by
  rw[FK,show ps.length - i=(ps.length - (i+1))+1 by omega,mS G]
 have Ng:∀z∈dN wy ps g l,z<ps.length:=λz D=>by
  unfold dN at D
  split at D
  ·cases D
  ·exact hT.ok _ z D
 refine aK ⟨λσ' O=>∃(S:As)(b3 I:Option V),GG ps.length S/\i+1<=S.length/\bN wy ps n g=iI (dN wy ps g) (ps.length - (i+1)) S (i+1)/\DP H O/\O d=Β (.dK (S.map ak))/\O r=Β (.ρ (nV (S.map (·.1))))/\σ'=[Β (.ref x),Β (.int g),Β (.ref d),b3,Β (.ref r),Β (.int ((i:Int)+1)),I],
  λσ' O DT=>by obtain⟨S,b3,I,h1,h2,h3,h4,h5,h6,h7⟩:=DT;exact⟨ps.length - (i+1),by omega,S,i+1,b3,I,Λ,h1,h2,h3,h4,h5,h6,h7⟩,?_⟩
 refine⟨r,_,_,_,Λ,Λ,DS.of SM,al Hl,_,_,Λ,Λ,x,lx,Eh,lt,n,DX,ps,wy,l,g,Λ,hT.same W s4,hl,λOl H5 s5 hOl Zq=>⟨Ol,Λ,⟨_,DS.of Zq⟩,?_⟩⟩
 have nOf:=ϛ (ag Vn hOl)
 have nOl:=ϛ (ag SM hOl)
 have nlf:=aT SM Vn (by intro z;cases z)
 generalize dN wy ps g l=t at Zq Ng Ji
 refine bV (K:=K) (a:=Ol) (xs:=nV t) (λm u A=>∃I:Option V,GG ps.length (addW (Β l) a (t.take m))/\a.length<=(addW (Β l) a (t.take m)).length/\DP H A/\A Ol=Β (.ρ (nV t))/\A d=Β (.dK ((addW (Β l) a (t.take m)).map ak))/\A r=Β (.ρ (nV ((addW (Β l) a (t.take m)).map (·.1))))/\
   u=[Β (.ref x),Β (.int g),Β (.ref d),Β (.int (l:Int)),Β (.ref r),Β (.int ((i:Int)+1)),I])
  ⟨_,Y,Ξ _,s4.trans s5,Zq,s5 _ _ Vn,s5 _ _ SM,Λ⟩ (λm u A _ DT=>by obtain⟨_,_,_,_,g6,_⟩:=DT;exact DS.of g6) ?_ ?_
 ·rintro m v u A B ⟨I,U,Jj,s6,Zr,X,Pf,rfl⟩
  have Z:m<t.length:=by have:=(gQ0 B);rw[aU]at this;exact this
  have j:=Μ Z
  have FW:=cZ j
  rw[FW]at B
  have B:=Ψ B
  subst B
  generalize t[m]=y at j
  have Zs:=Ng y (Ϗ j)
  have Kb:t.take (m+1)=t.take m++[y]:=by rw[ß,j];rfl
  have SJ:=nY (Β l) a (t.take m) y
  generalize UE:addW (Β l) a (t.take m)=L at U Jj X Pf SJ
  have hf6:=U.E4
  refine⟨d,_,Λ,F2.k (k:=Ï (y:Int)) X,_,Λ,?_⟩
  rw[pE]
  by_cases HR:y∈L.map (·.1)
  ·rw[Ζ HR]
   refine aG ⟨_,?_,?_,s6,Zr,?_,?_,Λ⟩<;>rw[Kb,SJ,Ι HR]
   ·exact U
   ·exact Jj
   ·exact X
   ·exact Pf
  ·rw[Η HR]
   refine aK ⟨d,_,Λ,IB.k (k:=Ï (y:Int)) X (by rw[ϗ,Ο];omega),?_⟩
   have ep:eV (L.map ak) (Ï (y:Int)) (V.int (l:Int))=(L++[(y,Β l)]).map ak:=tJ (c:=Β l) HR
   rw[ep]
   have Pg:(π A d (.dK ((L++[(y,Β l)]).map ak))) Ol=Β (.ρ (nV t)):=by rw[af nOf];exact Zr
   have Zt:(π A d (.dK ((L++[(y,Β l)]).map ak))) r=Β (.ρ (nV (L.map (·.1)))):=by rw[af nlf];exact Pf
   have gf7:(π A d (.dK ((L++[(y,Β l)]).map ak))) d=Β (.dK ((L++[(y,Β l)]).map ak)):=ac
   have s7:DP H (π A d (.dK ((L++[(y,Β l)]).map ak))):=λb o e=>by rw[af (ag e LM)];exact s6 _ _ e
   generalize π A d (.dK ((L++[(y,Β l)]).map ak))=H7 at Pg Zt gf7 s7⊢
   refine⟨.inl ⟨Λ,_,DS.of Zt⟩,r,_,_,Λ,Λ,Zt,by rw[ϗ,aU,Ο];omega,_,?_,?_,λb o e=>by rw[af (ag e Zp)];exact s7 _ _ e,by rw[af nOl];exact Pg,?_,?_,Λ⟩<;>rw[Kb,SJ,Θ HR]
   ·exact U.add Zs HR
   ·rw[Υ];omega
   ·rw[af (ϛ nlf)];exact gf7
   ·rw[ac,ϯ,ir];rfl
 ·rintro u A ⟨I,U,Jj,s6,Zr,X,Pf,rfl⟩
  rw[aU,Þ]at U Jj X Pf
  exact⟨_,_,_,U,by omega,Ji,s6,X,Pf,Λ⟩
noncomputable def eM(g:Nat)(S:List Nat)(l:Nat):List Nat:=S.set l (S.getD l 0|||2^g)
noncomputable def y2(wy:cC->Nat)(ps:List (Int×Int))(n:Nat)(S:List Nat)(g:Nat):List Nat:=((bN wy ps n g).map (·.1)).foldl (eM g) S
noncomputable def dq(wy:cC->Nat)(ps:List (Int×Int))(n m:Nat):List Nat:=(ό m).foldl (y2 wy ps n) (Ϫ ps.length 0)
theorem gm(wy:cC->Nat)(ps:List (Int×Int))(n m:Nat):dq wy ps n (m+1)=y2 wy ps n (dq wy ps n m) m:=by
 unfold dq
 rw[ĩ,Ŏ];rfl
theorem pX(g:Nat)(S:List Nat)(l:Nat):(eM g S l).length=S.length:=by unfold eM;rw[Ċ]
theorem jA(g:Nat):∀(a S:List Nat),(a.foldl (eM g) S).length=S.length
 |[],S=>rfl
 |l:: a,S=>by rw[JX,jA g a,pX]
theorem gL(wy:cC->Nat)(ps:List (Int×Int))(n:Nat):∀m,(dq wy ps n m).length=ps.length
 |0=>by unfold dq;simp
 |m+1=>by rw[gm];unfold y2;rw[jA,gL wy ps n m]
theorem zo(b:g<m)(h:∀z∈S,z<2^m)(l:Nat):∀z∈eM g S l,z<2^m:=λz a=>by
 unfold eM at a
 rcases List.mem_or_eq_of_mem_set a with a|a
 ·exact h z a
 ·rw[a]
  refine Nat.or_lt_two_pow ?_ (Nat.pow_lt_pow_right (by decide) b)
  rw[Ω]
  cases e:S[l]? with
  |none=>exact Q1 m
  |some y=>exact h y (Ϗ e)
theorem qI(b:g<m):∀(a:List Nat){S:List Nat},(∀z∈S,z<2^m)->∀z∈a.foldl (eM g) S,z<2^m
 |[],S,h=>h
 |l:: a,S,h=>qI b a (zo b h l)
theorem oZ(wy:cC->Nat)(ps:List (Int×Int))(n:Nat):∀m,m<=n->∀z∈dq wy ps n m,z<2^n
 | 0,_,z,hz=>by
  unfold dq at hz
  rw[List.range_zero,List.foldl_nil]at hz
  rw[Ġ hz];exact Q1 n
 | m+1,h,z,hz=>by
  rw[gm]at hz
  exact qI (by omega) _ (oZ wy ps n m (by omega)) z hz
inductive wx(c:Cs)(C:Ν)(J:mI)(vs:List V)(H:Hp)(Q:VK)(E:XK):Prop
 |mk (x lx Eh lt:Ν) (n:Nat) (DX:List V) (ps:List (Int×Int)) (wy:cC->Nat) (_:vs=[.ref x]) (_:Fi c C J H x lx Eh lt n DX ps wy) (_:∀(D:Ν)(H':Hp),DP H H'->H D=Γ->H' D=Β (.tup (nV (dq wy ps n n)))->Q (.ref D) H')
abbrev NMt:List Str:=["table","sets","goal","lane"]
theorem Jk:ar NMt ["table"] (aj wX):=L2.Ez
theorem Zu:EV NMt (aj wX) (yM ((aJ wX).getD 0 (.Pass ⟨0,0,0,0⟩))) [] []:=L2.FH
theorem Zv:(["lane"]:List Str).Nodup:=by decide +kernel
theorem CD(F:Et K "met" "met" wX f fd)(T:eK mg)(L:rp K c)(W:yZ K C fw dw J)(nl:Ea K C "land")
  (mh:mg "lanes_ahead"=Β (.ref fh)) (kh:ϳ K (.ref fh)=Δ) (bh:Binds K dh ["table","goal"] []) (Gh:DQ P w K mg ν aB 5 fh dh ["table","goal"] (tH c C J)):
  DQ P w K mg ν aB 6 f fd ["table"] (wx c C J):=by
 refine F.ok Jk λ_ _ _ s H _ Q E hr h=>?_
 obtain⟨x,Y,Z,lt,n,B,ps,wy,rfl,m,q⟩:=h
 have h40:=m.E4
 have hn:=m.JL
 refine⟨_,ae (dB (i:=1) (own:=["lane"]) (capN:=[]) (cap:=[]) Zu Λ Jk.nd Λ Λ (ju (ap (ap (pv 0) Λ) Λ))
   (λC s' H' fp=>⟨ax (i:=0) Zv Λ (ύ Λ),bX,ai⟩))
  (ae (bz Ϟ Λ (bL Λ T.range (aa (ap (ap (pv 0) Λ) Λ) ad)) (ax (i:=2) Jk.nd Λ (ύ Λ))
   (ah (bz Ϟ Λ (oO (aq Gh hr Λ mh kh bh .nil ao (aa (pv 0) (aa (pv 2) ad)))) (ax (i:=3) Jk.nd Λ (ύ Λ))
    (ah (oN (aC B3 (aD aR (pv 1) (pv 3) (λ_ _=>rfl)) (aC xz ai (pv 2))) (oP (pv 1) (pv 3) iD))))))
  (ah (au (aN aY Λ T.tuple PySem.Pv.boot_tuple (aa (pv 1) ad))))),?_⟩
 obtain⟨dx,fs,hx,hf⟩:=m.i
 have htl:=Paired.length m.l.2.2
 refine⟨x,C,dx,fs,_,Λ,hx,W.cl,nl,hf,Y,c.land,Z,_,_,Λ,m.l.1,L.cl,L.nl,Λ,lt,Λ,⟨_,DY.of m.l.2.1⟩,bQ B.length (by rw[ϗ];omega) (λi acc r=>r=H/\acc=nV (Ϫ i 0)) ⟨Λ,Λ⟩ (λi acc r h=>by rw[h.2,aU,é];exact Ξ _) ?_ ?_⟩
 ·rintro i acc r hi ⟨rfl,rfl⟩
  refine⟨⟨B,B[i],DY.of m.l.2.1,Μ hi⟩,λy H5 hy=>?_⟩
  obtain⟨rfl,_⟩:=hy
  refine⟨Λ,?_⟩
  rw[HK,ir];rfl
 rintro acc r ⟨rfl,rfl⟩
 refine⟨⟨B,DY.of m.l.2.1,Ξ _⟩,λd Zw=>?_⟩
 rw[htl]
 have R:=(DP.refl r).new (o:=.ρ (nV (Ϫ ps.length 0))) Zw
 have g1:(π r d (.ρ (nV (Ϫ ps.length 0)))) d=Β (.ρ (nV (dq wy ps n 0))):=ac
 generalize π r d (.ρ (nV (Ϫ ps.length 0)))=H1 at R g1⊢
 refine⟨x,C,dx,fs,_,Λ,R _ _ hx,W.cl,nl,hf,Y,c.land,Z,_,_,Λ,R _ _ m.l.1,L.cl,L.np,Λ,(n:Int),Λ,by omega,by omega,?_⟩
 rw[ϋ]
 refine cT (n:=n) (λg v M=>∃a2 A:Option V,DP r M/\M d=Β (.ρ (nV (dq wy ps n g)))/\v=[Β (.ref x),Β (.ref d),a2,A])
  ⟨Γ,Γ,R,g1,Λ⟩ ?_ ?_
 ·rintro g v M hg ⟨a2,A,N,U,rfl⟩
  rw[ĥ]
  refine⟨x,Y,Z,lt,n,B,ps,wy,g,Λ,m.same W N,λz H3 s3 LM hA gfa=>⟨z,_,Λ,gfa,λD=>?_⟩⟩
  have O:(π H3 z (.Fq D (.dK ((bN wy ps n g).map ak)))) z=Β (.Fq D (.dK ((bN wy ps n g).map ak))):=ac
  have s5:DP M (π H3 z (.Fq D (.dK ((bN wy ps n g).map ak)))):=λb o e=>by rw[af (ag e LM)];exact s3 _ _ e
  generalize π H3 z (.Fq D (.dK ((bN wy ps n g).map ak)))=H5 at O s5⊢
  have nfS:=ϛ (ag U LM)
  refine y6 (a:=z) (o:=D) (kvs:=(bN wy ps n g).map ak) (λj v G=>∃A:Option V,DP r G/\G d=Β (.ρ (nV ((((bN wy ps n g).map (·.1)).take j).foldl (eM g) (dq wy ps n g))))/\G z=Β (.Fq D (.dK ((bN wy ps n g).map ak)))/\v=[Β (.ref x),Β (.ref d),Β (.int (g:Int)),A])
   ⟨_,N.trans s5,s5 _ _ U,O,Λ⟩ (λj v G _ DT=>by obtain⟨_,_,_,X,_⟩:=DT;exact X) ?_ ?_
  ·rintro j k v G hk ⟨A,s6,I,X,rfl⟩
   have hj:j<(bN wy ps n g).length:=by have:=(gQ0 hk);simpa using this
   have u:=Μ hj
   generalize (bN wy ps n g)[j]=pd at u
   obtain⟨l,lc⟩:=pd
   have ek:k=Ï (l:Int):=by
    rw[ϝ,ϝ,u]at hk
    exact(Ψ hk).symm
   subst ek
   rw[show kV (Ï (l:Int))=V.int (l:Int) from Λ]
   have hl:=hA.lt _ (Ϗ u)
   have hjm:((bN wy ps n g).map (·.1))[j]?=Β l:=by rw[ϝ,u];rfl
   have Kb:(((bN wy ps n g).map (·.1)).take (j+1)).foldl (eM g) (dq wy ps n g)=eM g ((((bN wy ps n g).map (·.1)).take j).foldl (eM g) (dq wy ps n g)) l:=by
    rw[ß,hjm,Ŏ];rfl
   have K1:((((bN wy ps n g).map (·.1)).take j).foldl (eM g) (dq wy ps n g)).length=ps.length:=by rw[jA,gL]
   rw[Kb]
   generalize (((bN wy ps n g).map (·.1)).take j).foldl (eM g) (dq wy ps n g)=S at I K1
   refine⟨d,_,_,_,Λ,Λ,DS.of I,al (oX (p:=l) (by omega)),_,_,Λ,Λ,⟨(show (0:Int)<=(g:Int) by omega),(show (g:Int)<=1000000 by omega),(by decide)⟩,_,_,Λ,Λ,d,_,(l:Int),l,Λ,Λ,I,jb (by rw[aU];omega),?_⟩
   have e:ň ((S.getD l 0:Nat):Int) (1* 2^(g:Int).toNat)=((S.getD l 0|||2^g:Nat):Int):=by
    rw[ϋ,Int.one_mul,show (2:Int)^g=((2^g:Nat):Int) by rw[Ry];rfl,Yd.GY]
   dsimp only
   rw[e,CY]
   exact⟨_,λb o e=>by rw[af (ag e Zw)];exact s6 _ _ e,ac,by rw[af nfS];exact X,Λ⟩
  ·rintro v G ⟨A,s6,I,X,rfl⟩
   refine⟨_,_,s6,?_,Λ⟩
   rw[İ (by rw[Ο,Ο];exact Ξ _)]at I
   rw[gm];exact I
 ·rintro v M ⟨a2,A,N,U,rfl⟩
  refine⟨d,_,Λ,.inl ⟨DS.of U,λt ht=>q t _ (N.new ht) (N.free ht) ac⟩⟩
end K69
namespace L2
open PySem PySem.Spec PyProof.Rows
section
variable {X:Cx}{a:Expr}{ta:TE}{pos:Pos}
end
end L2
namespace K69
open PySem L2
variable {P:Program}{w:Ϭ}{K:ϣ}{mg:Str->Option Ρ}{ν:Ù}
noncomputable def iY(wy:cC->Nat)(ps:List (Int×Int))(l g:Nat):Bool:=!decide ((ps.getD l (0,0)).2=(g:Int))&& (dN wy ps g l).isEmpty
inductive pV(c:Cs)(C:Ν)(J:mI)(vs:List V)(H:Hp)(Q:VK)(E:XK):Prop
 |mk (x lx Eh lt:Ν) (n:Nat) (DX:List V) (ps:List (Int×Int)) (wy:cC->Nat) (l g:Nat) (_:vs=[.ref x,.int l,.int g]) (_:Fi c C J H x lx Eh lt n DX ps wy) (_:l<ps.length) (_:∀H',DP H H'->Q (.bl (iY wy ps l g)) H')
theorem Zx:ar ["table","lane","goal"] ["table","lane","goal"] (aj oI):=L2.Ez
theorem vb(F:Et K "is_lost" "is_lost" oI f fd)(L:rp K c)(W:yZ K C fw dw J)(z:Ea K C "land")(M:vG K c fe de)(A:DQ P w K mg ν aB 1 fe de ["self","lane"] (uK c ç))
  (B:mg "onward"=Β (.ref fo)) (G:ϳ K (.ref fo)=Δ) (I:Binds K KS ["table","lane","goal"] []) (Go:DQ P w K mg ν aB 4 fo KS ["table","lane","goal"] (zk c C J)):
  DQ P w K mg ν aB 5 f fd ["table","lane","goal"] (pV c C J):=by
 refine F.ok Zx λ_ _ _ s H _ Q E r h=>?_
 obtain⟨x,j,o,lt,n,t,ps,wy,l,g,rfl,a,u,q⟩:=h
 have N:DZ 1 _:=r.mono (by decide)
 refine⟨_,ah (au (cP (bY mW (aI (ap (pv 0) Λ) L.cl M.m A N M.b .nil ao (aa (pv 1) ad)) (pv 2) (aA _)) (cF (tL (aq Go r Λ B G I .nil ao (aa (pv 0) (aa (pv 1) (aa (pv 2) ad)))))))),?_⟩
 obtain⟨O,fs,R,S⟩:=a.i
 have p:=Μ u
 have T:ps.getD l (0,0)=ps[l]:=by rw[Ω,p];rfl
 unfold iY at q
 rw[T]at q
 generalize ps[l]=v at p q
 refine⟨x,C,O,fs,_,Λ,R,W.cl,z,S,j,o,_,Λ,a.l.1,Λ,j,o,lt,(n:Int),t,ps,l,v,Λ,a.l,p,Λ,_,Λ,?_⟩
 rw[bZ]
 by_cases d:v.2=(g:Int)
 ·rw[Ζ d]
  have:=q H (DP.refl H)
  rw[Ζ d]at this
  exact aG this
 ·rw[Η d]
  refine aK ⟨x,j,o,lt,n,t,ps,wy,l,g,Λ,a,u,λD y U Y X=>?_⟩
  refine⟨_,.inl ⟨_,DS.of X,Λ⟩,?_⟩
  have:=q y U
  rw[Η d]at this
  have e:(!(!(nV (dN wy ps g l)).isEmpty))=(dN wy ps g l).isEmpty:=by
   rw[Bool.not_not]
   cases dN wy ps g l<;>rfl
  rw[e]
  exact this
noncomputable def cK(m:Nat):List Nat:=Yd.Iw m (Ó (m:Int))
theorem nk(m:Nat):yg m=nV (cK m):=rfl
noncomputable def lp(S:List Nat)(l:Nat):List (Nat×Nat):=(cK (S.getD l 0)).map λg=>(l,g)
noncomputable def eO(S:List Nat)(m:Nat):List (Nat×Nat):=(ό m).flatMap (lp S)
noncomputable def nn(wy:cC->Nat)(ps:List (Int×Int))(n:Nat):Option (Nat×Nat):=(eO (dq wy ps n n) ps.length).find? λq=>iY wy ps q.1 q.2
theorem io(S:List Nat)(m:Nat):eO S (m+1)=eO S m++lp S m:=by
 unfold eO
 rw[ĩ,Kd];simp
theorem uT(S:List Nat)(h:m<=k):∃r,eO S k=eO S m++r:=by
 induction k with
 |zero=>exact⟨[],by rw[show m=0 by omega];simp⟩
 | succ k b =>
  rcases Ĥ k m with a|a
  ·exact⟨[],by rw[show m=k+1 by omega];simp⟩
  ·obtain⟨r,e⟩:=b a
   exact⟨r++lp S k,by rw[io,e,Č]⟩
def SN(H:Hp)(v:V):Option (Nat×Nat)->Prop
 |none=>v=.Eg
 |some q=>∃t,v=.ref t/\H t=Β (.tup [.int (q.1:Int),.int (q.2:Int)])
inductive w6(c:Cs)(C:Ν)(J:mI)(vs:List V)(H:Hp)(Q:VK)(E:XK):Prop
 |mk (x lx Eh lt:Ν) (n:Nat) (DX:List V) (ps:List (Int×Int)) (wy:cC->Nat) (_:vs=[.ref x]) (_:Fi c C J H x lx Eh lt n DX ps wy) (_:∀(v:V)(H':Hp),DP H H'->SN H' v (nn wy ps n)->Q v H')
abbrev NLo:List Str:=["table","lane","goals","goal"]
theorem LN:ar NLo ["table"] (aj wZ):=L2.Ez
theorem Ad(F:Et K "lost" "lost" wZ f fd)(T:eK mg)(W:yZ K C fw dw J)
  (mm:mg "met"=Β (.ref fm)) (km:ϳ K (.ref fm)=Δ) (bm:Binds K dm ["table"] []) (Gm:DQ P w K mg ν aB 6 fm dm ["table"] (wx c C J))
  (mb:mg "members"=Β (.ref fb)) (kb:ϳ K (.ref fb)=Δ) (bb:Binds K db ["some"] []) (Gb:DQ P w K mg ν aB 2 fb db ["some"] tw)
  (mi:mg "is_lost"=Β (.ref fi)) (ki:ϳ K (.ref fi)=Δ) (bi:Binds K di ["table","lane","goal"] []) (Gi:DQ P w K mg ν aB 5 fi di ["table","lane","goal"] (pV c C J)):
  DQ P w K mg ν aB 7 f fd ["table"] (w6 c C J):=by
 refine F.ok LN λ_ _ _ s H _ Q E O h=>?_
 obtain⟨x,lx,Eh,lt,n,DX,ps,wy,rfl,R,q⟩:=h
 have F3:DZ 2 _:=O.mono (by decide)
 have Kv:DZ 5 _:=O.mono (by decide)
 have hn:=R.JL
 refine⟨_,ae (bz Ϟ Λ (iQ Λ T.enum (aa (aq Gm O Λ mm km bm .nil ao (aa (pv 0) ad)) ad)) (gh Λ (bP (ax (i:=1) LN.nd Λ (ύ Λ)) (bP (ax (i:=2) LN.nd Λ (ύ Λ)) eG)))
   (ah (bz Ϟ Λ (aV (aq Gb F3 Λ mb kb bb .nil ao (aa (pv 2) ad))) (ax (i:=3) LN.nd Λ (ύ Λ))
    (ah (aO (bH (aq Gi Kv Λ mi ki bi .nil ao (aa (pv 0) (aa (pv 1) (aa (pv 3) ad))))) (ah (au (bq (aa (pv 1) (aa (pv 3) ad))))) aE)))))
  (ah (au cz)),?_⟩
 refine⟨x,lx,Eh,lt,n,DX,ps,wy,Λ,R,λMt U X hMt Y=>⟨Mt,Λ,⟨_,DY.of Y⟩,?_⟩⟩
 have K1:=gL wy ps n n
 have IK:=oZ wy ps n n (Ξ _)
 unfold nn at q
 generalize dq wy ps n n=S at Y K1 IK q
 refine gx (sq:=λH=>DY K H Mt) (xs:=nV S) (λi e B=>∃Z a2 p:Option V,DP U B/\(∀z∈eO S i,iY wy ps z.1 z.2=Ε)/\e=[Β (.ref x),Z,a2,p])
  ⟨Γ,Γ,Γ,DP.refl U,(λz b=>by cases b),Λ⟩ (λi e B _ DT=>by obtain⟨_,_,_,D,_⟩:=DT;exact DY.of (D _ _ Y)) ?_ ?_
 ·rintro l v r e B d ⟨Z,a2,p,D,G,rfl⟩ LO
  have hl:l<S.length:=by have:=(gQ0 d);rw[aU]at this;exact this
  have FW:=oX hl
  rw[FW]at d
  have d:=Ψ d
  subst d
  have NY:S.getD l 0<2^n:=by
   rw[Ω,Μ hl]
   exact IK _ (ė hl)
  have s3:=D.new (o:=.tup [.int (l:Int),.int ((S.getD l 0:Nat):Int)]) LO
  refine⟨r,_,Λ,DY.of ac,Λ,_,_,Λ,_,_,Λ,Λ,?_⟩
  generalize π B r (.tup [.int (l:Int),.int ((S.getD l 0:Nat):Int)])=H3 at s3⊢
  refine⟨S.getD l 0,Λ,Ϥ NY (Ľ (by decide) (by omega)),λy SO=>⟨y,Λ,⟨_,DS.of ac⟩,?_⟩⟩
  rw[nk]
  have s4:=s3.new (o:=.ρ (nV (cK (S.getD l 0)))) SO
  have g4:(π H3 y (.ρ (nV (cK (S.getD l 0))))) y=Β (.ρ (nV (cK (S.getD l 0)))):=ac
  generalize π H3 y (.ρ (nV (cK (S.getD l 0))))=H4 at s4 g4⊢
  refine bV (K:=K) (a:=y) (xs:=nV (cK (S.getD l 0))) (λm e I=>∃p:Option V,DP U I/\I y=Β (.ρ (nV (cK (S.getD l 0))))/\(∀g∈(cK (S.getD l 0)).take m,iY wy ps l g=Ε)/\e=[Β (.ref x),Β (.int (l:Int)),Β (.int ((S.getD l 0:Nat):Int)),p])
   ⟨_,s4,g4,λg hg=>by simp at hg,Λ⟩ (λm e I _ DT=>by obtain⟨_,_,N,_⟩:=DT;exact DS.of N) ?_ ?_
  ·rintro m v e I d ⟨p,L,N,M,rfl⟩
   have hm:m<(cK (S.getD l 0)).length:=by have:=(gQ0 d);rw[aU]at this;exact this
   have j:=Μ hm
   have FW:=cZ j
   rw[FW]at d
   have d:=Ψ d
   subst d
   generalize (cK (S.getD l 0))[m]=g at j
   refine⟨x,lx,Eh,lt,n,DX,ps,wy,l,g,Λ,R.same W (X.trans L),by omega,λH6 s6=>⟨_,Λ,?_⟩⟩
   cases hb:iY wy ps l g with
   | false =>
    refine aG ⟨_,L.trans s6,s6 _ _ N,λu A=>?_,Λ⟩
    rw[ß,j]at A
    rcases Ϣ.mp A with h|h
    ·exact M u h
    ·have:u=g:=by simpa using h
     rw[this];exact hb
   | true =>
    refine aK ⟨by show 2<=Χ;decide,λt ht=>?_⟩
    refine q _ _ ((X.trans (L.trans s6)).new ht) ?_
    obtain⟨rest,er⟩:=uT S (m:=l+1) (k:=ps.length) (by omega)
    have NZ:cK (S.getD l 0)=(cK (S.getD l 0)).take m++g:: (cK (S.getD l 0)).drop (m+1):=by
     have hd:(cK (S.getD l 0)).drop m=g:: (cK (S.getD l 0)).drop (m+1):=by
      rw[List.drop_eq_getElem_cons hm]
      congr 1
      exact Ψ ((Μ hm).symm.trans j)
     exact(List.take_append_drop m (cK (S.getD l 0))).symm.trans (by rw[hd])
    have ef:(eO S ps.length).find? (λq=>iY wy ps q.1 q.2)=Β (l,g):=by
     rw[er,io,Č,OO,Ă.mpr (λz b=>by rw[G z b];decide),Option.none_or]
     unfold lp
     rw[NZ,ϯ,Č,OO,Ă.mpr (λz b=>by
      obtain⟨u,A,rfl⟩:=Õ.mp b
      rw[M u A];decide),Option.none_or]
     show List.find? _ ((l,g):: _)=_
     rw[List.find?_cons_of_pos (by exact hb)]
    rw[ef]
    exact⟨t,Λ,ac⟩
  ·rintro e I ⟨p,L,N,M,rfl⟩
   rw[aU,Þ]at M
   refine⟨_,_,_,L,λz b=>?_,Λ⟩
   rw[io]at b
   rcases Ϣ.mp b with b|b
   ·exact G z b
   ·obtain⟨u,A,rfl⟩:=Õ.mp b
    exact M u A
 ·rintro e B ⟨Z,a2,p,D,G,rfl⟩
  rw[aU,K1]at G
  refine q _ _ (X.trans D) ?_
  rw[Ă.mpr (λz b=>by rw[G z b];decide)]
  rfl
theorem nZ(l:Option Nat)(a:As)(x:Nat)(b:List Nat):addW l a (x:: b)=addW l (if x∈a.map (·.1) then a else a++[(x,l)]) b:=rfl
theorem jm(l:Option Nat):∀(b:List Nat)(a:As),∃r,addW l a b=a++r
 |[],a=>⟨[],by rw[yS,Ę]⟩
 | x:: b,a=>by
  rw[nZ]
  split
  ·exact jm l b a
  ·obtain⟨r,e⟩:=jm l b (a++[(x,l)])
   exact⟨[(x,l)]++r,by rw[e,Č]⟩
theorem lZ(h:z∈a.map (·.1)):z∈(addW l a ws).map (·.1):=by
 obtain⟨r,e⟩:=jm l ws a
 rw[e,ϯ]
 exact Ä _ h
theorem mj(l:Option Nat):∀(b:List Nat)(a:As)(x:Nat),x∈b->x∈(addW l a b).map (·.1)
 | y:: b,a,x,h=>by
  rw[nZ]
  rcases Ϯ.mp h with h|h
  ·subst h
   refine lZ ?_
   split
   ·assumption
   ·rw[ϯ]
    exact Ϩ _ (by simp)
  ·exact mj l b _ x h
theorem jF(m:∀x,∀z∈on x,z<L):∀(f:Nat)(a:As)(i:Nat),GG L a->i<=a.length->L<=f+i->(∀j y,j<i->a[j]?=Β y->∀z∈on y.1,z∈a.map (·.1))->
  (∀y∈iI on f a i,∀z∈on y.1,z∈(iI on f a i).map (·.1))/\∀z∈a.map (·.1),z∈(iI on f a i).map (·.1)
 | 0,a,i,ok,hi,hf,inv=>by
  have:=ok.E4
  refine⟨λy c z b=>?_,λz b=>b⟩
  obtain⟨j,l,e⟩:=ô (show y∈a from c)
  exact inv j y (by omega) (by rw[Μ l,e]) z b
 | f+1,a,i,ok,hi,hf,inv=>by
  cases h:a[i]? with
  | none =>
   rw[qi h]
   have t:=Ō.mp h
   refine⟨λy c z b=>?_,λz b=>b⟩
   obtain⟨j,l,e⟩:=ô c
   exact inv j y (by omega) (by rw[Μ l,e]) z b
  | some x =>
   rw[mS h]
   have u:=(gQ0 h)
   obtain⟨r,o⟩:=jm (Β x.1) (on x.1) a
   have d:i+1<=(addW (Β x.1) a (on x.1)).length:=by rw[o,Υ];omega
   obtain⟨q,s⟩:=jF m f (addW (Β x.1) a (on x.1)) (i+1) (GG.addW (on x.1) ok (m x.1)) d (by omega) (λj y l c z b=>by
    have g:a[j]?=Β y:=by
     rw[o,Ϙ (by omega)]at c
     exact c
    rcases Ĥ j i with p|p
    ·exact lZ (inv j y p g z b)
    ·have:j=i:=by omega
     subst this
     rw[h]at g
     injection g with g
     subst g
     exact mj _ _ _ z b)
   exact⟨q,λz b=>s z (lZ b)⟩
def yW(wy:cC->Nat)(ps:List (Int×Int))(n g z:Nat):Prop:=z∈(bN wy ps n g).map (·.1)
theorem xD(h:∀k,∀z∈wl wy k,z<ps.length)(g x:Nat):∀z∈dN wy ps g x,z<ps.length:=by
 intro z a
 unfold dN at a
 split at a
 ·cases a
 ·exact h _ z a
theorem jl(h:∀k,∀z∈wl wy k,z<ps.length)(n g:Nat):
  (∀y∈bN wy ps n g,∀z∈dN wy ps g y.1,z∈(bN wy ps n g).map (·.1))/\∀z∈bJ wy g n,z∈(bN wy ps n g).map (·.1):=by
 have b:∀z∈bJ wy g n,z<ps.length:=λz a=>by
  obtain⟨p,_,c⟩:=Ć.mp a
  exact h _ z c
 have ok:GG ps.length (addW Γ [] (bJ wy g n)):=GG.addW _ ⟨ä,λx d=>by cases d⟩ b
 obtain⟨e,f⟩:=jF (xD h g) ps.length (addW Γ [] (bJ wy g n)) 0 ok (Ϧ _) (Ξ _) (λj y i=>Κ i (ī _))
 exact⟨e,λz a=>f z (mj _ _ _ z a)⟩
theorem vw(h:∀k,∀z∈wl wy k,z<ps.length){n g p z:Nat}(a:p<n)(b:z∈wl wy [Β (p:Int),Β (g:Int),Γ]):yW wy ps n g z:=
 (jl h n g).2 z (Ć.mpr ⟨p,Ë.mpr a,b⟩)
theorem wb(h:∀k,∀z∈wl wy k,z<ps.length)(a:yW wy ps n g l)(b:z∈dN wy ps g l):yW wy ps n g z:=by
 obtain⟨y,c,rfl⟩:=Õ.mp a
 exact(jl h n g).1 y c z b
theorem uM(h:(S.getD l 0).testBit b=Δ):((eM g S l').getD l 0).testBit b=Δ:=by
 unfold eM
 rw[Ω,ħ]
 by_cases e:l'=l
 ·subst e
  rw[Ι Λ]
  split
  ·rw[ew,JJ,h];rfl
  ·rename_i hl
   rw[Ω,Í (by omega)]at h
   rw[Ő]at h⊢
   exact h
 ·rw[Θ e,←Ω]
  exact h
theorem i3:∀(a:List Nat){S:List Nat},(S.getD l 0).testBit b=Δ->((a.foldl (eM g) S).getD l 0).testBit b=Δ
 |[],_,h=>h
 |_:: a,_,h=>i3 a (uM h)
theorem nB:∀(a:List Nat){S:List Nat},l∈a->l<S.length->((a.foldl (eM g) S).getD l 0).testBit g=Δ
 | x:: a,S,h,hl=>by
  rw[JX]
  rcases Ϯ.mp h with h|h
  ·subst h
   refine i3 a ?_
   unfold eM
   rw[Ω,ħ,Ι Λ,Ι hl,ew,JJ,HI]
   simp
  ·exact nB a h (by rw[pX];exact hl)
theorem iw:∀{m:Nat},g<m->l<ps.length->yW wy ps n g l->((dq wy ps n m).getD l 0).testBit g=Δ
 | m+1,hg,hl,h=>by
  rw[gm]
  rcases Ĥ g m with a|a
  ·exact i3 _ (iw a hl h)
  ·have:g=m:=by omega
   subst this
   exact nB _ h (by rw[gL];exact hl)
theorem wL(h:((eM g S l').getD l 0).testBit b=Δ):(S.getD l 0).testBit b=Δ∨(b=g/\l'=l):=by
 unfold eM at h
 rw[Ω,ħ]at h
 by_cases e:l'=l
 ·rw[Ι e]at h
  split at h
  ·rw[ew,JJ,Bool.or_eq_true]at h
   rcases h with h|h
   ·rw[e]at h;exact .inl h
   ·rw[HI]at h
    exact .inr ⟨(of_decide_eq_true h).symm,e⟩
  ·rw[Ő,Ŭ]at h
   cases h
 ·rw[Θ e,←Ω]at h
  exact .inl h
theorem nE:∀(a:List Nat){S:List Nat},((a.foldl (eM g) S).getD l 0).testBit b=Δ->(S.getD l 0).testBit b=Δ∨(b=g/\l∈a)
 |[],_,h =>.inl h
 | x:: a,S,h=>by
  rcases nE a h with h|⟨c,d⟩
  ·rcases wL h with h|⟨c,d⟩
   ·exact .inl h
   ·exact .inr ⟨c,by rw[d];exact ϟ⟩
  ·exact .inr ⟨c,ϧ _ d⟩
theorem lB:∀{m:Nat},((dq wy ps n m).getD l 0).testBit g=Δ->yW wy ps n g l
 | 0,h=>by
  have e:(dq wy ps n 0).getD l 0=0:=by
   unfold dq
   rw[List.range_zero,List.foldl_nil,Ω,ü]
   split<;>rfl
  rw[e,Ŭ]at h
  cases h
 | m+1,h=>by
  rw[gm]at h
  rcases nE _ h with h|⟨rfl,h⟩
  ·exact lB h
  ·exact h
end K69
namespace L2
open PySem
theorem nQ(p:Key->Bool)(f:Key->V)(s:kvs.length<Χ)(q:H a=Β (.Fq o (.dK kvs)))
  (t:∀(k:Key)(acc:List V)(N:List V->Hp->Prop),k∈kvs.map (·.1)->N (if p k then acc++[f k] else acc) H->g (kV k) σ0 H λc m=>tt c m λb j=>if b=Δ then te c j λy u=>N (acc++[y]) u else N acc j)
  (v:∀D,H D=Γ->Q (.ref D) (π H D (.ρ (((kvs.map (·.1)).filter p).map f)))):e9 (O8 a o kvs) g tt te σ0 Q H:=by
 refine bQ kvs.length s (λi acc l=>l=H/\acc=(((kvs.map (·.1)).take i).filter p).map f) ⟨Λ,Λ⟩ (λi acc l h=>?_) ?_ ?_
 ·rw[h.2,Ο]
  exact Î (Ò _ _) (Ą _ _)
 ·rintro i acc l w ⟨rfl,rfl⟩
  refine⟨⟨q,w⟩,λx m y=>?_⟩
  obtain⟨e,k,d,rfl⟩:=y
  subst e
  refine t k _ (λz j=>j=m/\z=(((kvs.map (·.1)).take (i+1)).filter p).map f) (Ϗ d) ⟨Λ,?_⟩
  rw[ß,d,ÿ]
  cases r:p k with
  |true=>simp[r]
  |false=>simp[r]
 ·rintro acc l ⟨rfl,rfl⟩
  rw[İ (by rw[Ο];exact Ξ _)]
  exact⟨⟨q,Λ⟩,v⟩
theorem pP(h:H a=Β u):π (π H a o) a u=H:=by
 rw[ze]
 funext b
 unfold π
 by_cases e:b=a
 ·rw[Ι e,e,h]
 ·rw[Θ e]
theorem pO(h:a≠b):π (π H a o) b u=π (π H b u) a o:=by
 funext c
 unfold π
 by_cases e:c=b
 ·rw[Ι e,Θ (λz=>h (z.symm.trans e)),Ι e]
 ·rw[Θ e]
  by_cases d:c=a
  ·rw[Ι d,Ι d]
  ·rw[Θ d,Θ d,Θ e]
end L2
namespace K69
open PySem L2 LkM
noncomputable def lk(x:Nat×Nat):L2.Key×V:=(Ï (x.1:Int),.int (x.2:Int))
noncomputable def dV(d:Dn):List (L2.Key×V):=d.map lk
theorem lV(d:Dn):(dV d).length=d.length:=Ο ..
theorem uy(d:Dn):(dV d).map (·.1)=(ks d).map λk:Nat=>(Ï (k:Int):L2.Key):=by
 unfold dV ks
 rw[ê,ê];rfl
theorem lE(l:Nat):∀d:Dn,cU (dV d) (Ï (l:Int))=(fX d l).map λg:Nat=>V.int (g:Int)
 |[]=>rfl
 | x:: d=>by
  have a:=lE l d
  show cU (lk x:: dV d) _=_
  by_cases h:x.1=l
  ·rw[fV (show(lk x).1=Ï (l:Int) by rw[←h];rfl)]
   unfold fX
   rw[õ,show decide (x.1=l)=Δ from Ζ h];rfl
  ·rw[fW (λz=>h (by have:=HD z;omega)),a]
   unfold fX
   rw[õ,show decide (x.1=l)=Ε from Η h]
theorem HW:fX d l=Γ↔l∉ks d:=by
 constructor
 ·intro h a
  obtain⟨g,e⟩:=fU a
  rw[h]at e;cases e
 ·intro h
  cases e:fX d l with
  |none=>rfl
  |some g=>exact Κ (sC (sU e)) h
theorem nv(d:Dn)(l:Nat):(cU (dV d) (Ï (l:Int))).isSome=decide (l∈ks d):=by
 rw[lE]
 by_cases h:l∈ks d
 ·obtain⟨g,e⟩:=fU h
  rw[e,Ζ h];rfl
 ·rw[HW.mpr h,Η h];rfl
theorem yl(g:Nat)(h:l∉ks d):eV (dV d) (Ï (l:Int)) (.int (g:Int))=dV (d++[(l,g)]):=by
 rw[ql _ (by rw[lE,HW.mpr h];rfl)]
 unfold dV
 rw[ϯ];rfl
structure F5(H:Hp)(D:Ν)(ds:List Ν)(L:Ld):Prop where
 l:H D=Β (.ρ (ds.map V.ref))
 len:ds.length=L.length
 nd:ds.Nodup
 d:∀i d,ds[i]?=Β d->H d=Β (.dK (dV (L.getD i [])))
theorem F5.same(h:F5 H D ds L)(s:DP H H'):F5 H' D ds L:=⟨s _ _ h.l,h.len,h.nd,λi d e=>s _ _ (h.d i d e)⟩
theorem F5.put{D d:Ν}(h:F5 H D ds L)(a:ds[w]?=Β d):F5 (π H d (.dK (dV e))) D ds (L.set w e):=by
 have g:w<L.length:=by rw[←h.len];exact(gQ0 a)
 refine⟨?_,by rw[Ċ];exact h.len,h.nd,λi b c=>?_⟩
 ·rw[af (aT h.l (h.d w d a) (by intro z;cases z))];exact h.l
 ·rw[gw]
  by_cases f:w=i
  ·subst f
   rw[a]at c
   cases c
   rw[Ι ⟨Λ,g⟩];exact ac
  ·rw[Θ λz=>f z.1]
   have j:b≠d:=λz=>by
    subst z
    obtain⟨p,m⟩:=ϥ.mp a
    obtain⟨q,o⟩:=ϥ.mp c
    exact f ((cb h.nd).mp (m.trans o.symm))
   rw[af j];exact h.d i b c
noncomputable def y1(S:List Nat)(l:Nat):List Nat:=cK (S.getD l 0)
inductive t7(c:Cs)(C:Ν)(J:mI)(vs:List V)(H:Hp)(Q:VK)(E:XK):Prop
 |mk (x lx Eh lt sa:Ν) (n:Nat) (DX:List V) (ps:List (Int×Int)) (wy:cC->Nat) (S:List Nat) (_:vs=[.ref x,.ref sa]) (_:Fi c C J H x lx Eh lt n DX ps wy) (_:H sa=Β (.tup (nV S))) (_:S.length=ps.length) (_:(∀z∈S,z<2^n)) (_:∀(D:Ν)(ds:List Ν)(H':Hp),DP H H'->F5 H' D ds (eP (dN wy ps) (y1 S) ps.length)->Q (.ref D) H')
abbrev NLe:List Str:=["table","sets","leads","lane","goals","goal","way"]
theorem JC:ar NLe ["table","sets"] (aj kW):=L2.Ez
theorem Zz:EV NLe (aj kW) (yM ((aJ kW).getD 0 (.Pass ⟨0,0,0,0⟩))) [] []:=L2.FH
theorem Z0:(["goals"]:List Str).Nodup:=by decide +kernel
theorem xL(F:Et K "leads_of" "leads_of" kW f fd)(T:eK mg)(W:yZ K C fw dw J)
  (mb:mg "members"=Β (.ref fb)) (kb:ϳ K (.ref fb)=Δ) (bb:Binds K db ["some"] []) (Gb:DQ P w K mg ν aB 2 fb db ["some"] tw)
  (mo:mg "onward"=Β (.ref fo)) (ko:ϳ K (.ref fo)=Δ) (bo:Binds K GL ["table","lane","goal"] []) (Go:DQ P w K mg ν aB 4 fo GL ["table","lane","goal"] (zk c C J)):
  DQ P w K mg ν aB 5 f fd ["table","sets"] (t7 c C J):=by
 refine F.ok JC λ_ _ _ s H _ Q E hr h=>?_
 obtain⟨x,lx,Eh,lt,sa,n,DX,ps,wy,S,rfl,hT,gS,K1,IK,q⟩:=h
 have F3:DZ 2 _:=hr.mono (by decide)
 have HL:DZ 4 _:=hr.mono (by decide)
 have hn:=hT.JL
 have h40:=hT.E4
 refine⟨_,ae (dB (i:=2) (own:=["goals"]) (capN:=[]) (cap:=[]) Zz Λ JC.nd Λ Λ (ju (pv 1)) (λC s' H' fp=>⟨ax (i:=0) Z0 Λ (ύ Λ),bX,lm⟩))
  (ae (bz Ϟ Λ (iQ Λ T.enum (aa (pv 1) ad)) (gh Λ (bP (ax (i:=3) JC.nd Λ (ύ Λ)) (bP (ax (i:=4) JC.nd Λ (ύ Λ)) eG)))
   (ah (bz Ϟ Λ (aV (aq Gb F3 Λ mb kb bb .nil ao (aa (pv 4) ad))) (ax (i:=5) JC.nd Λ (ύ Λ))
    (ah (bz Ϟ Λ (aV (aq Go HL Λ mo ko bo .nil ao (aa (pv 0) (aa (pv 3) (aa (pv 5) ad))))) (ax (i:=6) JC.nd Λ (ύ Λ))
     (ah (aM (zJ (aD aR (pv 2) (pv 6) (λ_ _=>rfl)) (pv 3) (pv 5) ⟨Λ,Λ,Λ,Λ⟩))))))))
  (ah (au (pv 2)))),?_⟩
 have NR:(nV S).length=ps.length:=by rw[aU];exact K1
 refine⟨sa,Λ,⟨_,DY.of gS⟩,bQ (nV S).length (by rw[ϗ];omega) (λi acc U=>∃j:List Ν,acc=j.map V.ref/\j.length=i/\j.Nodup/\DP H U/\∀d∈j,H d=Γ/\U d=Β (.dK [])) ⟨[],Λ,Λ,ä,DP.refl H,λd O=>by cases O⟩ (λi acc U DT=>by obtain⟨j,e,hl,_⟩:=DT;rw[e,Ο,hl];exact Ξ _) ?_ ?_⟩
 ·rintro i acc U hi ⟨j,rfl,hl,nd,R,O⟩
  refine⟨⟨nV S,(nV S)[i],DY.of (R _ _ gS),Μ hi⟩,λy Z hy=>?_⟩
  obtain⟨rfl,_⟩:=hy
  intro p hp
  refine⟨j++[p],by rw[ϯ];rfl,by rw[Υ,hl];rfl,?_,R.new hp,λd SQ=>?_⟩
  ·rw[ı]
   refine⟨nd,by simp,λa ha b hb e=>?_⟩
   rw[Φ.mp hb]at e
   subst e
   rw[(O a ha).2]at hp;cases hp
  ·rcases Ϣ.mp SQ with A|A
   ·refine⟨(O d A).1,?_⟩
    rw[af (ag (O d A).2 hp)];exact(O d A).2
   ·rw[Φ.mp A]
    exact⟨R.free hp,ac⟩
 rintro acc U ⟨j,rfl,IA,nd,R,O⟩
 refine⟨⟨nV S,DY.of (R _ _ gS),Ξ _⟩,λD hD=>?_⟩
 have YN:=R.free hD
 have s5:=R.new (o:=.ρ (j.map V.ref)) hD
 have hds:=λd A=>(O d A).1
 have g5:F5 (π U D (.ρ (j.map V.ref))) D j (Ϫ ps.length []):=by
  refine⟨ac,by rw[IA,NR,é],nd,λi d e=>?_⟩
  have A:=Ϗ e
  rw[af (ag (O d A).2 hD),(O d A).2,lf];rfl
 generalize π U D (.ρ (j.map V.ref))=Z at s5 g5⊢
 have wr:∀{I:Hp}{d:Ν}{o:HO},DP H I->d∈j->DP H (π I d o):=λ{I d o} s2 A b u e=>by rw[af (ag e (hds d A))];exact s2 _ _ e
 refine⟨sa,Λ,⟨_,DY.of (s5 _ _ gS)⟩,?_⟩
 refine gx (sq:=λH=>DY K H sa) (xs:=nV S) (λi B I=>∃a3 a4 a5 L:Option V,DP H I/\F5 I D j ((ό i).foldl (jM (dN wy ps) (y1 S)) (Ϫ ps.length []))/\B=[Β (.ref x),Β (.ref sa),Β (.ref D),a3,a4,a5,L])
  ⟨Γ,Γ,Γ,Γ,s5,g5,Λ⟩ (λi B I _ DT=>by obtain⟨_,_,_,_,s2,_⟩:=DT;exact DY.of (s2 _ _ gS)) ?_ ?_
 ·rintro l v r B I t ⟨a3,a4,a5,L,s2,g2,rfl⟩ LO
  have hl:l<S.length:=by have:=(gQ0 t);rw[aU]at this;exact this
  have FW:=oX hl
  rw[FW]at t
  have t:=Ψ t
  subst t
  have NY:S.getD l 0<2^n:=by
   rw[Ω,Μ hl]
   exact IK _ (ė hl)
  have s3:=s2.new (o:=.tup [.int (l:Int),.int ((S.getD l 0:Nat):Int)]) LO
  have g3:=g2.same ((DP.refl I).new (o:=.tup [.int (l:Int),.int ((S.getD l 0:Nat):Int)]) LO)
  refine⟨r,_,Λ,DY.of ac,Λ,_,_,Λ,_,_,Λ,Λ,?_⟩
  generalize π I r (.tup [.int (l:Int),.int ((S.getD l 0:Nat):Int)])=H3 at s3 g3⊢
  refine⟨S.getD l 0,Λ,Ϥ NY (Ľ (by decide) (by omega)),λMb SO=>⟨Mb,Λ,⟨_,DS.of ac⟩,?_⟩⟩
  rw[nk]
  have R:=s3.new (o:=.ρ (nV (cK (S.getD l 0)))) SO
  have g4:=g3.same ((DP.refl H3).new (o:=.ρ (nV (cK (S.getD l 0)))) SO)
  have gM:(π H3 Mb (.ρ (nV (cK (S.getD l 0))))) Mb=Β (.ρ (nV (cK (S.getD l 0)))):=ac
  have nMb:∀d∈j,Mb≠d:=λd A z=>by
   obtain⟨i,hi,ei⟩:=ô A
   have e:=g3.d i d (by rw[Μ hi,ei])
   rw[←z,SO]at e;cases e
  generalize π H3 Mb (.ρ (nV (cK (S.getD l 0))))=U at R g4 gM⊢
  generalize OL:(ό l).foldl (jM (dN wy ps) (y1 S)) (Ϫ ps.length [])=L0 at g4
  have Z1:E2 (dN wy ps) (y1 S) ps.length L0:=by
   rw[←OL]
   exact E2.all _ E2.init λz hz=>by have:=Ë.mp hz;omega
  refine bV (K:=K) (a:=Mb) (xs:=nV (cK (S.getD l 0))) (λm B Z=>∃a5 L:Option V,DP H Z/\Z Mb=Β (.ρ (nV (cK (S.getD l 0))))/\F5 Z D j (((cK (S.getD l 0)).take m).foldl (fq (dN wy ps) l) L0)/\B=[Β (.ref x),Β (.ref sa),Β (.ref D),Β (.int (l:Int)),Β (.int ((S.getD l 0:Nat):Int)),a5,L])
   ⟨_,_,R,gM,g4,Λ⟩ (λm B Z _ DT=>by obtain⟨_,_,_,g5,_⟩:=DT;exact DS.of g5) ?_ ?_
  ·rintro m v B Z t ⟨a5,L,Vp,gM5,JT,rfl⟩
   have A:m<(cK (S.getD l 0)).length:=by have:=(gQ0 t);rw[aU]at this;exact this
   have X:=Μ A
   have FW:=cZ X
   rw[FW]at t
   have t:=Ψ t
   subst t
   generalize (cK (S.getD l 0))[m]=g at X
   have hgm:g∈y1 S l:=Ϗ X
   have SR:E2 (dN wy ps) (y1 S) ps.length (((cK (S.getD l 0)).take m).foldl (fq (dN wy ps) l) L0):=E2.Ek (by omega) _ Z1 λz hz=>ì hz
   have Kb:((cK (S.getD l 0)).take (m+1)).foldl (fq (dN wy ps) l) L0=fq (dN wy ps) l (((cK (S.getD l 0)).take m).foldl (fq (dN wy ps) l) L0) g:=by
    rw[ß,X,Ŏ];rfl
   rw[Kb]
   generalize ((cK (S.getD l 0)).take m).foldl (fq (dN wy ps) l) L0=L1 at JT SR
   refine⟨x,lx,Eh,lt,n,DX,ps,wy,l,g,Λ,hT.same W Vp,by omega,λOw H6 s6 hOw gOw=>⟨Ow,Λ,⟨_,DS.of gOw⟩,?_⟩⟩
   have nOw:∀d∈j,Ow≠d:=λd A z=>by
    obtain⟨i,hi,ei⟩:=ô A
    have e:=JT.d i d (by rw[Μ hi,ei])
    rw[←z,hOw]at e;cases e
   have Vo:=xD hT.ok g l
   refine bV (K:=K) (a:=Ow) (xs:=nV (dN wy ps g l)) (λk B H7=>∃L:Option V,DP H H7/\H7 Mb=Β (.ρ (nV (cK (S.getD l 0))))/\H7 Ow=Β (.ρ (nV (dN wy ps g l)))/\F5 H7 D j (((dN wy ps g l).take k).foldl (eA l g) L1)/\B=[Β (.ref x),Β (.ref sa),Β (.ref D),Β (.int (l:Int)),Β (.int ((S.getD l 0:Nat):Int)),Β (.int (g:Int)),L])
    ⟨_,Vp.trans s6,s6 _ _ gM5,gOw,JT.same s6,Λ⟩ (λk B H7 _ DT=>by obtain⟨_,_,_,M,_⟩:=DT;exact DS.of M) ?_ ?_
   ·rintro k v B H7 t ⟨L,s7,Vq,Pg,M,rfl⟩
    have hk:k<(dN wy ps g l).length:=by have:=(gQ0 t);rw[aU]at this;exact this
    have Y:=Μ hk
    have FW:=cZ Y
    rw[FW]at t
    have t:=Ψ t
    subst t
    generalize (dN wy ps g l)[k]=G at Y
    have hwm:=Ϗ Y
    have Hy:=Vo G hwm
    have LP:E2 (dN wy ps) (y1 S) ps.length (((dN wy ps g l).take k).foldl (eA l g) L1):=E2.μ (by omega) hgm _ SR λz hz=>ì hz
    have Z2:((dN wy ps g l).take (k+1)).foldl (eA l g) L1=eA l g (((dN wy ps g l).take k).foldl (eA l g) L1) G:=by
     rw[ß,Y,Ŏ];rfl
    rw[Z2]
    generalize ((dN wy ps g l).take k).foldl (eA l g) L1=L2 at M LP
    have IA:G<j.length:=by rw[M.len,LP.len];exact Hy
    have N:=Μ IA
    generalize j[G]=d at N
    have SQ:=Ϗ N
    have gd:=M.d G d N
    have FE:=LP.E4 G
    refine⟨D,_,_,.ref d,Λ,Λ,DS.of M.l,al (by rw[ϝ,N];rfl),d,Λ,.inl ⟨_,.inl gd⟩,_,Ï (l:Int),gd,Λ,by rw[lV,ϗ];omega,λv t=>?_,λt=>?_⟩
    ·have HR:l∈ks (L2.getD G []):=by
      have e:=nv (L2.getD G []) l
      rw[t]at e
      exact of_decide_eq_true e.symm
     refine⟨_,s7,Vq,Pg,?_,Λ⟩
     unfold eA mq
     rw[Ι HR]
     have:L2.set G (L2.getD G [])=L2:=by
      have El:G<L2.length:=by rw[LP.len];exact Hy
      rw[Ω,Μ El]
      exact List.set_getElem_self El
     rw[this];exact M
    ·have HR:l∉ks (L2.getD G []):=by
      have e:=nv (L2.getD G []) l
      rw[t]at e
      exact of_decide_eq_false e.symm
     rw[yl g HR]
     refine⟨_,wr s7 SQ,by rw[af (nMb d SQ)];exact Vq,by rw[af (nOw d SQ)];exact Pg,?_,Λ⟩
     unfold eA mq
     rw[Θ HR]
     exact M.put N
   ·rintro B H7 ⟨L,s7,Vq,Pg,M,rfl⟩
    rw[aU,Þ]at M
    exact⟨_,_,s7,Vq,M,Λ⟩
  ·rintro B Z ⟨a5,L,Vp,gM5,JT,rfl⟩
   refine⟨_,_,_,_,Vp,?_,Λ⟩
   rw[aU,Þ]at JT
   rw[ĩ,Ŏ,OL]
   exact JT
 ·rintro B I ⟨a3,a4,a5,L,s2,g2,rfl⟩
  rw[NR]at g2
  exact(q D j I s2 g2)
end K69
namespace K69
open PySem L2 LkM
noncomputable def Du(s:Ã):Scope:=match s with
 |.For _ _ (.If (.BoolOp _ [_,.Call _ [.ListComp _ _ sc _] _ _] _) _ _ _:: _) _ _=>sc
 |_=>kz
theorem j9(L:Ld)(a:Dn)(i:Nat):(ό (i+1)).filter (dL L a)=if dL L a i=Δ then (ό i).filter (dL L a)++[i] else (ό i).filter (dL L a):=by
 rw[ĩ,ÿ]
 cases h:dL L a i with
 |true=>simp[h]
 |false=>simp[h]
theorem xZ{fs:List Nat}(a:fs.Nodup)(h:fs[i]?=Β l):l∉fs.take i:=by
 intro b
 obtain⟨j,d,e⟩:=Ž.mp b
 obtain⟨f,c⟩:=ϥ.mp h
 have:j=i:=(cb a).mp (e.trans c.symm)
 omega
theorem DF(d a:Dn):(((dV d).map (·.1)).filter λ_=>Δ).map (λk=>V.bl (cU (dV a) k).isSome)=((ks d).map λk=>decide (k∈ks a)).map V.bl:=by
 rw[cc.mpr (λ_ _=>rfl),uy,ê,ê]
 refine ŗ λk _=>?_
 show V.bl (cU (dV a) (Ï (k:Int))).isSome=V.bl (decide (k∈ks a))
 rw[nv]
inductive wt(vs:List V)(H:Hp)(Q:VK)(E:XK):Prop
 |mk (D nu:Ν) (ds:List Ν) (L:Ld) (a:Dn) (_:vs=[.ref D,.ref nu]) (_:F5 H D ds L) (_:H nu=Β (.dK (dV a))) (_:nu∉ds) (_:L.length<=1000) (_:(∀w,(L.getD w []).length<=1000)) (_:∀(Fr:Ν)(H':Hp),DP H H'->H Fr=Γ->H' Fr=Β (.ρ (nV (bM L a)))->Q (.ref Fr) H')
inductive wq(vs:List V)(H:Hp)(Q:VK)(E:XK):Prop
 |mk (D:Ν) (ds:List Ν) (L:Ld) (_:vs=[.ref D]) (_:F5 H D ds L) (_:L.length<=1000) (_:(∀w,(L.getD w []).length<=1000)) (_:∀(nu:Ν)(H':Hp),DP H H'->H nu=Γ->nu∉ds->H' nu=Β (.dK (dV (jy L)))->Q (.ref nu) H')
abbrev NNx:List Str:=["leads","numbers","free","lane","before"]
abbrev NNb:List Str:=["leads","numbers","moves","free","lane"]
theorem LQ:ar NNx ["leads","numbers"] (aj qa):=L2.Ez
theorem Z3:EV NNx (aj qa) (Du ((aJ qa).getD 1 (.Pass ⟨0,0,0,0⟩))) ["numbers"] [1]:=L2.FH
theorem SS:(["other","numbers"]:List Str).Nodup:=by decide +kernel
theorem zX(F:Et K "lanes_next" "lanes_next" qa f fd)(T:eK mg):DQ P w K mg ν aB 1 f fd ["leads","numbers"] wt:=by
 refine F.ok LQ λ_ _ _ s H _ Q E hr h=>?_
 obtain⟨D,G,I,L,a,rfl,m,JU,K3,Jz,GX,q⟩:=h
 have Jt:=ă (Đ (show 1<=64 by decide) _) hr.units
 refine⟨_,ae (av (i:=2) LQ.nd Λ (ύ Λ) (aW ad))
  (ae (bz Ϟ Λ (lj Λ T.enum (aa (pv 0) ad)) (gh Λ (bP (ax (i:=3) LQ.nd Λ (ύ Λ)) (bP (ax (i:=4) LQ.nd Λ (ύ Λ)) eG)))
   (ah (aO (PW.pt (lh (jt (gJ Jt (pv 3) (pv 1)) (by with_unfolding_all rfl)) (iL (bH (ay (jh Λ) Λ T.all Ĝ (aa (tK (b5 (own:=["other"]) (capN:=["numbers"]) (cap:=[1]) Z3 Λ (oO (pv 4))
     (λC s' H' fp=>⟨ax (i:=0) SS Λ (ύ Λ),bX,Cv (Cz Jt (pv 0) (pv 1)) (by with_unfolding_all rfl)⟩))) ad))))))
    (ah (aM (c8 plainAttrs_list PySem.F.slot_list_append PySem.F.type_list_append bD (pv 2) (aa (pv 3) ad)))) aE)))
  (ah (au (pv 2)))),?_⟩
 refine⟨Ϧ _,λg S=>?_⟩
 have U:=(DP.refl H).new (o:=.ρ []) S
 have g0:(π H g (.ρ [])) g=Β (.ρ (nV ((ό 0).filter (dL L a)))):=ac
 generalize π H g (.ρ [])=H0 at U g0⊢
 have r:(I.map V.ref).length=L.length:=by rw[Ο];exact m.len
 refine⟨D,Λ,⟨_,DS.of (U _ _ m.l)⟩,?_⟩
 refine gx (sq:=λH=>DS K H D) (xs:=I.map V.ref) (λi J j=>∃X Y:Option V,DP H j/\j g=Β (.ρ (nV ((ό i).filter (dL L a))))/\J=[Β (.ref D),Β (.ref G),Β (.ref g),X,Y])
  ⟨Γ,Γ,U,g0,Λ⟩ (λi J j _ DT=>by obtain⟨_,_,t,_⟩:=DT;exact DS.of (t _ _ m.l)) ?_ ?_
 ·rintro i v p J j u ⟨X,Y,t,x,rfl⟩ hp
  have hi:i<I.length:=by have:=(gQ0 u);rw[Ο]at this;exact this
  have c:=Μ hi
  generalize I[i]=d at c
  rw[ϝ,c]at u
  have u:=Ψ u
  subst u
  have y:=t.new (o:=.tup [.int (i:Int),.ref d]) hp
  have M:(π j p (.tup [.int (i:Int),.ref d])) g=Β (.ρ (nV ((ό i).filter (dL L a)))):=by rw[af (ag x hp)];exact x
  refine⟨p,_,Λ,DY.of ac,Λ,_,_,Λ,_,_,Λ,Λ,?_⟩
  generalize π j p (.tup [.int (i:Int),.ref d])=A at y M⊢
  have gd:=y _ _ (m.d i d c)
  have LR:=y _ _ JU
  have Hu:i<L.length:=by rw[←m.len];exact hi
  have UZ:((ό i).filter (dL L a)).length<=i:=by
   have:=Ò (dL L a) (ό i)
   rwa [å]at this
  refine⟨G,_,Λ,F2.k (k:=Ï (i:Int)) LR,_,Λ,?_⟩
  rw[nv]
  by_cases O:i∈ks a
  ·rw[Ζ O]
   refine aG (aG ⟨_,_,y,?_,Λ⟩)
   rw[j9,Θ (by unfold dL;rw[Ζ O];simp)]
   exact M
  rw[Η O]
  refine aK ⟨d,_,Λ,gd,λo=>?_⟩
  have Z4:G≠d:=λz=>K3 (by rw[z];exact Ϗ c)
  refine nQ (λ_=>Δ) (λk=>V.bl (cU (dV a) k).isSome) (by rw[lV,ϗ];have:=GX i;omega) ac (λk acc N hk hN=>?_) (λB Z=>?_)
  ·exact⟨G,_,Λ,F2.k (k:=k) (by rw[af Z4];exact LR),hN⟩
  have nf:∀o' u',H d≠Β (.Fq o' u'):=λo' u' z=>by rw[m.d i d c]at z;cases z
  have Oa:=ϛ (ag (H:=π A d (.Fq o (.dK (dV (L.getD i []))))) ac Z)
  have SU:A B=Γ:=by rw[af Oa]at Z;exact Z
  refine⟨d,o,.dK (dV (L.getD i [])),by rw[af (ϛ Oa)];exact ac,nf,?_⟩
  rw[pO Oa,pP gd,DF]
  have s4:=y.new (o:=.ρ (((ks (L.getD i [])).map λk=>decide (k∈ks a)).map V.bl)) SU
  have g4:(π A B (.ρ (((ks (L.getD i [])).map λk=>decide (k∈ks a)).map V.bl))) B=Β (.ρ (((ks (L.getD i [])).map λk=>decide (k∈ks a)).map V.bl)):=ac
  have R:(π A B (.ρ (((ks (L.getD i [])).map λk=>decide (k∈ks a)).map V.bl))) g=Β (.ρ (nV ((ό i).filter (dL L a)))):=by rw[af (ag M SU)];exact M
  generalize π A B (.ρ (((ks (L.getD i [])).map λk=>decide (k∈ks a)).map V.bl))=H4 at s4 g4 R⊢
  refine⟨B,_,Λ,DS.of g4,_,Λ,?_⟩
  rw[sR]
  have efb:dL L a i=(ks (L.getD i [])).all λk=>decide (k∈ks a):=by
   unfold dL
   rw[Η O];rfl
  rw[←efb]
  cases hb:dL L a i with
  | false =>
   refine aG ⟨_,_,s4,?_,Λ⟩
   rw[j9,hb,Θ (by decide)];exact R
  | true =>
   refine aK ⟨.inl ⟨Λ,_,DS.of R⟩,g,_,_,Λ,Λ,R,by rw[ϗ,aU];omega,?_⟩
   refine⟨_,_,λb o e=>by rw[af (ag e S)];exact s4 _ _ e,?_,Λ⟩
   rw[j9,hb,Ι Λ,ir,ac];rfl
 ·rintro J j ⟨X,Y,t,x,rfl⟩
  rw[r]at x
  exact(q g j t S x)
theorem IL:ar NNb ["leads"] (aj wV):=L2.Ez
theorem zW(F:Et K "number_lanes" "number_lanes" wV f fd)(mx:mg "lanes_next"=Β (.ref fx))(kx:ϳ K (.ref fx)=Δ)(bx:Binds K dx ["leads","numbers"] [])(Gx:DQ P w K mg ν aB 1 fx dx ["leads","numbers"] wt):
  DQ P w K mg ν aB 2 f fd ["leads"] wq:=by
 refine F.ok IL λ_ _ _ s H _ Q E S h=>?_
 obtain⟨D,T,L,rfl,U,Jz,GX,q⟩:=h
 have Jt:=ă (Đ (show 1<=64 by decide) _) S.units
 refine⟨_,ae (av (i:=1) IL.nd Λ (ύ Λ) lm)
  (ae (av (i:=2) IL.nd Λ (ύ Λ) ai)
  (ae (av (i:=3) IL.nd Λ (ύ Λ) (aq Gx S Λ mx kx bx .nil ao (aa (pv 0) (aa (pv 1) ad))))
  (ae (ge Ϟ (iO (pv 3) (λ_=>rfl))
   (ae (bz Ϟ Λ (aV (pv 3)) (ax (i:=4) IL.nd Λ (ύ Λ)) (ah (oM Jt (pv 1) (pv 4) (pv 2) Λ)))
   (ae (se (i:=2) IL.nd Λ (ύ Λ) ai sF)
   (ah (av (i:=3) IL.nd Λ (ύ Λ) (aq Gx S Λ mx kx bx .nil ao (aa (pv 0) (aa (pv 1) ad))))))))
  (ah (au (pv 1)))))),?_⟩
 refine λc N=>?_
 have X:=(DP.refl H).new (o:=.dK []) N
 have Y:(π H c (.dK [])) c=Β (.dK (dV [])):=ac
 have Z:c∉T:=λt=>by
  obtain⟨i,hi,ei⟩:=ô t
  have e:=U.d i c (by rw[Μ hi,ei])
  rw[N]at e;cases e
 generalize π H c (.dK [])=H0 at X Y⊢
 refine⟨D,c,T,L,[],Λ,U.same X,Y,Z,Jz,GX,λFr H1 s1 Vr gFr=>?_⟩
 refine⟨λm u p=>∃(a:Dn)(g f:Nat)(r:Ν)(x:Option V),m=f/\EX L a g/\jy L=mD L f a g/\L.length+1<=f+a.length/\DP H p/\p c=Β (.dK (dV a))/\p r=Β (.ρ (nV (bM L a)))/\u=[Β (.ref D),Β (.ref c),Β (.int (g:Nat)),Β (.ref r),x],
  ⟨L.length+1,[],0,L.length+1,Fr,_,Λ,EX.nil L,Λ,by simp,X.trans s1,s1 _ _ Y,gFr,Λ⟩,?_⟩
 rintro m u H2 ⟨a,g,f,r,x,rfl,hN,FK,hf,s2,Z5,B,rfl⟩
 refine⟨_,.inl ⟨_,DS.of B,Λ⟩,?_⟩
 have SW:=hN.len
 by_cases y:bM L a=[]
 ·rw[y]
  refine aG (q c H2 s2 N Z ?_)
  rw[FK,qt y];exact Z5
 ·have ht:(!(nV (bM L a)).isEmpty)=Δ:=by
   unfold nV
   cases e:bM L a with
   |nil=>exact Κ e y
   |cons _ _=>rfl
  rw[ht]
  cases m with
  |zero=>omega
  |succ m =>
  rw[nc y]at FK
  have C:=hN.step y
  have Z6:=C.len
  have ML:=ja a (bM L a) g
  have IC:=ĕ.mpr y
  have SX:(LkM.Eo a (bM L a) g).length=a.length+(bM L a).length:=by unfold LkM.Eo;rw[Υ,Ο]
  refine aK ⟨λG p=>∃(O:Ν)(Z7:Option V),DP H p/\p c=Β (.dK (dV (LkM.Eo a (bM L a) g)))/\p O=Β (.ρ (nV (bM L (LkM.Eo a (bM L a) g))))/\G=[Β (.ref D),Β (.ref c),Β (.int ((g+1:Nat):Int)),Β (.ref O),Z7],?_,?_⟩
  ·rintro G p ⟨O,Z7,s',gn',gf',rfl⟩
   exact⟨m,ĝ _,LkM.Eo a (bM L a) g,g+1,m,O,Z7,Λ,C,FK,by omega,s',gn',gf',Λ⟩
  refine⟨r,Λ,⟨_,DS.of B⟩,?_⟩
  have Pw:=aT B Z5 (by intro z;cases z)
  have SY:=ut L a
  have I:∀l∈bM L a,l∉ks a:=λl hl=>(EK.mp hl).2.1
  generalize hfs:bM L a=fs at B SY I SX Z6⊢
  refine bV (K:=K) (a:=r) (xs:=nV fs) (λi u A=>∃x:Option V,DP H A/\A r=Β (.ρ (nV fs))/\A c=Β (.dK (dV (LkM.Eo a (fs.take i) g)))/\u=[Β (.ref D),Β (.ref c),Β (.int (g:Nat)),Β (.ref r),x])
   ⟨_,s2,B,by unfold LkM.Eo;rw[List.take_zero,Js,Ę];exact Z5,Λ⟩ (λi u A _ DT=>by obtain⟨_,_,g3,_⟩:=DT;exact DS.of g3) ?_ ?_
  ·rintro i v u A J ⟨x,R,SK,M,rfl⟩
   have hi:i<fs.length:=by have:=(gQ0 J);rw[aU]at this;exact this
   have j:=Μ hi
   have FW:=cZ j
   rw[FW]at J
   have J:=Ψ J
   subst J
   generalize fs[i]=l at j
   have Z8:l∉ks (LkM.Eo a (fs.take i) g):=by
    rw[ja]
    intro t
    rcases Ϣ.mp t with t|t
    ·exact I l (Ϗ j) t
    ·exact xZ SY j t
   have FZ:(LkM.Eo a (fs.take i) g).length<=a.length+i:=by
    unfold LkM.Eo
    rw[Υ,Ο]
    have:=Ą i fs
    omega
   refine⟨c,_,Λ,IB.k (k:=Ï (l:Int)) M (by rw[lV,ϗ];omega),_,λb o e=>by rw[af (ag e N)];exact R _ _ e,by rw[af Pw];exact SK,?_,Λ⟩
   rw[ac,yl g Z8,ß,j]
   unfold LkM.Eo
   rw[ϯ,←Č];rfl
  ·rintro u A ⟨x,R,SK,M,rfl⟩
   rw[aU,Þ]at M
   refine⟨_,_,Λ,Λ,D,c,T,L,_,Λ,U.same R,M,Z,Jz,GX,λFr2 H4 s4 hFr2 Z9=>?_⟩
   exact⟨Fr2,_,R.trans s4,s4 _ _ M,Z9,Λ⟩
end K69
namespace K69
open PySem L2 LkM
noncomputable def whB(s:Ã):List Ã:=match s with
 |.While _ b _ _=>b
 |_=>[]
noncomputable def AX(s:Ã):Scope:=match s with
 |.Assign _ (.Call _ [.ListComp _ _ sc _] _ _) _=>sc
 |_=>kz
noncomputable def zB(s:Ã):Scope:=match s with
 |.Return (Β (.Call _ [.ListComp _ _ sc _] _ _)) _=>sc
 |_=>kz
theorem Tc(x:Nat)(us:List Nat):B4 (.int (x:Int)) (nV us)=decide (x∈us):=by
 rw[show nV us=(iz us).map V.int from iU us,kB]
 exact pf
theorem AI(us:List Nat):(nV us).all gY=Δ:=by
 rw[show nV us=(iz us).map V.int from iU us]
 exact gN _
theorem yr(l:Nat):∀us:List Nat,(iz us).idxOf (l:Int)=us.idxOf l
 |[]=>rfl
 | x:: us=>by
  show List.idxOf (l:Int) ((x:Int):: iz us)=_
  rw[JV,JV,yr l us]
  by_cases h:x=l
  ·rw[h];simp
  ·have a:((x:Int) == (l:Int))=Ε:=by simp;omega
   have b:(x == l)=Ε:=by simp;exact h
   rw[a,b]
theorem AV(d a:Dn):(((dV d).map (·.1)).filter λk=>!(cU (dV a) k).isSome).map kV=nV ((ks d).filter λk=>!decide (k∈ks a)):=by
 rw[uy]
 unfold nV
 rw[S8,ê]
 congr 1
 refine OV λk _=>?_
 show(!(cU (dV a) (Ï (k:Int))).isSome)=_
 rw[nv]
inductive wI(vs:List V)(H:Hp)(Q:VK)(E:XK):Prop
 |mk (D nu:Ν) (ds:List Ν) (L:Ld) (a:Dn) (_:vs=[.ref D,.ref nu]) (_:F5 H D ds L) (_:H nu=Β (.dK (dV a))) (_:nu∉ds) (_:L.length<=1000) (_:(∀w,(L.getD w []).length<=1000)) (_:(∀w,∀x∈ks (L.getD w []),x<L.length)) (_:bM L a=[]) (_:a.length<L.length) (_:∀(R:Ν)(H':Hp),DP H H'->H' R=Β (.ρ (nV (kD L a)))->Q (.ref R) H')
inductive wm(vs:List V)(H:Hp)(Q:VK)(E:XK):Prop
 |mk (D nu:Ν) (ds:List Ν) (L:Ld) (a:Dn) (_:vs=[.ref D,.ref nu]) (_:F5 H D ds L) (_:H nu=Β (.dK (dV a))) (_:nu∉ds) (_:L.length<=1000) (_:(∀w,(L.getD w []).length<=1000)) (_:(∀w,∀x∈ks (L.getD w []),x<L.length)) (_:bM L a=[]) (_:a.length<L.length) (_:∀(R:Ν)(us:List V)(H':Hp),DP H H'->H' R=Β (.tup us)->Eu H' us ((B0 L (kD L a).reverse).map pI)->Q (.ref R) H')
abbrev ZA:List Str:=["leads","numbers","left","walked","lane"]
abbrev NRg:List Str:=["leads","numbers","lanes","following"]
theorem K4:ar ZA ["leads","numbers"] (aj kZ):=L2.Ez
theorem ZC:EV ZA (aj kZ) (yM ((aJ kZ).getD 0 (.Pass ⟨0,0,0,0⟩))) ["numbers"] [1]:=L2.FH
theorem ZD:EV ZA (aj kZ) (AX ((whB ((aJ kZ).getD 3 (.Pass ⟨0,0,0,0⟩))).getD 1 (.Pass ⟨0,0,0,0⟩))) ["numbers"] [1]:=L2.FH
theorem Td:(["lane","numbers"]:List Str).Nodup:=by decide +kernel
theorem Ao(F:Et K "walk_back" "walk_back" kZ f fd)(T:eK mg):DQ P w K mg ν aB 1 f fd ["leads","numbers"] wI:=by
 refine F.ok K4 λ_ _ _ s H _ Q E hr h=>?_
 obtain⟨D,J,ds,L,a,rfl,A,JU,K3,Jz,GX,El,K5,SW,q⟩:=h
 have Jt:=ă (Đ (show 1<=64 by decide) _) hr.units
 refine⟨_,ae (dB (i:=2) (own:=["lane"]) (capN:=["numbers"]) (cap:=[1]) ZC Λ K4.nd Λ Λ (bL Λ T.range (aa (ay aw Λ T.len PySem.boot_len (aa (pv 0) ad)) ad))
   (λC s' u fp=>⟨ax (i:=0) Td Λ (ύ Λ),cX (jt (gJ Jt (pv 0) (pv 1)) (by with_unfolding_all rfl)),pv 0⟩))
  (ae (av (i:=3) K4.nd Λ (ύ Λ) (aW ad))
  (ae (av (i:=4) K4.nd Λ (ύ Λ) (aD aR (pv 2) ai (λ_ _=>rfl)))
  (ae (ge Ϟ (az (iR) (pv 4) (pv 3) (by with_unfolding_all rfl))
   (ae (aM (c8 plainAttrs_list PySem.F.slot_list_append PySem.F.type_list_append bD (pv 3) (aa (pv 4) ad)))
   (ah (av (i:=4) K4.nd Λ (ύ Λ) (ay (vB Λ) Λ T.min PyProof.Rows.boot_min (aa (tK (b5 (own:=["other"]) (capN:=["numbers"]) (cap:=[1]) ZD Λ (oO (aD aR (pv 0) (pv 4) (λ_ _=>rfl)))
    (λC s' u fp=>⟨ax (i:=0) SS Λ (ύ Λ),cX (jt (gJ Jt (pv 0) (pv 1)) (by with_unfolding_all rfl)),pv 0⟩))) ad))))))
  (ah (au (dF eB (pv 3) (cY (c8 plainAttrs_list slot_list_index PySem.F.type_list_index nh (pv 3) (aa (pv 4) ad))) iP)))))),?_⟩
 have M:(ds.map V.ref).length=L.length:=by rw[Ο];exact A.len
 refine⟨D,_,Λ,.inl (DS.of A.l),(L.length:Int),by rw[M],by omega,by omega,?_⟩
 rw[ϋ]
 refine jd (lo:=0) (λk=>!decide (k∈ks a)) (λk=>V.int k) (by rw[ϗ];omega) (λi acc N hi h=>?_) (λr hLf=>?_)
 ·rw[ĥ]
  refine⟨J,_,Λ,F2.k (k:=Ï (i:Int)) JU,_,Λ,?_⟩
  rw[nv]
  cases O:(!decide (i∈ks a)) with
  | true =>
   rw[O]at h
   exact aK (h)
  | false =>
   rw[O]at h
   exact aG h
 have eL:(List.filter (λk=>!decide (k∈ks a)) (ό L.length)).map (λk:Nat=>V.int (k:Int))=nV (dI L a):=rfl
 rw[eL]
 have s0:=(DP.refl H).new (o:=.ρ (nV (dI L a))) hLf
 have g0:(π H r (.ρ (nV (dI L a)))) r=Β (.ρ (nV (dI L a))):=ac
 generalize π H r (.ρ (nV (dI L a)))=H0 at s0 g0⊢
 refine⟨Ϧ _,λg ZE=>?_⟩
 have ZF:=s0.free ZE
 have s1:=s0.new (o:=.ρ []) ZE
 have Vb:(π H0 g (.ρ [])) r=Β (.ρ (nV (dI L a))):=by rw[af (ag g0 ZE)];exact g0
 have S:(π H0 g (.ρ [])) g=Β (.ρ (nV [])):=ac
 generalize π H0 g (.ρ [])=H1 at s1 Vb S⊢
 have Ex:=uc SW
 have Vt:(nV (dI L a))[0]?=Β (.int (((dI L a).headD 0:Nat):Int)):=by
  cases e:dI L a with
  |nil=>exact Κ e Ex
  |cons z t=>rfl
 refine⟨r,_,0,_,Λ,Λ,DS.of Vb,al (j:=0) Vt,?_⟩
 have hW0:ID L a [] ((dI L a).headD 0):=by
  cases e:dI L a with
  |nil=>exact Κ e Ex
  | cons z t =>
   have hz:z∈dI L a:=by rw[e];exact ϟ
   obtain⟨h1,h2⟩:=Å.mp hz
   exact⟨ä,(λy hy=>by cases hy),⟨Ë.mp h1,by simpa using h2⟩,(λi x y U=>by simp at U),λx U=>by simp at U⟩
 refine⟨λm σ u=>∃(c:List Nat)(l f:Nat),m=f/\ID L a c l/\kD L a=mO L a f c l/\L.length+1<=f+c.length/\DP H u/\u g=Β (.ρ (nV c))/\σ=[Β (.ref D),Β (.ref J),Β (.ref r),Β (.ref g),Β (.int (l:Nat))],
  ⟨L.length+1,[],_,L.length+1,Λ,hW0,Λ,by simp,s1,S,Λ⟩,?_⟩
 rintro m σ H2 ⟨c,l,f,rfl,G,X,hf,s2,I,rfl⟩
 have Hy:=jJ _ _ G.nd λx U=>(G.lt x U).1
 refine⟨g,_,Λ,.inl (DS.of I),Λ,AI c,_,Λ,?_⟩
 rw[Tc]
 cases m with
 |zero=>omega
 |succ m =>
 rw[mO]at X
 by_cases v:l∈c
 ·rw[Ζ v]
  rw[Ι v]at X
  have hii:=JQ (Ĵ v)
  refine aG ⟨.inl ⟨Λ,_,DS.of I⟩,g,iz c,(l:Int),Λ,Λ,by rw[I];exact congrArg (λz=>Β (HO.ρ z)) (iU c),Fb.mpr ⟨l,v,Λ⟩,by unfold iz;rw[Ο];omega,_,Λ,g,_,Λ,DS.of I,λR hR=>?_⟩
  rw[yr,qR c hii]
  refine q R _ (s2.new hR) ?_
  rw[ac,X]
 ·rw[Η v]
  rw[Θ v]at X
  have Ji:=G.step El K5 v
  refine aK ⟨λY u=>DP H u/\u g=Β (.ρ (nV (c++[l])))/\Y=[Β (.ref D),Β (.ref J),Β (.ref r),Β (.ref g),Β (.int ((lA (gE L a l):Nat):Int))],?_,?_⟩
  ·rintro Y u ⟨s',gw',rfl⟩
   exact⟨m,ĝ _,c++[l],_,m,Λ,Ji,X,by rw[Υ,ϙ];omega,s',gw',Λ⟩
  refine⟨.inl ⟨Λ,_,DS.of I⟩,g,_,_,Λ,Λ,I,by rw[ϗ,aU];omega,?_⟩
  have Z:DP H (π H2 g (.ρ (nV c++[V.int (l:Int)]))):=λb o e=>by rw[af (ag e ZF)];exact s2 _ _ e
  have ZG:(π H2 g (.ρ (nV c++[V.int (l:Int)]))) g=Β (.ρ (nV (c++[l]))):=by rw[ac,ir];rfl
  generalize π H2 g (.ρ (nV c++[V.int (l:Int)]))=H3 at Z ZG⊢
  have FZ:l<ds.length:=by rw[A.len];exact G.cur.1
  have p:=Μ FZ
  generalize ds[l]=d at p
  have gd:=Z _ _ (A.d l d p)
  have LR:=Z _ _ JU
  have Z4:J≠d:=λz=>K3 (by rw[z];exact Ϗ p)
  refine⟨D,_,_,.ref d,Λ,Λ,DS.of (Z _ _ A.l),al (by rw[ϝ,p];rfl),d,_,Λ,gd,λo=>?_⟩
  refine nQ (λk=>!(cU (dV a) k).isSome) kV (by rw[lV,ϗ];have:=GX l;omega) ac (λk acc N hk hN=>?_) (λB hB=>?_)
  ·refine⟨J,_,Λ,F2.k (k:=k) (by rw[af Z4];exact LR),_,Λ,?_⟩
   cases O:(!(cU (dV a) k).isSome) with
   | true =>
    rw[O]at hN
    exact aK (hN)
   | false =>
    rw[O]at hN
    exact aG hN
  have nf:∀o' u',H d≠Β (.Fq o' u'):=λo' u' z=>by rw[A.d l d p]at z;cases z
  have Oa:=ϛ (ag (H:=π H3 d (.Fq o (.dK (dV (L.getD l []))))) ac hB)
  have SU:H3 B=Γ:=by rw[af Oa]at hB;exact hB
  refine⟨d,o,.dK (dV (L.getD l [])),by rw[af (ϛ Oa)];exact ac,nf,?_⟩
  rw[pO Oa,pP gd,AV]
  have s4:=Z.new (o:=.ρ (nV (gE L a l))) SU
  have g4:(π H3 B (.ρ (nV (gE L a l)))) B=Β (.ρ ((iz (gE L a l)).map V.int)):=by rw[ac];exact congrArg (λz=>Β (HO.ρ z)) (iU _)
  have gw4:(π H3 B (.ρ (nV (gE L a l)))) g=Β (.ρ (nV (c++[l]))):=by rw[af (ag ZG SU)];exact ZG
  have Te:=rg K5 G.cur.1 G.cur.2
  refine⟨B,iz (gE L a l),Λ,DS.of g4,λz=>Te (ž.mp z),λk hk ω=>?_⟩
  obtain⟨k',FG,rfl⟩:=Fb.mp hk
  have ek:=Av FG λz hz=>by
   have:=ω (z:Int) (Fb.mpr ⟨z,hz,Λ⟩)
   omega
  rw[ek]
  exact⟨s4,gw4,Λ⟩
theorem Ob:ar NRg ["leads","numbers"] (aj pZ):=L2.Ez
theorem ZH:EV NRg (aj pZ) (zB ((aJ pZ).getD 2 (.Pass ⟨0,0,0,0⟩))) ["leads"] [0]:=L2.FH
theorem Tf:(["lane","after","leads"]:List Str).Nodup:=by decide +kernel
theorem zQ(F:Et K "find_ring" "find_ring" pZ f fd)(T:eK mg)(mx:mg "walk_back"=Β (.ref fx))(kx:ϳ K (.ref fx)=Δ)(bx:Binds K dx ["leads","numbers"] [])(Gx:DQ P w K mg ν aB 1 fx dx ["leads","numbers"] wI):
  DQ P w K mg ν aB 2 f fd ["leads","numbers"] wm:=by
 refine F.ok Ob λ_ _ _ s H _ Q E hr h=>?_
 obtain⟨D,nu,ds,L,a,rfl,hL,JU,K3,Jz,GX,El,K5,SW,q⟩:=h
 have Jt:=ă (Đ (show 1<=64 by decide) _) hr.units
 refine⟨_,ae (av (i:=2) Ob.nd Λ (ύ Λ) (mU Λ Λ T.list Λ T.Xj (aa (aq Gx hr Λ mx kx bx .nil ao (aa (pv 0) (aa (pv 1) ad))) ad)))
  (ae (av (i:=3) Ob.nd Λ (ύ Λ) (aC xA (dF eB (pv 2) (cY ai) iP) (dF eB (pv 2) iP (cY ai))))
  (ah (au (aN aY Λ T.tuple PySem.Pv.boot_tuple (aa (b5 (own:=["lane","after"]) (capN:=["leads"]) (cap:=[0]) ZH Λ (Ct Λ T.zip (aa (pv 2) (aa (pv 3) ad)))
   (λC s' H' fp=>⟨(show PG _ _ (AH K 2 _) from gh Λ (bP (ax (i:=0) Tf Λ (ύ Λ)) (bP (ax (i:=1) Tf Λ (ύ Λ)) eG))),bX,
    bq (aa (pv 0) (aa (tM Jt (aD (show uB _ (xn K) from aR) (pv 2) (pv 1) (λ_ _=>rfl)) (pv 0) (λ_ _=>rfl)) ad))⟩)) ad))))),?_⟩
 have B:=zd El K5 SW
 refine⟨D,nu,ds,L,a,Λ,hL,JU,K3,Jz,GX,El,K5,SW,λR H1 s1 gR=>⟨R,_,Λ,DS.of gR,λg HP=>?_⟩⟩
 generalize kD L a=m at B gR q
 have Jp:=jJ _ _ B.nd B.lt
 have ZI:(nV m).reverse=nV m.reverse:=by unfold nV;rw[List.map_reverse]
 rw[ZI]
 have Tg:=B.fwd
 have HA:m.reverse.length=m.length:=ą ..
 have Th:=λx hx=>B.lt x (GZ.mp hx)
 generalize m.reverse=r at Tg HA Th q
 have s2:=s1.new (o:=.ρ (nV r)) HP
 have g2:(π H1 g (.ρ (nV r))) g=Β (.ρ (nV r)):=ac
 generalize π H1 g (.ρ (nV r))=H2 at s2 g2⊢
 have ZJ:1<=r.length:=by rw[HA];exact ĕ.mpr B.ne
 refine⟨1,Λ,g,_,Λ,DS.of g2,λG J=>?_⟩
 rw[show gB (nV r) (Β 1) Γ=nV (r.drop 1) from qR r (i:=1) ZJ]
 have s3:=s2.new (o:=.ρ (nV (r.drop 1))) J
 have g3:(π H2 G (.ρ (nV (r.drop 1)))) g=Β (.ρ (nV r)):=by rw[af (ag g2 J)];exact g2
 have R9:(π H2 G (.ρ (nV (r.drop 1)))) G=Β (.ρ (nV (r.drop 1))):=ac
 generalize π H2 G (.ρ (nV (r.drop 1)))=H3 at s3 g3 R9⊢
 refine⟨1,Λ,g,_,Λ,DS.of g3,λI Gq=>?_⟩
 rw[show gB (nV r) Γ (Β 1)=nV (r.take 1) from sM r 1]
 have s4:=s3.new (o:=.ρ (nV (r.take 1))) Gq
 have g4:(π H3 I (.ρ (nV (r.take 1)))) g=Β (.ρ (nV r)):=by rw[af (ag g3 Gq)];exact g3
 have M:(π H3 I (.ρ (nV (r.take 1)))) G=Β (.ρ (nV (r.drop 1))):=by rw[af (ag R9 Gq)];exact R9
 have N:(π H3 I (.ρ (nV (r.take 1)))) I=Β (.ρ (nV (r.take 1))):=ac
 generalize π H3 I (.ρ (nV (r.take 1)))=H4 at s4 g4 M N⊢
 refine⟨G,I,_,_,Λ,Λ,M,N,by rw[aU,aU,Ĉ,ć,ϗ];omega,λu O=>?_⟩
 rw[←ir]
 have s5:=s4.new (o:=.ρ (nV (pJ r))) O
 have S:(π H4 u (.ρ (nV (pJ r)))) g=Β (.ρ (nV r)):=by rw[af (ag g4 O)];exact g4
 have U:(π H4 u (.ρ (nV (pJ r)))) u=Β (.ρ (nV (pJ r))):=ac
 show cO 3 (V.ref u) _ (π H4 u (.ρ (nV (pJ r)))) _
 generalize π H4 u (.ρ (nV (pJ r)))=H5 at s5 S U⊢
 have hrt:=zy r
 have ZK:∀x∈pJ r,x∈r:=λx hx=>by
  unfold pJ at hx
  rcases Ϣ.mp hx with h|h
  ·exact ű h
  ·exact ì h
 refine⟨g,u,Λ,⟨_,DS.of S⟩,⟨_,DS.of U⟩,bQ r.length (by rw[ϗ];omega) (λi acc c=>DP H5 c/\Eu c acc ((((r.zip (pJ r)).take i).map λp=>(p.1,(fX (L.getD p.2 []) p.1).getD 0)).map pI)) ⟨DP.refl _,.nil⟩ (λi acc c h=>?_) ?_ ?_⟩
 ·rw[Paired.length h.2,Ο,Ο]
  exact Ą _ _
 ·rintro i acc c hi ⟨j,hU⟩
  have X:=Μ hi
  have hi2:i<(pJ r).length:=by omega
  have b:=Μ hi2
  generalize r[i]=x at X
  generalize (pJ r)[i]=y at b
  refine⟨⟨_,_,_,_,DS.of (j _ _ S),DS.of (j _ _ U),cZ X,cZ b⟩,λz H7 hz=>?_⟩
  obtain⟨p,hp,rfl,hz⟩:=hz
  obtain⟨x',y',ex,ey,rfl⟩:=hz _ _ (DS.of (j _ _ S)) (DS.of (j _ _ U))
  rw[cZ X]at ex
  rw[cZ b]at ey
  have ex:=Ψ ex
  have ey:=Ψ ey
  subst ex ey
  have v:=j.new (o:=.tup [.int (x:Int),.int (y:Int)]) hp
  have Y:=Eu.same ((DP.refl c).new (o:=.tup [.int (x:Int),.int (y:Int)]) hp) hU
  refine⟨p,_,Λ,DY.of ac,Λ,_,_,Λ,_,_,Λ,Λ,?_⟩
  generalize π c p (.tup [.int (x:Int),.int (y:Int)])=H7 at v Y⊢
  have Zs:=Th y (ZK y (Ϗ b))
  have hyd:y<ds.length:=by rw[hL.len];exact Zs
  have A:=Μ hyd
  generalize ds[y]=d at A
  have gd:=v _ _ (s5 _ _ (hL.d y d A))
  obtain⟨gl,Z⟩:=fU (Tg i x y X b)
  refine⟨D,_,_,.ref d,Λ,Λ,DS.of (v _ _ (s5 _ _ hL.l)),al (by rw[ϝ,A];rfl),d,.int (gl:Int),Λ,?_,by show 2<=Χ;decide,λt ht=>?_⟩
  ·have e:=lE x (L.getD y [])
   rw[Z]at e
   have e2:=F2.k (k:=Ï (x:Int)) gd
   rw[e]at e2
   exact e2
  refine⟨v.new ht,?_⟩
  have ez:(r.zip (pJ r))[i]?=Β (x,y):=by rw[zz];exact⟨X,b⟩
  rw[ß,ez,ϯ,ϯ]
  refine Eu.snoc ⟨t,Λ,?_⟩ (Eu.same ((DP.refl H7).new ht) Y)
  rw[ac]
  show Β (HO.tup [V.int (x:Int),V.int (gl:Int)])=Β (HO.tup [V.int ((x:Nat):Int),V.int (((fX (L.getD y []) x).getD 0:Nat):Int)])
  rw[Z];rfl
 ·rintro acc c ⟨j,hU⟩
  refine⟨⟨_,_,DS.of (j _ _ S),DS.of (j _ _ U),.inl (by rw[Í];rw[aU];exact Ξ _)⟩,λCm Ti=>?_⟩
  have ZL:=Eu.same ((DP.refl c).new (o:=.ρ acc) Ti) hU
  have v:=(s5.trans j).new (o:=.ρ acc) Ti
  have g7:(π c Cm (.ρ acc)) Cm=Β (.ρ acc):=ac
  generalize π c Cm (.ρ acc)=H7 at ZL v g7⊢
  refine⟨Cm,_,Λ,.inl ⟨DS.of g7,λt ht=>?_⟩⟩
  have hz:(r.zip (pJ r)).length=r.length:=by rw[List.length_zip,hrt,Nat.min_self]
  rw[İ (by omega)]at ZL
  exact q t acc _ (v.new ht) ac (Eu.same ((DP.refl H7).new ht) ZL)
end K69
namespace K69
open PySem L2 LkM
inductive LkR
 |Oc (q:Nat×Nat)
 |ring (r:List (Nat×Nat))
 |HX (N:List Nat)
noncomputable def vJ(wy:cC->Nat)(ps:List (Int×Int))(n:Nat):Ld:=eP (dN wy ps) (y1 (dq wy ps n n)) ps.length
noncomputable def nq(wy:cC->Nat)(ps:List (Int×Int))(n:Nat):LkR:=match nn wy ps n with
 |some q =>.Oc q
 |none=>if (jy (vJ wy ps n)).length<ps.length then .ring (B0 (vJ wy ps n) (kD (vJ wy ps n) (jy (vJ wy ps n))).reverse) else .HX (numsOf (jy (vJ wy ps n)) ps.length)
def Tj(H:Hp)(v:V)(S:List Nat):LkR->Prop
 |.Oc q=>∃t p,v=.ref t/\H t=Β (.tup [.str "lost",.ref p])/\H p=Β (.tup [.int (q.1:Int),.int (q.2:Int)])
 |.ring r=>∃t p us,v=.ref t/\H t=Β (.tup [.str "ring",.ref p])/\H p=Β (.tup us)/\Eu H us (r.map pI)
 |.HX N=>∃t p a b,v=.ref t/\H t=Β (.tup [.str "paper",.ref p])/\H p=Β (.tup [.ref a,.ref b])/\H a=Β (.tup (nV N))/\H b=Β (.tup (nV S))
inductive w8(c:Cs)(C:Ν)(J:mI)(vs:List V)(H:Hp)(Q:VK)(E:XK):Prop
 |mk (x lx Eh lt:Ν) (n:Nat) (DX:List V) (ps:List (Int×Int)) (wy:cC->Nat) (_:vs=[.ref x]) (_:Fi c C J H x lx Eh lt n DX ps wy) (_:∀(v:V)(H':Hp),DP H H'->Tj H' v (dq wy ps n n) (nq wy ps n)->Q v H')
abbrev NLk:List Str:=["table","pair","sets","leads","numbers"]
noncomputable def Co(s:Ã):Scope:=match s with
 |.Return (Β (.Tuple [_,.Tuple [.Call _ [.ListComp _ _ sc _] _ _,_] _ _] _ _)) _=>sc
 |_=>kz
theorem HY:ar NLk ["table"] (aj qd):=L2.Ez
theorem ZM:EV NLk (aj qd) (Co ((aJ qd).getD 6 (.Pass ⟨0,0,0,0⟩))) ["numbers"] [4]:=L2.FH
theorem Ae(F:Et K "look" "look" qd f fd)(T:eK mg)(W:yZ K C fw dw J)
  (ml:mg "lost"=Β (.ref fl)) (kl:ϳ K (.ref fl)=Δ) (bl:Binds K dl ["table"] []) (Gl:DQ P w K mg ν aB 7 fl dl ["table"] (w6 c C J))
  (mm:mg "met"=Β (.ref fm)) (km:ϳ K (.ref fm)=Δ) (bm:Binds K dm ["table"] []) (Gm:DQ P w K mg ν aB 6 fm dm ["table"] (wx c C J))
  (ma:mg "leads_of"=Β (.ref fa)) (ka:ϳ K (.ref fa)=Δ) (ba:Binds K da ["table","sets"] []) (Ga:DQ P w K mg ν aB 5 fa da ["table","sets"] (t7 c C J))
  (mb:mg "number_lanes"=Β (.ref fb)) (kb:ϳ K (.ref fb)=Δ) (bb:Binds K db ["leads"] []) (Gb:DQ P w K mg ν aB 2 fb db ["leads"] wq)
  (mr:mg "find_ring"=Β (.ref fr)) (kr:ϳ K (.ref fr)=Δ) (br:Binds K dr ["leads","numbers"] []) (Gr:DQ P w K mg ν aB 2 fr dr ["leads","numbers"] wm):
  DQ P w K mg ν aB 8 f fd ["table"] (w8 c C J):=by
 refine F.ok HY λ_ _ _ s H _ Q E A h=>?_
 obtain⟨x,lx,Eh,lt,n,DX,ps,wy,rfl,B,q⟩:=h
 have RC:DZ 6 _:=A.mono (by decide)
 have Kv:DZ 5 _:=A.mono (by decide)
 have F3:DZ 2 _:=A.mono (by decide)
 have Jt:=ă (Đ (show 1<=64 by decide) _) A.units
 have hn:=B.JL
 have h40:=B.E4
 refine⟨_,ae (av (i:=1) HY.nd Λ (ύ Λ) (aq Gl A Λ ml kl bl .nil ao (aa (pv 0) ad)))
  (ae (aO (az ku (pv 1) cz (aA _)) (ah (au (bq (aa bR (aa (pv 1) ad))))) aE)
  (ae (av (i:=2) HY.nd Λ (ύ Λ) (aq Gm RC Λ mm km bm .nil ao (aa (pv 0) ad)))
  (ae (av (i:=3) HY.nd Λ (ύ Λ) (aq Ga Kv Λ ma ka ba .nil ao (aa (pv 0) (aa (pv 2) ad))))
  (ae (av (i:=4) HY.nd Λ (ġ Λ) (aq Gb F3 Λ mb kb bb .nil ao (aa (pv 3) ad)))
  (ae (aO (az jI (ay vC Λ T.len PySem.boot_len (aa (pv 4) ad)) (ay aw Λ T.len PySem.boot_len (aa (pv 2) ad)) (aA _))
   (ah (au (bq (aa bR (aa (aq Gr F3 Λ mr kr br .nil ao (aa (pv 3) (aa (pv 4) ad))) ad))))) aE)
  (ah (au (bq (aa bR (aa (bq (aa (aN aY Λ T.tuple PySem.Pv.boot_tuple (aa (b5 (own:=["lane"]) (capN:=["numbers"]) (cap:=[4]) ZM Λ
    (bL Λ T.range (aa (ay aw Λ T.len PySem.boot_len (aa (pv 2) ad)) ad))
    (λC s' H' fp=>⟨ax (i:=0) Td Λ (ύ Λ),bX,tM Jt (pv 1) (pv 0) (λ_ _=>rfl)⟩)) ad)) (aa (pv 2) ad))) ad)))))))))),?_⟩
 refine⟨x,lx,Eh,lt,n,DX,ps,wy,Λ,B,λv H1 Z r=>?_⟩
 refine⟨Λ,_,Λ,?_⟩
 unfold nq at q
 cases Hn:nn wy ps n with
 | some p =>
  rw[Hn]at r q
  obtain⟨t,rfl,gt⟩:=r
  refine aK ⟨by show 2<=Χ;decide,λt2 GB=>?_⟩
  exact q _ _ (Z.new GB) ⟨t2,t,Λ,ac,by rw[af (ag gt GB)];exact gt⟩
 |none =>
 rw[Hn]at r q
 have r:=r
 subst r
 refine aG ⟨x,lx,Eh,lt,n,DX,ps,wy,Λ,B.same W Z,λb H2 s2 Zw gS=>?_⟩
 have K1:=gL wy ps n n
 have IK:=oZ wy ps n n (Ξ _)
 refine⟨x,lx,Eh,lt,b,n,DX,ps,wy,dq wy ps n n,Λ,B.same W (Z.trans s2),gS,K1,IK,λD ds H3 s3 G=>?_⟩
 have DW:E2 (dN wy ps) (y1 (dq wy ps n n)) ps.length (vJ wy ps n):=lG
 have G:F5 H3 D ds (vJ wy ps n):=G
 dsimp only at q
 generalize vJ wy ps n=L at DW G q
 have I:=DW.len
 have FE:∀w,(L.getD w []).length<=1000:=λw=>Î (DW.E4 w) (by omega)
 have El:∀w,∀z∈ks (L.getD w []),z<L.length:=λw z hz=>by
  obtain⟨y,hy,rfl⟩:=j0 hz
  rw[I];exact(DW.of w y hy).1
 obtain⟨m,hN,K5⟩:=sj L
 refine⟨D,ds,L,Λ,G,by omega,FE,λnu H4 s4 JU K3 LR=>?_⟩
 have M:=s4 _ _ (s3 _ _ gS)
 have O:=Z.trans (s2.trans (s3.trans s4))
 generalize dq wy ps n n=S at M K1 IK q
 generalize jy L=a at LR hN K5 q
 have hNl:=hN.len
 refine⟨nu,_,Λ,LR,b,_,Λ,.inr (DY.of M),_,_,Λ,Λ,_,Λ,?_⟩
 rw[lV,aU,K1]
 by_cases j:a.length<ps.length
 ·rw[Ι j]at q
  rw[Ζ (show((a.length:Nat):Int)<((ps.length:Nat):Int) by omega)]
  refine aK ⟨D,nu,ds,L,a,Λ,G.same s4,LR,K3,by omega,FE,El,K5,by omega,λR us U s5 gR hU=>⟨by show 2<=Χ;decide,λt l=>?_⟩⟩
  exact q _ _ ((O.trans s5).new l) ⟨t,R,us,Λ,ac,by rw[af (ag gR l)];exact gR,Eu.same ((DP.refl U).new l) hU⟩
 ·rw[Θ j]at q
  rw[Η (show ¬((a.length:Nat):Int)<((ps.length:Nat):Int) by omega)]
  have full:∀z,z<ps.length->z∈ks a:=tQ hN.nd (λz hz=>by rw[←I];exact hN.lt z hz) (by unfold ks;rw[Ο];omega)
  refine aG ⟨b,_,Λ,.inr (DY.of M),(ps.length:Int),by rw[aU,K1],by omega,by omega,?_⟩
  rw[ϋ]
  refine jd (lo:=0) (λ_=>Δ) (λk=>V.int (((fX a k).getD 0:Nat):Int)) (by rw[ϗ];omega) (λi acc N hi h=>?_) (λX Ti=>?_)
  ·rw[ĥ]
   obtain⟨g,hg⟩:=fU (full i hi)
   refine⟨nu,.int (g:Int),Λ,?_,?_⟩
   ·have e:=lE i a
    rw[hg]at e
    have e2:=F2.k (k:=Ï (i:Int)) LR
    rw[e]at e2
    exact e2
   ·rw[hg]at h
    exact h
  have eN:(List.filter (λ_=>Δ) (ό ps.length)).map (λk:Nat=>V.int (((fX a k).getD 0:Nat):Int))=nV (numsOf a ps.length):=by
   rw[cc.mpr (λ_ _=>rfl)]
   unfold nV LkM.numsOf
   rw[ê];rfl
  rw[eN]
  have s5:=O.new (o:=.ρ (nV (numsOf a ps.length))) Ti
  have g5:(π H4 X (.ρ (nV (numsOf a ps.length)))) X=Β (.ρ (nV (numsOf a ps.length))):=ac
  have ZN:(π H4 X (.ρ (nV (numsOf a ps.length)))) b=Β (.tup (nV S)):=by rw[af (ag M Ti)];exact M
  generalize π H4 X (.ρ (nV (numsOf a ps.length)))=U at s5 g5 ZN⊢
  refine⟨X,_,Λ,.inl ⟨DS.of g5,λd Y=>?_⟩⟩
  have s6:=s5.new (o:=.tup (nV (numsOf a ps.length))) Y
  have g6:(π U d (.tup (nV (numsOf a ps.length)))) d=Β (.tup (nV (numsOf a ps.length))):=ac
  have KU:(π U d (.tup (nV (numsOf a ps.length)))) b=Β (.tup (nV S)):=by rw[af (ag ZN Y)];exact ZN
  generalize π U d (.tup (nV (numsOf a ps.length)))=H6 at s6 g6 KU⊢
  refine⟨by show 2<=Χ;decide,λu ZO=>?_⟩
  have s7:=s6.new (o:=.tup [.ref d,.ref b]) ZO
  have g7:(π H6 u (.tup [.ref d,.ref b])) u=Β (.tup [.ref d,.ref b]):=ac
  have ZP:(π H6 u (.tup [.ref d,.ref b])) d=Β (.tup (nV (numsOf a ps.length))):=by rw[af (ag g6 ZO)];exact g6
  have ZQ:(π H6 u (.tup [.ref d,.ref b])) b=Β (.tup (nV S)):=by rw[af (ag KU ZO)];exact KU
  generalize π H6 u (.tup [.ref d,.ref b])=H7 at s7 g7 ZP ZQ⊢
  refine⟨by show 2<=Χ;decide,λt l=>?_⟩
  exact q _ _ (s7.new l) ⟨t,u,d,b,Λ,ac,by rw[af (ag g7 l)];exact g7,by rw[af (ag ZP l)];exact ZP,by rw[af (ag ZQ l)];exact ZQ⟩
noncomputable def fS(m:Nat)(qs:List (Int×Int)):List Int:=(qs.filter λq=>decide (q.1=(m:Int))).map (·.2)
noncomputable def jZ(x y:Nat):List Int:=(List.range' x (y - x)).map λz:Nat=>(z:Int)
theorem fN(m:Nat)(xs a:List (Int×Int)):fS m (xs++a)=fS m xs++fS m a:=by
 unfold fS;rw[ÿ,ϯ]
theorem fM(m a:Nat)(c:Int):fS m [((a:Int),c)]=if a=m then [c] else []:=by
 unfold fS
 by_cases h:a=m
 ·subst h;simp
 ·rw[Θ h,ċ (by simp;omega)];rfl
theorem uz{m:Nat}(h:∀q∈qs,q.1≠(m:Int)):fS m qs=[]:=by
 unfold fS
 rw[pS.mpr (λq a=>by simpa using h q a)];rfl
theorem qj(h:x<y):jZ x y=(x:Int):: jZ (x+1) y:=by
 unfold jZ
 rw[show y - x=(y - (x+1))+1 by omega,List.range'_succ];rfl
theorem iJ(h:y<=x):jZ x y=[]:=by
 unfold jZ
 rw[show y - x=0 by omega];rfl
theorem lb(h:x<=y):jZ x (y+1)=jZ x y++[(y:Int)]:=by
 unfold jZ
 rw[show y+1 - x=(y - x)+1 by omega,List.range'_1_concat,ϯ]
 show _++[((x+(y - x):Nat):Int)]=_
 rw[show x+(y - x)=y by omega]
theorem vA{m:Nat}(h:a.head?=Β ((m:Int),c))(e:fS m a=jZ x y):x<y/\c=(x:Int)/\fS m a.tail=jZ (x+1) y/\∀b,b≠m->fS b a.tail=fS b a:=by
 cases a with
 |nil=>cases h
 | cons q a =>
  cases h
  rw[show((m:Int),c):: a=[((m:Int),c)]++a from Λ,fN,fM,Ι Λ]at e
  have d:x<y:=by
   rcases Ĥ x y with h|h
   ·exact h
   ·rw[iJ h]at e;cases e
  rw[qj d]at e
  have f:=e
  refine⟨d,(Ť f).1,(Ť f).2,λb g=>?_⟩
  rw[show((m:Int),c):: a=[((m:Int),c)]++a from Λ,fN,fM,Θ (ϛ g)];rfl
theorem yJ{m:Nat}(h:qs.getLast?=Β q)(a:q.1=(m:Int))(e:fS m qs=jZ x y):q.2+1=(y:Int)/\x<y:=by
 obtain⟨f,rfl⟩:=ŋ.mp h
 obtain⟨d,c⟩:=q
 have a:=a
 subst a
 rw[fN,fM,Ι Λ]at e
 rcases Ĥ x y with b|b
 ·obtain⟨z,rfl⟩:∃z,y=z+1:=⟨y - 1,by omega⟩
  rw[lb (by omega)]at e
  have:=List.append_inj_right' e Λ
  have:c=(z:Int):=(Ť this).1
  exact⟨by show c+1=_;omega,b⟩
 ·rw[iJ b]at e
  exact Κ e (by simp)
def Tq(s:YS)(p q:Int×Int):Prop:=(q.1=p.1/\q.2=p.2+1)∨(q.2=0/\∃(m:Nat)(t:bE),p.1=(m:Int)/\s.U[m]?=Β t/\p.2=t.len - 1)
structure Ff(a:YA)(s:YS)(N D:Nat->Nat->Nat):Prop where
 g0:∀(m:Nat)(t:bE),s.U[m]?=Β t->((N m 0+D m 0:Nat):Int)=t.ε
 gl:∀(m:Nat)(t:bE),s.U[m]?=Β t->t.ε<=t.len
 KW:∀(m:Nat)(t:bE),s.U[m]?=Β t->∀i,t.Α.length<i->N m i+D m i=0
 top:∀(m:Nat)(t:bE),s.U[m]?=Β t->t.Α=[]->N m 0=0
 dn:∀(m:Nat)(t:bE),s.U[m]?=Β t->∀i,i<t.Α.length->N m (i+1)+D m (i+1)<=N m i/\0<N m i/\(N m i:Int)<=t.len
 q:∀(m:Nat)(t:bE),s.U[m]?=Β t->∀(i k:Nat)(ln:bO),t.Α[i]?=Β k->s.δ[k]?=Β ln->fS m ln.qs=jZ (N m (i+1)+D m (i+1)) (N m i)
 own:∀(k:Nat)(ln:bO),s.δ[k]?=Β ln->∀p∈ln.qs,∃(m:Nat)(t:bE),p.1=(m:Int)/\s.U[m]?=Β t/\k∈t.Α
 nd:∀(m:Nat)(t:bE),s.U[m]?=Β t->t.Α.Nodup
 Fn:∀(m:Nat)(t:bE),s.U[m]?=Β t->∀(p:Nat)(qs:List (Int×Int)),s.ι[p]?=Β qs->fS m qs=if (p:Int)=t.μ then jZ 0 (N m t.Α.length) else []
 Hv:∀(p:Nat)(qs:List (Int×Int)),s.ι[p]?=Β qs->∀q∈qs,∃(m:Nat)(t:bE),q.1=(m:Int)/\s.U[m]?=Β t
 hold:∀(k:Nat)(ln:bO),s.δ[k]?=Β ln->∀(m:Nat)(t:bE),s.U[m]?=Β t->(ln.h=Β (m:Int)↔∃i,t.Α[i]?=Β k/\(N m i:Int)<t.len)
 GR:∀(k:Nat)(ln:bO),s.δ[k]?=Β ln->∀z,ln.h=Β z->∃(m:Nat)(t:bE),z=(m:Int)/\s.U[m]?=Β t
 room:∀(k:Nat)(ln:bO),s.δ[k]?=Β ln->s.rooms[k]?=Β (.int (ln.r+ln.b+ln.qs.length))/\0<=ln.r/\0<=ln.b
 KY:∀(k:Nat)(ln:bO),s.δ[k]?=Β ln->∀(i:Nat)(p q:Int×Int),ln.qs[i]?=Β p->ln.qs[i+1]?=Β q->Tq s p q
 ρ:∀(k:Nat)(ln:bO),s.δ[k]?=Β ln->∀q,ln.qs.getLast?=Β q->ln.h=Β q.1∨(ln.h=Γ/\∃(m:Nat)(t:bE),q.1=(m:Int)/\s.U[m]?=Β t/\q.2=t.len - 1)
noncomputable def zr:Nat->Nat->Nat:=λ_ _=>0
noncomputable def eT(m0 i0:Nat):Nat->Nat->Nat:=λm i=>if m=m0/\i=i0 then 1 else 0
theorem gk(m i:Nat):eT m i m i=1:=Ι ⟨Λ,Λ⟩
theorem gj(h:m≠m0):eT m0 i0 m i=0:=Θ λz=>h z.1
theorem dH(h:i≠i0):eT m0 i0 m i=0:=Θ λz=>h z.2
theorem dY{l:List Nat}(h:l.Nodup){i j x:Nat}(a:l[i]?=Β x)(b:l[j]?=Β x):i=j:=by
 obtain⟨e,c⟩:=ϥ.mp a
 obtain⟨f,d⟩:=ϥ.mp b
 exact(cb h).mp (c.trans d.symm)
theorem yQ{a:List (Int×Int)}(h:∀(i:Nat) (p q:Int×Int),a[i]?=Β p->a[i+1]?=Β q->Tq s p q):∀(i:Nat)(p q:Int×Int),a.tail[i]?=Β p->a.tail[i+1]?=Β q->Tq s p q:=λi p q b c=>by
 rw[List.getElem?_tail]at b c
 exact h (i+1) p q b c
theorem vi{b:Type}{a:List b}{q:b}(h:a.tail.getLast?=Β q):a.getLast?=Β q:=by
 cases a with
 |nil=>cases h
 | cons x a =>
  cases a with
  |nil=>cases h
  |cons y a=>rw[List.getLast?_cons_cons];exact h
theorem Ff.pull(G:Ff a s N zr){k m:Nat}{lk:bO}(o:s.δ[k]?=Β lk)(v:lk.qs.head?=Β ((m:Int),c))(y:s.U[m]?=Β t):
  ∃i,t.Α[i]?=Β k/\c=(N m (i+1):Int)/\N m (i+1)<N m i/\Ff a {s with δ:=s.δ.set k (cj lk)} N (eT m (i+1)):=by
 have I:=ŧ v
 obtain⟨g,S,e,D,J⟩:=G.own k lk o _ I
 have e:=e
 have e:g=m:=by omega
 subst e
 rw[y]at D;cases D
 obtain⟨i,z⟩:=ö J
 have T:=(gQ0 z)
 obtain⟨B,K,C,L⟩:=vA v (G.q g t y i k lk z o)
 have B:=B
 have C:=C
 refine⟨i,z,K,B,?_⟩
 have E:lk.qs=((g:Int),c):: lk.qs.tail:=by
  cases F:lk.qs with
  |nil=>rw[F]at v;cases v
  |cons x xs=>rw[F]at v;cases v;rfl
 refine⟨λm t h=>?_,G.gl,λm t h j u=>?_,G.top,λm t h j u=>?_,λm t h j f l u d=>?_,λf l d p H=>?_,G.nd,G.Fn,G.Hv,λf l d=>?_,λf l d=>?_,λf l d=>?_,λf l d=>?_,λf l d=>?_⟩
 ·have:=G.g0 m t h
  rw[dH (by omega)];exact this
 ·have A:=G.KW m t h j u
  by_cases e:m=g
  ·subst e
   rw[y]at h;cases h
   rw[dH (by omega)];exact A
  ·rw[gj e];exact A
 ·obtain⟨A,M,O⟩:=G.dn m t h j u
  refine⟨?_,M,O⟩
  have A:=A
  by_cases e:m=g/\j+1=i+1
  ·obtain⟨rfl,e⟩:=e
   have:j=i:=by omega
   subst this
   rw[gk];omega
  ·show N m (j+1)+eT g (i+1) m (j+1)<=_
   unfold eT;rw[Θ e];omega
 ·rcases bG d with ⟨rfl,rfl⟩|⟨P,d⟩
  ·show fS m lk.qs.tail=_
   by_cases e:m=g
   ·subst e
    rw[y]at h;cases h
    have:j=i:=dY (G.nd _ _ y) u z
    subst this
    rw[gk];exact C
   ·rw[gj e,L m e];exact G.q m t h j f lk u o
  ·by_cases e:m=g/\j+1=i+1
   ·obtain⟨rfl,e⟩:=e
    have:j=i:=by omega
    subst this
    rw[y]at h;cases h
    rw[z]at u;cases u
    exact Κ Λ P
   ·unfold eT;rw[Θ e];exact G.q m t h j f l u d
 ·rcases bG d with ⟨rfl,rfl⟩|⟨_,d⟩
  ·exact G.own f lk o p (by rw[E];exact ϧ _ H)
  ·exact G.own f l d p H
 ·rcases bG d with ⟨rfl,rfl⟩|⟨_,d⟩
  ·exact G.hold f lk o
  ·exact G.hold f l d
 ·rcases bG d with ⟨rfl,rfl⟩|⟨_,d⟩
  ·exact G.GR f lk o
  ·exact G.GR f l d
 ·rcases bG d with ⟨rfl,rfl⟩|⟨_,d⟩
  ·obtain⟨Q,R,X⟩:=G.room f lk o
   refine⟨?_,R,?_⟩
   ·show s.rooms[f]?=Β (.int (lk.r+(lk.b+1)+lk.qs.tail.length))
    rw[Q]
    have:lk.qs.length=lk.qs.tail.length+1:=by rw[E];rfl
    rw[this]
    congr 2;omega
   ·show 0<=lk.b+1;omega
  ·exact G.room f l d
 ·rcases bG d with ⟨rfl,rfl⟩|⟨_,d⟩
  ·exact yQ (s:={s with δ:=s.δ.set f (cj lk)}) (G.KY f lk o)
  ·exact G.KY f l d
 ·rcases bG d with ⟨rfl,rfl⟩|⟨_,d⟩
  ·exact λq v=>G.ρ f lk o q (vi v)
  ·exact G.ρ f l d
theorem Ff.leave(G:Ff a s N zr)(D:s.U[m]?=Β t)(M:t.ε≠t.len):Ff a (cN s m t) N (eT m 0):=by
 have O:=G.gl m t D
 have g:∀(b:Nat)(c:bE),(cN s m t).U[b]?=Β c->∃d,s.U[b]?=Β d/\c.Α=d.Α/\c.len=d.len/\c.μ=d.μ/\(b≠m->c=d)/\(b=m->c.ε=t.ε+1/\d=t):=λb c h=>by
  have h:=h
  rcases bG h with ⟨rfl,rfl⟩|⟨K,h⟩
  ·exact⟨t,D,Λ,Λ,Λ,λz=>Κ Λ z,λ_=>⟨Λ,Λ⟩⟩
  ·exact⟨c,h,Λ,Λ,Λ,λ_=>rfl,λz=>Κ z K⟩
 have back:∀(b:Nat)(d:bE),s.U[b]?=Β d->∃c,(cN s m t).U[b]?=Β c/\c.Α=d.Α/\c.len=d.len:=λb d h=>by
  by_cases e:b=m
  ·subst e
   rw[D]at h;cases h
   exact⟨{t with ε:=t.ε+1},cR D,Λ,Λ⟩
  ·exact⟨d,by show(s.U.set m _)[b]?=_;rw[Ú (ϛ e)];exact h,Λ,Λ⟩
 refine⟨λb c h=>?_,λb c h=>?_,λb c h j B=>?_,λb c h E=>?_,λb c h j B=>?_,λb c h j r u B v=>?_,λr u v p y=>?_,λb c h=>?_,λb c h p F y=>?_,λp F y q C=>?_,λr u v b c h=>?_,λr u v z L=>?_,G.room,λr u v i p q y C=>?_,λr u v q C=>?_⟩
 ·obtain⟨d,f,l,o,x,ne,eq⟩:=g b c h
  have J:=G.g0 b d f
  by_cases e:b=m
  ·obtain⟨H,rfl⟩:=eq e
   subst e
   rw[gk,H,←J];show((N b 0+1:Nat):Int)=((N b 0+0:Nat):Int)+1;omega
  ·rw[gj e,ne e];exact J
 ·obtain⟨d,f,l,o,x,ne,eq⟩:=g b c h
  by_cases e:b=m
  ·obtain⟨H,rfl⟩:=eq e
   rw[H,o];omega
  ·rw[ne e];exact G.gl b d f
 ·obtain⟨d,f,l,o,x,ne,eq⟩:=g b c h
  rw[dH (by omega)];exact G.KW b d f j (by rw[←l];exact B)
 ·obtain⟨d,f,l,o,x,ne,eq⟩:=g b c h
  exact G.top b d f (by rw[←l];exact E)
 ·obtain⟨d,f,l,o,x,ne,eq⟩:=g b c h
  rw[dH (by omega),o];exact G.dn b d f j (by rw[←l];exact B)
 ·obtain⟨d,f,l,o,x,ne,eq⟩:=g b c h
  rw[dH (by omega)];exact G.q b d f j r u (by rw[←l];exact B) v
 ·obtain⟨b,d,e,f,E⟩:=G.own r u v p y
  obtain⟨c,w,l,_⟩:=back b d f
  exact⟨b,c,e,w,by rw[l];exact E⟩
 ·obtain⟨d,f,l,_⟩:=g b c h
  rw[l];exact G.nd b d f
 ·obtain⟨d,f,l,o,x,_⟩:=g b c h
  rw[l,x];exact G.Fn b d f p F y
 ·obtain⟨b,d,e,f⟩:=G.Hv p F y q C
  obtain⟨c,w,_⟩:=back b d f
  exact⟨b,c,e,w⟩
 ·obtain⟨d,f,l,o,x,_⟩:=g b c h
  rw[l,o];exact G.hold r u v b d f
 ·obtain⟨b,d,e,f⟩:=G.GR r u v z L
  obtain⟨c,w,_⟩:=back b d f
  exact⟨b,c,e,w⟩
 ·rcases G.KY r u v i p q y C with z|⟨z,b,d,e,f,I⟩
  ·exact .inl z
  ·obtain⟨c,w,_,o⟩:=back b d f
   exact .inr ⟨z,b,c,e,w,by rw[o];exact I⟩
 ·rcases G.ρ r u v q C with z|⟨z,b,d,e,f,I⟩
  ·exact .inl z
  ·obtain⟨c,w,_,o⟩:=back b d f
   exact .inr ⟨z,b,c,e,w,by rw[o];exact I⟩
theorem Ff.enter(G:Ff a s N (eT m i))(H:s.U[m]?=Β t)(hc:c=(N m i:Int))(J:c=0->i=t.Α.length/\l∉t.Α)(Z:c≠0->t.Α[i]?=Β l)(hlen:c+1<=t.len)(P:s.δ[l]?=Β ln)(Q:c9 ln.r ln.h m c=Δ):
  Ff a (cn s m c l t ln) (λd i'=>N d i'+eT m i d i') zr:=by
 obtain⟨Jw,EI⟩:ln.r≠0/\if c=0 then ln.h=Γ else ln.h=Β (m:Int):=by
  unfold c9 at Q
  by_cases hr:ln.r=0
  ·rw[Ι hr]at Q;cases Q
  ·rw[Θ hr]at Q
   by_cases h:c=0
   ·rw[Ι h]at Q⊢;exact⟨hr,of_decide_eq_true Q⟩
   ·rw[Θ h]at Q⊢;exact⟨hr,of_decide_eq_true Q⟩
 obtain⟨I,J7,w1,el,eg,ego,hw⟩:∃I:bE,(cn s m c l t ln).U[m]?=Β I/\I.Α=(if c=0 then t.Α++[l] else t.Α)/\I.len=t.len/\I.μ=t.μ/\I.ε=t.ε/\I.Α[i]?=Β l:=by
  by_cases h:c=0
  ·refine⟨{t with Α:=t.Α++[l]},?_,by rw[Ι h],Λ,Λ,Λ,?_⟩
   ·show(if c=0 then s.U.set m {t with Α:=t.Α++[l]} else s.U)[m]?=_
    rw[Ι h];exact cR H
   ·show(t.Α++[l])[i]?=Β l
    rw[(J h).1,È]
  ·refine⟨t,?_,by rw[Θ h],Λ,Λ,Λ,Z h⟩
   show(if c=0 then s.U.set m {t with Α:=t.Α++[l]} else s.U)[m]?=_
   rw[Θ h];exact H
 have A:∀(d:Nat)(f:bE),(cn s m c l t ln).U[d]?=Β f->(d=m/\f=I)∨(d≠m/\s.U[d]?=Β f):=λd f h=>by
  by_cases e:d=m
  ·subst e
   rw[J7]at h;cases h;exact .inl ⟨Λ,Λ⟩
  ·refine .inr ⟨e,?_⟩
   have h:(if c=0 then s.U.set m {t with Α:=t.Α++[l]} else s.U)[d]?=Β f:=h
   by_cases v:c=0
   ·rw[Ι v,Ú (ϛ e)]at h;exact h
   ·rw[Θ v]at h;exact h
 have back:∀(d:Nat)(B:bE),s.U[d]?=Β B->∃f,(cn s m c l t ln).U[d]?=Β f/\(∀x∈B.Α,x∈f.Α)/\f.len=B.len:=λd B h=>by
  by_cases e:d=m
  ·subst e
   rw[H]at h;cases h
   refine⟨I,J7,λx S=>?_,el⟩
   rw[w1];split
   ·exact Ä _ S
   ·exact S
  ·refine⟨B,?_,λx S=>S,Λ⟩
   show(if c=0 then s.U.set m {t with Α:=t.Α++[l]} else s.U)[d]?=_
   split
   ·rw[Ú (ϛ e)];exact h
   ·exact h
 have Tt:∀(j k:Nat),I.Α[j]?=Β k->j≠i->t.Α[j]?=Β k:=λj k g E=>by
  rw[w1]at g
  by_cases h:c=0
  ·rw[Ι h]at g
   have El:=(gQ0 g)
   rw[Υ,ϙ]at El
   have:=(J h).1
   rwa [Ϙ (by omega)]at g
  ·rw[Θ h]at g;exact g
 have Od:I.Α.length=if c=0 then i+1 else t.Α.length:=by
  rw[w1];split
  ·rename_i h
   rw[Υ,ϙ,(J h).1]
  ·rfl
 have Hu:=λh=>(ϥ.mp (Z h)).1
 have QC:I.Α.Nodup:=by
  rw[w1];split
  ·rename_i h
   refine ı.mpr ⟨G.nd m t H,by simp,λx S y hy e=>?_⟩
   rw[Φ]at hy
   subst hy;subst e
   exact(J h).2 S
  ·exact G.nd m t H
 have O:∀{u:Nat}{w:bO},(cn s m c l t ln).δ[u]?=Β w->(u=l/\w=fL ln m c t.len)∨(u≠l/\s.δ[u]?=Β w):=λh=>bG h
 have Lg:∀d,d≠m->fS d (ln.qs++[((m:Int),c)])=fS d ln.qs:=λd hm=>by
  rw[fN,fM,Θ (ϛ hm),Ę]
 have Vu:fS m ln.qs=jZ (N m (i+1)) (N m i)/\N m (i+1)<=N m i:=by
  by_cases h:c=0
  ·have e0:N m i=0:=by omega
   have f1:=G.KW m t H (i+1) (by have:=(J h).1;omega)
   rw[dH (by omega)]at f1
   have f1:N m (i+1)=0:=by omega
   rw[e0,f1]
   refine⟨?_,Ξ _⟩
   rw[iJ (Ξ _)]
   refine uz λq F e=>?_
   obtain⟨d,f,e',JR,JO⟩:=G.own l ln P q F
   have:d=m:=by rw[e]at e';omega
   subst this
   rw[H]at JR;cases JR
   exact(J h).2 JO
  ·have:=G.q m t H i l ln (Z h) P
   rw[dH (by omega)]at this
   have hd:=(G.dn m t H i (Hu h)).1
   rw[dH (by omega)]at hd
   exact⟨this,hd⟩
 have z0:∀d j,(zr d j)=0:=λ_ _=>rfl
 refine⟨λd f h=>?_,λd f h=>?_,λd f h j g=>?_,λd f h JO=>?_,λd f h j g=>?_,λd f h j u w g o=>?_,λu w o p C=>?_,λd f h=>?_,λd f h p X C=>?_,λp X C q F=>?_,λu w o d f h=>?_,λu w o z hz=>?_,λu w o=>?_,λu w o j p q C F=>?_,λu w o q F=>?_⟩
 ·rcases A d f h with ⟨rfl,rfl⟩|⟨E,h⟩
  ·rw[ego,←G.g0 _ t H];rfl
  ·exact G.g0 d f h
 ·rcases A d f h with ⟨rfl,rfl⟩|⟨E,h⟩
  ·rw[ego,el];exact G.gl _ t H
  ·exact G.gl d f h
 ·rcases A d f h with ⟨rfl,rfl⟩|⟨E,h⟩
  ·refine G.KW _ t H j ?_
   rw[Od]at g
   by_cases v:c=0
   ·rw[Ι v]at g;have:=(J v).1;omega
   ·rw[Θ v]at g;exact g
  ·exact G.KW d f h j g
 ·rcases A d f h with ⟨rfl,rfl⟩|⟨E,h⟩
  ·rw[JO]at hw;cases hw
  ·show N d 0+eT m i d 0=0
   rw[gj E];exact G.top d f h JO
 ·rcases A d f h with ⟨rfl,rfl⟩|⟨E,h⟩
  ·show N d (j+1)+eT d i d (j+1)+0<=N d j+eT d i d j/\0<N d j+eT d i d j/\((N d j+eT d i d j:Nat):Int)<=f.len
   rw[el]
   by_cases e:j=i
   ·subst e
    rw[gk,dH (by omega)]
    have:=Vu.2
    exact⟨by omega,by omega,by omega⟩
   ·have Yy:j<t.Α.length:=by
     rw[Od]at g
     by_cases v:c=0
     ·rw[Ι v]at g;have:=(J v).1;omega
     ·rw[Θ v]at g;exact g
    obtain⟨d1,d2,d3⟩:=G.dn _ t H j Yy
    have:eT d i d j=0:=dH e
    rw[this]
    exact⟨by omega,by omega,by omega⟩
  ·show N d (j+1)+eT m i d (j+1)+0<=N d j+eT m i d j/\0<N d j+eT m i d j/\((N d j+eT m i d j:Nat):Int)<=f.len
   have:=G.dn d f h j g
   rw[gj E]at this⊢
   rw[gj E];exact this
 ·show fS d w.qs=jZ (N d (j+1)+eT m i d (j+1)+0) (N d j+eT m i d j)
  rcases A d f h with ⟨rfl,rfl⟩|⟨E,D⟩
  ·rcases O o with ⟨rfl,rfl⟩|⟨K,o⟩
   ·have:j=i:=dY QC g hw
    subst this
    show fS d (ln.qs++[((d:Int),c)])=_
    rw[fN,fM,Ι Λ,gk,dH (by omega),Vu.1,hc,U9,U9]
    exact(lb Vu.2).symm
   ·have Y:j≠i:=λe=>by rw[e,hw]at g;cases g;exact K Λ
    rw[show eT d i d j=0 from dH Y]
    exact G.q _ t H j u w (Tt j u g Y) o
  ·rcases O o with ⟨rfl,rfl⟩|⟨K,o⟩
   ·show fS d (ln.qs++[((m:Int),c)])=_
    rw[Lg d E,show eT m i d j=0 from gj E]
    exact G.q d f D j u ln g P
   ·rw[show eT m i d j=0 from gj E]
    exact G.q d f D j u w g o
 ·rcases O o with ⟨rfl,rfl⟩|⟨K,o⟩
  ·rcases Ϣ.mp C with C|C
   ·obtain⟨d,B,e,D,M9⟩:=G.own u ln P p C
    obtain⟨f,L,sub,_⟩:=back d B D
    exact⟨d,f,e,L,sub _ M9⟩
   ·rw[Φ.mp C]
    exact⟨m,I,Λ,J7,Ϗ hw⟩
  ·obtain⟨d,B,e,D,M9⟩:=G.own u w o p C
   obtain⟨f,L,sub,_⟩:=back d B D
   exact⟨d,f,e,L,sub _ M9⟩
 ·rcases A d f h with ⟨rfl,rfl⟩|⟨E,h⟩
  ·exact QC
  ·exact G.nd d f h
 ·show fS d X=if (p:Int)=f.μ then jZ 0 (N d f.Α.length+eT m i d f.Α.length) else []
  rcases A d f h with ⟨rfl,rfl⟩|⟨E,h⟩
  ·have e:=G.Fn _ t H p X C
   rw[eg,e]
   by_cases HG:(p:Int)=t.μ
   ·rw[Ι HG,Ι HG,Od]
    by_cases v:c=0
    ·rw[Ι v,dH (by omega),←(J v).1]
     have f1:=G.KW _ t H (i+1) (by have:=(J v).1;omega)
     have e1:N d (i+1)=0:=by omega
     have R:N d i=0:=by omega
     rw[e1,R]
    ·rw[Θ v,dH (by have:=Hu v;omega)];rfl
   ·rw[Θ HG,Θ HG]
  ·rw[gj E];exact G.Fn d f h p X C
 ·obtain⟨d,B,e,D⟩:=G.Hv p X C q F
  obtain⟨f,L,_⟩:=back d B D
  exact⟨d,f,e,L⟩
 ·show w.h=Β (d:Int)↔∃j,f.Α[j]?=Β u/\((N d j+eT m i d j:Nat):Int)<f.len
  rcases A d f h with ⟨rfl,rfl⟩|⟨E,D⟩
  ·rcases O o with ⟨rfl,rfl⟩|⟨K,o⟩
   ·show(if decide (c=t.len - 1)=Δ then Γ else Β (d:Int))=_↔_
    rw[el]
    constructor
    ·intro z
     refine⟨i,hw,?_⟩
     rw[gk]
     by_cases e:c=t.len - 1
     ·rw[Ι (Ζ e)]at z;cases z
     ·omega
    ·rintro⟨j,g,T⟩
     have:j=i:=dY QC g hw
     subst this
     rw[gk]at T
     rw[Θ (by rw[decide_eq_true_eq];omega)]
   ·have e:=G.hold u w o _ t H
    rw[e,el]
    constructor
    ·rintro⟨j,g,T⟩
     refine⟨j,?_,?_⟩
     ·rw[w1];split
      ·rw[Ϙ (gQ0 g)];exact g
      ·exact g
     ·rw[show eT d i d j=0 from dH λe=>by
       subst e
       by_cases v:c=0
       ·have:=(gQ0 g);have:=(J v).1;omega
       ·rw[Z v]at g;cases g;exact K Λ]
      exact T
    ·rintro⟨j,g,T⟩
     have Y:j≠i:=λe=>by rw[e,hw]at g;cases g;exact K Λ
     rw[show eT d i d j=0 from dH Y]at T
     exact⟨j,Tt j u g Y,T⟩
  ·have eN:∀j,N d j+eT m i d j=N d j:=λj=>by rw[gj E];rfl
   simp only[eN]
   rcases O o with ⟨rfl,rfl⟩|⟨K,o⟩
   ·show(if decide (c=t.len - 1)=Δ then Γ else Β (m:Int))=_↔_
    rw[←G.hold u ln P d f D]
    have a1:ln.h≠Β (d:Int):=λz=>by
     rw[z]at EI
     by_cases v:c=0
     ·rw[Ι v]at EI;cases EI
     ·rw[Θ v]at EI
      have:=Ψ EI
      omega
    refine⟨λz=>?_,λz=>Κ z a1⟩
    split at z
    ·cases z
    ·have:=Ψ z
     exact Κ (show d=m by omega) E
   ·exact G.hold u w o d f D
 ·rcases O o with ⟨rfl,rfl⟩|⟨K,o⟩
  ·have z:(if decide (c=t.len - 1)=Δ then Γ else Β (m:Int))=Β z:=hz
   split at z
   ·cases z
   ·exact⟨m,I,(Ψ z).symm,J7⟩
  ·obtain⟨d,B,e,D⟩:=G.GR u w o z hz
   obtain⟨f,L,_⟩:=back d B D
   exact⟨d,f,e,L⟩
 ·rcases O o with ⟨rfl,rfl⟩|⟨K,o⟩
  ·obtain⟨r1,r2,r3⟩:=G.room u ln P
   refine⟨?_,by show 0<=ln.r - 1;omega,r3⟩
   show s.rooms[u]?=Β (.int (ln.r - 1+ln.b+((ln.qs++[((m:Int),c)]).length:Nat)))
   rw[r1,Υ,ϙ]
   congr 2;omega
  ·exact G.room u w o
 ·have up:Tq s p q->Tq (cn s m c l t ln) p q:=λz=>by
   rcases z with z|⟨z,d,B,e,D,R⟩
   ·exact .inl z
   ·obtain⟨f,L,_,ZR⟩:=back d B D
    exact .inr ⟨z,d,f,e,L,by rw[ZR];exact R⟩
  rcases O o with ⟨rfl,rfl⟩|⟨K,o⟩
  ·have C:(ln.qs++[((m:Int),c)])[j]?=Β p:=C
   have F:(ln.qs++[((m:Int),c)])[j+1]?=Β q:=F
   by_cases g:j+1<ln.qs.length
   ·rw[Ϙ (by omega)]at C
    rw[Ϙ g]at F
    exact up (G.KY u ln P j p q C F)
   ·have El:=(gQ0 F)
    rw[Υ,ϙ]at El
    have ej:j+1=ln.qs.length:=by omega
    rw[ej,È]at F
    cases F
    rw[Ϙ (by omega)]at C
    have Jl:ln.qs.getLast?=Β p:=by rw[ñ,←ej];exact C
    rcases G.ρ u ln P p Jl with z|⟨z,d,B,e,D,R⟩
    ·by_cases v:c=0
     ·rw[Ι v,z]at EI;cases EI
     ·rw[Θ v,z]at EI
      have e1:=Ψ EI
      obtain⟨R,_⟩:=yJ Jl e1 Vu.1
      exact .inl ⟨e1.symm,by show c=p.2+1;omega⟩
    ·by_cases v:c=0
     ·exact up (.inr ⟨v,d,B,e,D,R⟩)
     ·rw[Θ v,z]at EI;cases EI
  ·exact up (G.KY u w o j p q C F)
 ·rcases O o with ⟨rfl,rfl⟩|⟨K,o⟩
  ·have F:(ln.qs++[((m:Int),c)]).getLast?=Β q:=F
   rw[List.getLast?_concat]at F
   cases F
   show(if decide (c=t.len - 1)=Δ then Γ else Β (m:Int))=_∨_
   by_cases e:c=t.len - 1
   ·exact .inr ⟨by show(if decide (c=t.len - 1)=Δ then Γ else Β (m:Int))=Γ;rw[Ι (Ζ e)],m,I,Λ,J7,by rw[el];exact e⟩
   ·exact .inl (by rw[Θ (by rw[decide_eq_true_eq];exact e)])
  ·rcases G.ρ u w o q F with z|⟨z,d,B,e,D,R⟩
   ·exact .inl z
   ·obtain⟨f,L,_,ZR⟩:=back d B D
    exact .inr ⟨z,d,f,e,L,by rw[ZR];exact R⟩
theorem Ff.lay{m e:Nat}(G:Ff a s N (eT m t.Α.length))(g:s.U[m]?=Β t)(I:c=(N m t.Α.length:Int))(A:t.μ=(e:Int))(D:s.ι[e]?=Β qs)(J:t.Α≠[]):
  Ff a {s with ι:=s.ι.set e (qs++[((m:Int),c)])} (λb F=>N b F+eT m t.Α.length b F) zr:=by
 have M:=ĕ.mpr J
 have i:∀b j,(b=m->j≠t.Α.length)->N b j+eT m t.Α.length b j=N b j:=λb j h=>by
  by_cases e:b=m
  ·rw[dH (h e)];rfl
  ·rw[gj e];rfl
 refine⟨λb d h=>?_,G.gl,λb d h j f=>?_,λb d h K=>?_,λb d h j f=>?_,λb d h j y u f B=>?_,G.own,G.nd,λb d h p v w=>?_,λp v w q l=>?_,λy u B b d h=>?_,G.GR,G.room,G.KY,G.ρ⟩
 ·rw[←G.g0 b d h];rfl
 ·exact G.KW b d h j f
 ·show N b 0+eT m t.Α.length b 0=0
  rw[i b 0 (λ_=>by omega)];exact G.top b d h K
 ·show N b (j+1)+eT m t.Α.length b (j+1)+0<=N b j+eT m t.Α.length b j/\0<N b j+eT m t.Α.length b j/\((N b j+eT m t.Α.length b j:Nat):Int)<=d.len
  rw[i b j (λe=>by subst e;rw[g]at h;cases h;omega)]
  exact G.dn b d h j f
 ·show fS b u.qs=jZ (N b (j+1)+eT m t.Α.length b (j+1)+0) (N b j+eT m t.Α.length b j)
  have x:=(gQ0 f)
  rw[i b j (λe=>by subst e;rw[g]at h;cases h;omega)]
  exact G.q b d h j y u f B
 ·show fS b v=if (p:Int)=d.μ then jZ 0 (N b d.Α.length+eT m t.Α.length b d.Α.length) else []
  have h:=h
  rcases bG w with ⟨rfl,rfl⟩|⟨L,H⟩
  ·rw[fN,fM]
   have o:=G.Fn b d h p qs D
   by_cases r:b=m
   ·subst r
    rw[g]at h;cases h
    rw[Ι A.symm]at o
    rw[Ι Λ,Ι A.symm,o,gk,I]
    exact(lb (Ϧ _)).symm
   ·rw[Θ (ϛ r),Ę,i b _ (λz=>Κ z r)];exact o
  ·by_cases r:b=m
   ·subst r
    rw[g]at h;cases h
    have o:=G.Fn b t g p v H
    rw[Θ (by rw[A];omega)]at o⊢
    exact o
   ·rw[i b _ (λz=>Κ z r)];exact G.Fn b d h p v H
 ·rcases bG w with ⟨rfl,rfl⟩|⟨L,w⟩
  ·rcases Ϣ.mp l with l|l
   ·exact G.Hv p qs D q l
   ·rw[Φ.mp l];exact⟨m,t,Λ,g⟩
  ·exact G.Hv p v w q l
 ·show u.h=Β (b:Int)↔∃j,d.Α[j]?=Β y/\((N b j+eT m t.Α.length b j:Nat):Int)<d.len
  have h:=h
  rw[G.hold y u B b d h]
  constructor
  ·rintro⟨j,f,x⟩
   have C:=(gQ0 f)
   exact⟨j,f,by rw[i b j (λe=>by subst e;rw[g]at h;cases h;omega)];exact x⟩
  ·rintro⟨j,f,x⟩
   have C:=(gQ0 f)
   rw[i b j (λe=>by subst e;rw[g]at h;cases h;omega)]at x
   exact⟨j,f,x⟩
theorem Ff.back(G:Ff a s N D){k:Nat}{lk:bO}(C:s.δ[k]?=Β lk)(I:0<lk.b):Ff a {s with δ:=s.δ.set k (lH lk)} N D:=by
 have m:∀{d:Nat}{e:bO},(s.δ.set k (lH lk))[d]?=Β e->∃c,s.δ[d]?=Β c/\e.qs=c.qs/\e.h=c.h/\e.r+e.b=c.r+c.b/\c.r<=e.r/\(0<=c.b->0<=e.b):=λh=>by
  rcases bG h with ⟨rfl,rfl⟩|⟨_,h⟩
  ·exact⟨lk,C,Λ,Λ,by show lk.r+1+(lk.b - 1)=_;omega,by show lk.r<=lk.r+1;omega,λ_=>by show 0<=lk.b - 1;omega⟩
  ·exact⟨_,h,Λ,Λ,Λ,Œ _,id⟩
 refine⟨G.g0,G.gl,G.KW,G.top,G.dn,λy A h j d e E f=>?_,λd e f p v=>?_,G.nd,G.Fn,G.Hv,λd e f y A h=>?_,λd e f z B=>?_,λd e f=>?_,λd e f j p q v w=>?_,λd e f q w=>?_⟩
 ·obtain⟨c,g,i,l,o,u,t⟩:=m f
  rw[i];exact G.q y A h j d c E g
 ·obtain⟨c,g,i,l,o,u,t⟩:=m f
  rw[i]at v;exact G.own d c g p v
 ·obtain⟨c,g,i,l,o,u,t⟩:=m f
  rw[l];exact G.hold d c g y A h
 ·obtain⟨c,g,i,l,o,u,t⟩:=m f
  rw[l]at B;exact G.GR d c g z B
 ·obtain⟨c,g,i,l,o,u,t⟩:=m f
  obtain⟨F,J,H⟩:=G.room d c g
  exact⟨by rw[i,o];exact F,by omega,t H⟩
 ·obtain⟨c,g,i,l,o,u,t⟩:=m f
  rw[i]at v w;exact G.KY d c g j p q v w
 ·obtain⟨c,g,i,l,o,u,t⟩:=m f
  rw[i]at w;rw[l];exact G.ρ d c g q w
theorem og{k m:Nat}{lk:bO}(d:s.δ[k]?=Β lk)(e:lk.qs.head?=Β ((m:Int),c))(f:s.U[m]?=Β t)(b:l∈ck a s k):if c=0 then l∉t.Α else l∈(t.Α.drop (t.Α.idxOf k+1)).take 1:=by
 have g:bC s k=Β ((m:Int),c):=by unfold bC;rw[d];exact e
 unfold ck at b
 rw[g]at b
 have b:l∈(match s.U[(m:Int).toNat]? with|none=>[]|some t=>if c=0 then (lz a k t.μ.toNat).filter λl=>!decide (l∈t.Α) else (t.Α.drop (t.Α.idxOf k+1)).take 1):=b
 rw[ϋ,f]at b
 have b:l∈(if c=0 then (lz a k t.μ.toNat).filter λl=>!decide (l∈t.Α) else (t.Α.drop (t.Α.idxOf k+1)).take 1):=b
 by_cases h:c=0
 ·rw[Ι h]at b⊢
  have:=(Å.mp b).2
  simpa using this
 ·rw[Θ h]at b⊢;exact b
theorem fj{l:List Nat}(h:x∈(l.drop j).take 1):l[j]?=Β x:=by
 cases a:l.drop j with
 |nil=>rw[a]at h;cases h
 | cons y b =>
  rw[a]at h
  have h:x∈[y]:=h
  rw[Φ]at h
  subst h
  have:=ņ (xs:=l) (i:=j) (j:=0)
  rw[a]at this
  exact this.symm
theorem lM{l:List Nat}(h:l.Nodup)(a:l[i]?=Β x):l.idxOf x=i:=by
 obtain⟨e,f⟩:=ϥ.mp a
 have c:=Ϗ a
 have b:=Ĵ c
 have d:l[l.idxOf x]?=Β x:=by rw[Μ b,Ly b]
 exact dY h d a
theorem Ff.step(G:Ff a s N zr)(J:EG a s)(h:ES a s mv s'):∃r,Ff a s' r zr:=by
 cases h with
 | @Fm m l t ln ht hg hl Ej ho =>
  have d:=G.leave ht hg
  have p:=G.g0 m t ht
  have p:=p
  have y:=G.gl m t ht
  have u:(cN s m t).U[m]?=Β {t with ε:=t.ε+1}:=cR ht
  refine⟨_,d.enter u p.symm (λb=>?_) (λb=>?_) (by show t.ε+1<=t.len;omega) Ej ho⟩
  ·have:=J.EM m t ht b
   rw[this];exact⟨Λ,É⟩
  ·unfold c5 at hl
   rw[Θ b]at hl
   exact fj (j:=0) hl
 | @on k l m c lk ln t hk hq ht hl Ej ho =>
  obtain⟨i,f,o,v,d⟩:=G.pull hk hq ht
  have g:=og hk hq ht hl
  have w:=(gQ0 f)
  obtain⟨A,B,C⟩:=G.dn m t ht i w
  refine⟨_,d.enter (t:=t) ht o (λb=>?_) (λb=>?_) (by omega) Ej ho⟩
  ·rw[Ι b]at g
   refine⟨?_,g⟩
   rcases Ĥ (i+1) t.Α.length with h|h
   ·have:=(G.dn m t ht (i+1) h).2.1
    omega
   ·omega
  ·rw[Θ b]at g
   rw[lM (G.nd m t ht) f]at g
   exact fj g
 | @Fn k m e c lk t qs hk hq ht hg he FJ =>
  obtain⟨i,f,o,v,d⟩:=G.pull hk hq ht
  have x:=J.last m t ht i k f (by show(a.ps.getD k (0,0)).2=_;rw[he,hg])
  rw[x]at o d
  exact⟨_,d.lay (t:=t) ht o hg FJ (λz=>by rw[z]at f;cases f)⟩
 | @back k lk hk hb=>exact⟨N,G.back hk hb⟩
theorem Ff.dn'(G:Ff a s N D)(d:List (List V)):Ff a {s with done:=d} N D:=⟨G.g0,G.gl,G.KW,G.top,G.dn,G.q,G.own,G.nd,G.Fn,G.Hv,G.hold,G.GR,G.room,G.KY,G.ρ⟩
theorem Ff.Tv(G:Ff a s N zr)(c:0<=l):∃J:Nat->Nat->Nat,(∀m i,m≠s.U.length->J m i=N m i)/\Ff a (eE s x y l u) J zr:=by
 have o:∀(m:Nat)(t:bE),(eE s x y l u).U[m]?=Β t->(m≠s.U.length/\s.U[m]?=Β t)∨(m=s.U.length/\t=⟨x,y,l,u,0,[]⟩):=λm t d=>by
  have d:(s.U++[(⟨x,y,l,u,0,[]⟩:bE)])[m]?=Β t:=d
  by_cases M:m<s.U.length
  ·rw[Ϙ M]at d;exact .inl ⟨by omega,d⟩
  ·have O:=(gQ0 d)
   rw[Υ,ϙ]at O
   have P:m=s.U.length:=by omega
   subst P
   rw[È]at d
   cases d
   exact .inr ⟨Λ,Λ⟩
 have A:∀{m:Nat}{t:bE},s.U[m]?=Β t->(eE s x y l u).U[m]?=Β t:=λd=>by
  show(s.U++[(⟨x,y,l,u,0,[]⟩:bE)])[_]?=Β _
  rw[Ϙ (gQ0 d)];exact d
 have K:∀{m:Nat}{t:bE},s.U[m]?=Β t->m≠s.U.length:=λd z=>by
  rw[z,Í (Ξ _)]at d;cases d
 refine⟨λm i=>if m=s.U.length then 0 else N m i,(λm i h=>Θ h),λm t h=>?_,λm t h=>?_,λm t h j r=>?_,λm t h E=>?_,λm t h j r=>?_,λm t h j f g r c=>?_,λf g c p v=>?_,λm t h=>?_,λm t h p D v=>?_,λp D v q w=>?_,λf g c m t h=>?_,λf g c z Q=>?_,G.room,λf g c j p q v w=>?_,λf g c q w=>?_⟩
 ·rcases o m t h with ⟨b,h⟩|⟨e,rfl⟩
  ·simp only[Θ b];exact G.g0 m t h
  ·simp only[Ι e];rfl
 ·rcases o m t h with ⟨b,h⟩|⟨e,rfl⟩
  ·exact G.gl m t h
  ·exact c
 ·rcases o m t h with ⟨b,h⟩|⟨e,rfl⟩
  ·simp only[Θ b];exact G.KW m t h j r
  ·simp only[Ι e];rfl
 ·rcases o m t h with ⟨b,h⟩|⟨e,rfl⟩
  ·simp only[Θ b];exact G.top m t h E
  ·simp only[Ι e]
 ·rcases o m t h with ⟨b,h⟩|⟨e,rfl⟩
  ·simp only[Θ b];exact G.dn m t h j r
  ·cases r
 ·rcases o m t h with ⟨b,h⟩|⟨e,rfl⟩
  ·simp only[Θ b];exact G.q m t h j f g r c
  ·cases r
 ·obtain⟨m,t,e,h,E⟩:=G.own f g c p v
  exact⟨m,t,e,A h,E⟩
 ·rcases o m t h with ⟨b,h⟩|⟨e,rfl⟩
  ·exact G.nd m t h
  ·exact ä
 ·rcases o m t h with ⟨b,h⟩|⟨e,rfl⟩
  ·simp only[Θ b];exact G.Fn m t h p D v
  ·simp only[Ι e]
   rw[iJ (Ξ _),ite_self]
   refine uz λq w B=>?_
   obtain⟨C,R,L,F⟩:=G.Hv p D v q w
   have:=K F
   rw[B]at L
   omega
 ·obtain⟨m,t,e,h⟩:=G.Hv p D v q w
  exact⟨m,t,e,A h⟩
 ·rcases o m t h with ⟨b,h⟩|⟨e,rfl⟩
  ·simp only[Θ b];exact G.hold f g c m t h
  ·refine⟨λz=>?_,λS=>by obtain⟨j,r,_⟩:=S;cases r⟩
   obtain⟨C,R,L,F⟩:=G.GR f g c _ z
   have:=K F
   omega
 ·obtain⟨m,t,e,h⟩:=G.GR f g c z Q
  exact⟨m,t,e,A h⟩
 ·rcases G.KY f g c j p q v w with z|⟨z,C,H,e,I,B⟩
  ·exact .inl z
  ·exact .inr ⟨z,C,H,e,A I,B⟩
 ·rcases G.ρ f g c q w with z|⟨z,C,H,e,I,B⟩
  ·exact .inl z
  ·exact .inr ⟨z,C,H,e,A I,B⟩
theorem Ff.post(G:Ff a s N zr)(c:0<=l):∃b,Ff a (eE s x y l u) b zr:=let ⟨b,_,h⟩:=G.Tv c;⟨b,h⟩
theorem ZT{e:List Int}(h:∀r∈e,1<=r/\r<=60):Ff a (Y0 (e.map V.int) n) zr zr:=by
 have l:∀{k:Nat}{d:bO},(Y0 (e.map V.int) n).δ[k]?=Β d->∃r,e[k]?=Β r/\d=⟨r,0,Γ,[]⟩:=λ{k d} b=>by
  have b:(((e.map V.int).map tY))[k]?=Β d:=b
  rw[ϝ,ϝ]at b
  cases f:e[k]? with
  |none=>rw[f]at b;cases b
  |some r=>rw[f]at b;cases b;exact⟨r,Λ,Λ⟩
 have g:∀{m:Nat}{t:bE},(Y0 (e.map V.int) n).U[m]?=Β t->False:=λh=>by cases h
 have u:∀{p:Nat}{o:List (Int×Int)},(Y0 (e.map V.int) n).ι[p]?=Β o->o=[]:=λ{p o} c=>by
  have c:(Ϫ n ([]:List (Int×Int)))[p]?=Β o:=c
  rw[ü]at c
  split at c
  ·cases c;rfl
  ·cases c
 refine⟨λm t h=>(g h).elim,λm t h=>(g h).elim,λm t h=>(g h).elim,λm t h=>(g h).elim,λm t h=>(g h).elim,λm t h=>(g h).elim,λi d b p c=>?_,λm t h=>(g h).elim,λm t h=>(g h).elim,λp o c q s=>?_,λi d b m t h=>(g h).elim,λi d b z v=>?_,λi d b=>?_,λi d b j p q c s=>?_,λi d b q s=>?_⟩
 ·obtain⟨r,f,rfl⟩:=l b
  cases c
 ·rw[u c]at s;cases s
 ·obtain⟨r,f,rfl⟩:=l b
  cases v
 ·obtain⟨r,f,rfl⟩:=l b
  have w:=h r (Ϗ f)
  refine⟨?_,by show 0<=r;omega,Œ _⟩
  show(e.map V.int)[i]?=Β (.int (r+0+((0:Nat):Int)))
  rw[ϝ,f]
  show Β (V.int r)=_
  congr 2;omega
 ·obtain⟨r,f,rfl⟩:=l b
  cases c
 ·obtain⟨r,f,rfl⟩:=l b
  cases s
structure IM(a:YA)(s:YS):Prop where
 b0:∀(k:Nat)(ln:bO),s.δ[k]?=Β ln->ln.b<=0
 Tx:∀(k m:Nat)(c:Int)(ln:bO)(t:bE),s.δ[k]?=Β ln->ln.qs.head?=Β ((m:Int),c)->s.U[m]?=Β t->t.μ≠p9 a k
 on0:∀(k m:Nat)(c:Int)(ln:bO),s.δ[k]?=Β ln->ln.qs.head?=Β ((m:Int),c)->∀l∈ck a s k,dO s l m c=Ε
 in0:∀(m:Nat)(t:bE),s.U[m]?=Β t->t.ε≠t.len->∀l∈c5 a t,dO s l m t.ε=Ε
theorem BS(h:aF a s=[]):IM a s:=by
 unfold aF at h
 have q:=q7.mp h
 have r:=q7.mp q.1
 have u:=q7.mp r.1
 have d:∀{n:Nat}{f:Nat->List Mv},(ό n).flatMap f=[]->∀k,k<n->f k=[]:=λe k g=>(List.flatMap_eq_nil_iff.mp e) k (Ë.mpr g)
 have lt:∀{v:Type}{l:List v}{k:Nat}{x:v},l[k]?=Β x->k<l.length:=λe=>(gQ0 e)
 refine⟨λk j g=>?_,λk m c j t g o i=>?_,λk m c j g o l p=>?_,λm t i w l p=>?_⟩
 ·have e:=d q.2 k (lt g)
  unfold dZ at e
  rw[g]at e
  dsimp only at e
  by_cases y:0<j.b
  ·rw[Ι y]at e;cases e
  ·omega
 ·have e:=d r.2 k (lt g)
  unfold fP bC at e
  rw[g]at e
  dsimp only at e
  rw[o]at e
  dsimp only at e
  rw[ϋ,i]at e
  dsimp only at e
  intro z
  rw[Ι (show t.μ=(a.ps.getD k (0,0)).2 from z)]at e;cases e
 ·have e:=d u.2 k (lt g)
  unfold jz bC at e
  rw[g]at e
  dsimp only at e
  rw[o]at e
  dsimp only at e
  have e:=ž.mp e
  have:=pS.mp e l p
  simpa using this
 ·have e:=d u.1 m (lt i)
  unfold iV at e
  rw[i]at e
  dsimp only at e
  rw[Θ w]at e
  have e:=ž.mp e
  have:=pS.mp e l p
  simpa using this
theorem qJ:∀{a:List (Int×Int)}{x:Int}{r:List Int},fS m a=x:: r->∃i:Nat,a[i]?=Β ((m:Int),x)/\∀j:Nat,j<i->∀q:Int×Int,a[j]?=Β q->q.1≠(m:Int)
 |[],x,r,h=>by cases h
 | q:: a,x,r,h=>by
  obtain⟨f,b⟩:=q
  by_cases e:f=(m:Int)
  ·subst e
   rw[show((m:Int),b):: a=[((m:Int),b)]++a from Λ,fN,fM,Ι Λ]at h
   have h:=h
   exact⟨0,by rw[(Ť h).1];rfl,λj c=>Κ c (ī _)⟩
  ·have h:fS m a=x:: r:=by
    unfold fS at h⊢
    rw[ċ (by simpa using e)]at h
    exact h
   obtain⟨i,g,l⟩:=qJ h
   refine⟨i+1,g,λj c q d=>?_⟩
   cases j with
   |zero=>cases d;exact e
   |succ j=>exact l j (by omega) q d
theorem pC{m:Nat}(h:((m:Int),c)∈qs):c∈fS m qs:=by
 unfold fS
 exact Õ.mpr ⟨_,Å.mpr ⟨h,by simp⟩,Λ⟩
theorem zA(h:c∈jZ x y):(x:Int)<=c/\c<y:=by
 unfold jZ at h
 obtain⟨z,a,rfl⟩:=Õ.mp h
 have:=List.mem_range'_1.mp a
 exact⟨by omega,by omega⟩
section
variable {a:YA}{s:YS}{N:Nat->Nat->Nat}
theorem IM.right(S:IM a s)(G:Ff a s N zr)(f:∀(k:Nat) (c:bO),s.δ[k]?=Β c->1<=c.r+c.b+c.qs.length){k:Nat}(e:s.δ[k]?=Β c)(g:c.qs=[]):c.r≠0:=by
 have d:=f k c e
 have h:=S.b0 k c e
 rw[g]at d
 have d:1<=c.r+c.b+0:=d
 omega
theorem IM.held(S:IM a s)(G:Ff a s N zr)(J:EG a s)(O:∀(k:Nat) (d:bO),s.δ[k]?=Β d->1<=d.r+d.b+d.qs.length)(g:s.U[m]?=Β t):
  ∀(j k:Nat)(d:bO),t.Α[j]?=Β k->s.δ[k]?=Β d->fS m d.qs=[]->(N m j:Int)<t.len->False:=by
 intro j
 induction j with
 | zero =>
  intro k d o p D E
  have v:=(G.hold k d p m t g).mpr ⟨0,o,E⟩
  have F:d.qs=[]:=by
   cases w:d.qs.getLast? with
   |none=>exact wh.mp w
   | some q =>
    rcases G.ρ k d p q w with z|⟨z,_⟩
    ·rw[v]at z
     have e:=(Ψ z).symm
     have:=pC (m:=m) (c:=q.2) (show((m:Int),q.2)∈d.qs from e▸Ia w)
     rw[D]at this;cases this
    ·rw[v]at z;cases z
  have H:=S.right G O p F
  have I:=(gQ0 o)
  have R:=(G.dn m t g 0 I).2.1
  have g0:((N m 0+0:Nat):Int)=t.ε:=G.g0 m t g
  have f:=S.in0 m t g (by omega) k (by
   unfold c5
   rw[Θ (by omega)]
   cases B:t.Α with
   |nil=>rw[B]at o;cases o
   |cons x xs=>rw[B]at o;cases o;exact ϟ)
  unfold dO at f
  rw[p]at f
  dsimp only at f
  unfold c9 at f
  rw[Θ H,Θ (by omega),v]at f
  simp at f
 | succ j T =>
  intro k d o p D E
  have I:=(gQ0 o)
  have v:=(G.hold k d p m t g).mpr ⟨j+1,o,E⟩
  have F:d.qs=[]:=by
   cases w:d.qs.getLast? with
   |none=>exact wh.mp w
   | some q =>
    rcases G.ρ k d p q w with z|⟨z,_⟩
    ·rw[v]at z
     have e:=(Ψ z).symm
     have:=pC (m:=m) (c:=q.2) (show((m:Int),q.2)∈d.qs from e▸Ia w)
     rw[D]at this;cases this
    ·rw[v]at z;cases z
  have H:=S.right G O p F
  have R:=(G.dn m t g (j+1) I).2.1
  have l:t.Α[j]?=Β t.Α[j]:=Μ (by omega)
  generalize t.Α[j]'(by omega)=y at l
  have X:y<s.δ.length:=by rw[J.δ];exact(J.EH m t g).1 y (Ϗ l)
  have A:=Μ X
  generalize s.δ[y]=u at A
  have C:fS m u.qs=jZ (N m (j+1)+0) (N m j):=G.q m t g j y u l A
  rw[U9]at C
  have Fw:=(G.dn m t g j (by omega)).1
  rcases Ĥ (N m (j+1)) (N m j) with Y|K
  ·rw[qj Y]at C
   obtain⟨i,L,Z⟩:=qJ C
   have M:i=0:=by
    cases i with
    |zero=>rfl
    | succ i =>
     exfalso
     have Hu:=(gQ0 L)
     have P:u.qs[i]?=Β u.qs[i]:=Μ (by omega)
     rcases G.KY y u A i _ _ P L with ⟨z,_⟩|⟨z,_⟩
     ·exact Z i (ĝ _) _ P z.symm
     ·have z:=z
      omega
   subst M
   have Q:u.qs.head?=Β ((m:Int),(N m (j+1):Int)):=by rw[Jx];exact L
   have f:=S.on0 y m _ u A Q k (by
    unfold ck bC
    rw[A]
    dsimp only
    rw[Q]
    dsimp only
    rw[ϋ,g]
    dsimp only
    rw[Θ (by omega),lM (G.nd m t g) l]
    have:(t.Α.drop (j+1))[0]?=Β k:=by rw[ņ];exact o
    cases B:t.Α.drop (j+1) with
    |nil=>rw[B]at this;cases this
    |cons x xs=>rw[B]at this;cases this;exact ϟ)
   unfold dO at f
   rw[p]at f
   dsimp only at f
   unfold c9 at f
   rw[Θ H,Θ (by omega),v]at f
   simp at f
  ·exact T y u l A (by rw[C];exact iJ K) (by omega)
theorem IM.free(S:IM a s)(G:Ff a s N zr)(J:EG a s)(g:∀(k:Nat) (c:bO),s.δ[k]?=Β c->1<=c.r+c.b+c.qs.length){k:Nat}(d:s.δ[k]?=Β c)(i:c.qs=[]):c.h=Γ:=by
 cases e:c.h with
 |none=>rfl
 | some z =>
  obtain⟨m,t,rfl,f⟩:=G.GR k c d z e
  obtain⟨j,l,o⟩:=(G.hold k c d m t f).mp e
  exact(S.held G J g f j k c l d (by rw[i];rfl) o).elim
theorem IM.wants(S:IM a s)(G:Ff a s N zr)(J:EG a s)(q:∀(k:Nat) (d:bO),s.δ[k]?=Β d->1<=d.r+d.b+d.qs.length){k m:Nat}(o:s.δ[k]?=Β d)(p:d.qs.head?=Β ((m:Int),c))(f:s.U[m]?=Β t)(u:l∈ck a s k)(j:s.δ[l]?=Β lo):lo.qs≠[]:=λv=>by
 have w:=S.free G J q j v
 have A:=S.right G q j v
 have e:=S.on0 k m c d o p l u
 have g:=og o p f u
 unfold dO at e
 rw[j]at e
 dsimp only at e
 unfold c9 at e
 rw[Θ A]at e
 by_cases x:c=0
 ·rw[Ι x,w]at e;simp at e
 ·rw[Θ x]at g
  obtain⟨i,y,C,D,_⟩:=G.pull o p f
  rw[lM (G.nd m t f) y]at g
  have g:=fj g
  have B:=(gQ0 y)
  have E:=(G.dn m t f i B).2.2
  have z:=(G.hold l lo j m t f).mpr ⟨i+1,g,by omega⟩
  rw[w]at z;cases z
theorem IM.head(S:IM a s)(G:Ff a s N zr)(J:EG a s){k m:Nat}(e:s.δ[k]?=Β ln)(g:ln.qs.head?=Β ((m:Int),c))(d:s.U[m]?=Β t)(b:ck a s k=[]):c=0:=by
 by_cases j:c=0
 ·exact j
 exfalso
 obtain⟨i,f,v,w,_⟩:=G.pull e g d
 have y:=(gQ0 f)
 unfold ck bC at b
 rw[e]at b
 dsimp only at b
 rw[g]at b
 dsimp only at b
 rw[ϋ,d]at b
 dsimp only at b
 rw[Θ j,lM (G.nd m t d) f]at b
 have l:t.Α.length<=i+1:=by
  rcases Ĥ (i+1) t.Α.length with h|h
  ·have:(t.Α.drop (i+1)).length=t.Α.length - (i+1):=Ĉ ..
   cases o:t.Α.drop (i+1) with
   |nil=>rw[o]at this;have:0=t.Α.length - (i+1):=this;omega
   |cons x xs=>rw[o]at b;cases b
  ·exact h
 have r:t.Α.getLast?=Β k:=by
  rw[ñ,show t.Α.length - 1=i by omega];exact f
 rcases J.head m t d k ln r e with z|z
 ·have p:=pC z
  have u:=G.q m t d i k ln f e
  rw[u]at p
  have:=zA p
  omega
 ·exact S.Tx k m c ln t e g d z.symm
theorem IM.starts(S:IM a s)(G:Ff a s N zr)(J:EG a s)(i:∀(k:Nat) (d:bO),s.δ[k]?=Β d->1<=d.r+d.b+d.qs.length){m:Nat}(e:s.U[m]?=Β t)(v:t.ε≠t.len)(f:l∈c5 a t)(g:s.δ[l]?=Β lo):lo.qs≠[]:=λo=>by
 have p:=S.free G J i g o
 have w:=S.right G i g o
 have c:=S.in0 m t e v l f
 unfold dO at c
 rw[g]at c
 dsimp only at c
 unfold c9 at c
 rw[Θ w]at c
 by_cases q:t.ε=0
 ·rw[Ι q,p]at c;simp at c
 ·unfold c5 at f
  rw[Θ q]at f
  have x:=fj (j:=0) f
  have y:=G.g0 m t e
  have z:=G.gl m t e
  have u:=(G.hold l lo g m t e).mpr ⟨0,x,by omega⟩
  rw[p]at u;cases u
end
noncomputable def BC(s:YS)(m:Nat):List Nat:=(ό m).filter λk=>(bC s k).isSome
theorem p7(h:s.δ[k]?=Β ln):(bC s k).isSome= !ln.qs.isEmpty:=by
 unfold bC
 rw[h]
 cases a:ln.qs<;>simp[a]
theorem qA(a:k<m)(h:s.δ[k]?=Β ln)(b:ln.qs≠[]):k∈BC s m:=
 Å.mpr ⟨Ë.mpr a,by rw[p7 h];cases c:ln.qs with
  |nil=>exact Κ c b
  |cons _ _=>rfl⟩
noncomputable def rK(t:bE):Int×Int:=(t.start,t.μ)
def Pj(a:YA)(s:YS):Prop:=∀p∈s.U.map rK,a.wy p.1.toNat p.2.toNat Γ≠[]
theorem lD{l:List bE}(h:l[k]?=Β x)(e:rK y=rK x):(l.set k y).map rK=l.map rK:=by
 refine qp λi=>?_
 rw[ϝ,ϝ,ħ]
 by_cases a:k=i
 ·subst a
  rw[Ι Λ,Ι (gQ0 h),h]
  show Β (rK y)=Β (rK x)
  rw[e]
 ·rw[Θ a]
theorem ES.sgs(h:ES a s m s'):s'.U.map rK=s.U.map rK:=by
 cases h with
 | @Fm k l t ln ht hg hl Ej ho =>
  have e:(cN s k t).U.map rK=s.U.map rK:=lD ht Λ
  have f:(cN s k t).U[k]?=Β {t with ε:=t.ε+1}:=cR ht
  show(if t.ε=0 then (cN s k t).U.set k _ else (cN s k t).U).map rK=_
  split
  ·exact(lD (y:={({t with ε:=t.ε+1}:bE) with Α:=t.Α++[l]}) f Λ).trans e
  ·exact e
 | @on k l m c lk ln t hk hq ht hl Ej ho =>
  show(if c=0 then s.U.set m _ else s.U).map rK=_
  split
  ·exact lD (y:={t with Α:=t.Α++[l]}) ht Λ
  ·rfl
 |Fn=>rfl
 |back=>rfl
theorem Pj.post(W:Pj a s)(h:a.wy x y Γ≠[]):Pj a (eE s x y l u):=λp b=>by
 have b:p∈(s.U++[(⟨(x:Int),(y:Int),l,u,0,[]⟩:bE)]).map rK:=b
 rw[ϯ]at b
 rcases Ϣ.mp b with b|b
 ·exact W p b
 ·rw[Φ.mp b];exact h
theorem sZ:∀{l:List bE},(∀t∈l,t.ε=t.len)->(l.map (·.ε)).sum=(l.map (·.len)).sum
 |[],_=>rfl
 | x:: l,h=>by
  have b:=h x ϟ
  have c:=sZ λy a=>h y (ϧ _ a)
  rw[Ç,Ç,đ,đ];omega
theorem pU:∀l:List (List (Int×Int)),(l.map λq=>(q.length:Int)).sum=(((l.map λq=>q.length).sum:Nat):Int)
 |[]=>rfl
 |x:: l=>by rw[Ç,Ç,đ,đ,pU l,Int.natCast_add]
theorem AJ(G:Ff a s N zr)(J:EG a s)(S:IM a s)(v:∀(k:Nat) (c:bO),s.δ[k]?=Β c->1<=c.r+c.b+c.qs.length)(W:Pj a s)(w:∀p g k,p<a.n->g<a.n->∀z∈a.wy p g k,z<a.ps.length)(h:vy s=Ε):BC s a.ps.length≠[]:=λA=>by
 have j:∀(k:Nat)(c:bO),s.δ[k]?=Β c->c.qs=[]:=λk c f=>by
  cases B:c.qs with
  |nil=>rfl
  | cons _ _ =>
   have:=qA (m:=a.ps.length) (by rw[←J.δ];exact(gQ0 f)) f (by rw[B];intro z;cases z)
   rw[A]at this;cases this
 have I:kL s=0:=uJ _ λk c f=>by rw[j k c f];rfl
 have C:∀t∈s.U,t.ε=t.len:=λt o=>by
  obtain⟨m,e⟩:=ö o
  apply č
  intro D
  obtain⟨x,y,ex,E,F,H⟩:=J.lets m t e
  obtain⟨l,hl,FZ⟩:∃l,l∈c5 a t/\l<a.ps.length:=by
   unfold c5
   by_cases q:t.ε=0
   ·rw[Ι q]
    have i:=W (rK t) (Lx o)
    have i:=i
    cases d:a.wy t.start.toNat t.μ.toNat Γ with
    |nil=>exact Κ d i
    | cons l r =>
     refine⟨l,ϟ,?_⟩
     rw[ex,E,ϋ,ϋ]at d
     exact w x y Γ F H l (by rw[d];exact ϟ)
   ·rw[Θ q]
    cases d:t.Α with
    | nil =>
     have K:((N m 0+0:Nat):Int)=t.ε:=G.g0 m t e
     have:=G.top m t e d
     omega
    |cons l r=>exact⟨l,ϟ,(J.EH m t e).1 l (by rw[d];exact ϟ)⟩
  have u:=Μ (show l<s.δ.length by rw[J.δ];exact FZ)
  exact S.starts G J v e D hl u (j l _ u)
 have L:=J.sum
 have M:gQ s=(s.U.map (·.len)).sum:=sZ C
 unfold vy at h
 have h:=of_decide_eq_false h
 rw[pU]at h
 have O:¬(s.U.map (·.len)).sum=((jR s:Nat):Int):=h
 omega
noncomputable def rb(S:List Nat)(l g:Nat):Bool:=(S.getD l 0).testBit g
structure Pk(n:Nat)(ps:List (Int×Int))(wy:Wf)(nums:List Int)(S:List Nat):Prop where
 nl:nums.length=ps.length
 sl:S.length=ps.length
 lt:∀z∈S,z<2^n
 st:∀p g,p<n->g<n->∀l∈wy p g Γ,rb S l g=Δ
 on:∀l g e:Nat,l<ps.length->g<n->rb S l g=Δ->(ps.getD l (0,0)).2=(e:Int)->e≠g->wy e g (Β l)≠[]/\∀w∈wy e g (Β l),rb S w g=Δ/\nums.getD l 0<nums.getD w 0
def JW(nums:List Int)(S:List Nat)(s:YS):Prop:=∀(m:Nat)(t:bE),s.U[m]?=Β t->(∀l∈t.Α,rb S l t.μ.toNat=Δ)/\(t.Α.map λl=>nums.getD l 0).Pairwise (· < ·)
theorem qN(O:sT a)(b:l<a.ps.length):∃e:Nat,(a.ps.getD l (0,0)).2=(e:Int)/\e<a.n:=by
 obtain⟨e,c,d⟩:=O.ends l _ (Μ b)
 exact⟨e,by rw[Ω,Μ b];exact c,d⟩
theorem xC(B:Pk a.n a.ps a.wy nums S)(O:sT a)(c:k<a.ps.length)(f:g<a.n)(h:rb S k g=Δ)(d:(a.ps.getD k (0,0)).2≠(g:Int)):
  lz a k g≠[]/\∀w∈lz a k g,rb S w g=Δ/\nums.getD k 0<nums.getD w 0:=by
 obtain⟨e,b,i⟩:=qN O c
 unfold lz
 rw[Θ d,b,ϋ]
 exact B.on k g e c f h b (λz=>d (by rw[b,z]))
theorem mK{k m:Nat}{lk:bO}(b:s.δ[k]?=Β lk)(c:lk.qs.head?=Β ((m:Int),0))(d:s.U[m]?=Β t):ck a s k=(lz a k t.μ.toNat).filter λl=>!decide (l∈t.Α):=by
 have e:bC s k=Β ((m:Int),0):=by unfold bC;rw[b];exact c
 unfold ck
 rw[e]
 show(match s.U[(m:Int).toNat]? with|none=>[]|some t=>if (0:Int)=0 then (lz a k t.μ.toNat).filter λl=>!decide (l∈t.Α) else (t.Α.drop (t.Α.idxOf k+1)).take 1)=_
 rw[ϋ,d]
 exact Ι Λ
theorem JW.step(B:Pk a.n a.ps a.wy nums S)(O:sT a)(R:JW nums S s)(J:EG a s)(h:ES a s mv s'):JW nums S s':=by
 cases h with
 | @Fm k l t ln ht hg d Ej ho =>
  intro m g b
  have Q:(cN s k t).U[k]?=Β {t with ε:=t.ε+1}:=cR ht
  have F:JW nums S (cN s k t):=λm g b=>by
   rcases bG b with ⟨rfl,rfl⟩|⟨_,b⟩
   ·exact R m t ht
   ·exact R m g b
  have b:(if t.ε=0 then (cN s k t).U.set k {({t with ε:=t.ε+1}:bE) with Α:=t.Α++[l]} else (cN s k t).U)[m]?=Β g:=b
  by_cases i:t.ε=0
  ·rw[Ι i]at b
   rcases bG b with ⟨rfl,rfl⟩|⟨_,b⟩
   ·have G:=J.EM m t ht i
    obtain⟨x,y,ex,q,H,A⟩:=J.lets m t ht
    unfold c5 at d
    rw[Ι i,ex,q,ϋ,ϋ]at d
    refine⟨λz f=>?_,?_⟩
    ·have f:=f
     rw[G,ic]at f
     rw[Φ.mp f]
     rw[q,ϋ]
     exact B.st x y H A l d
    ·show((t.Α++[l]).map λl=>nums.getD l 0).Pairwise (· < ·)
     rw[G]
     simp
   ·exact F m g b
  ·rw[Θ i]at b
   exact F m g b
 | @on k l m c lk ln t hk hq ht d Ej ho =>
  intro j g b
  have b:(if c=0 then s.U.set m {t with Α:=t.Α++[l]} else s.U)[j]?=Β g:=b
  by_cases i:c=0
  ·rw[Ι i]at b
   rcases bG b with ⟨rfl,rfl⟩|⟨_,b⟩
   ·subst i
    rw[mK hk hq ht]at d
    have d:=(Å.mp d).1
    obtain⟨C,D⟩:=R j t ht
    have r:=J.Ih k lk hk j t (ŧ hq) ht
    obtain⟨x,y,ex,q,H,A⟩:=J.lets j t ht
    rw[q,ϋ]at d C
    have I:=Ia r
    have L:=(J.EH j t ht).1 k I
    have M:(a.ps.getD k (0,0)).2≠(y:Int):=λz=>by unfold lz at d;rw[Ι z]at d;cases d
    obtain⟨N,T⟩:=(xC B O L A (C k I) M).2 l d
    refine⟨λz f=>?_,?_⟩
    ·show rb S z t.μ.toNat=Δ
     rw[q,ϋ]
     rcases Ϣ.mp (f) with f|f
     ·exact C z f
     ·rw[Φ.mp f];exact N
    ·show((t.Α++[l]).map λl=>nums.getD l 0).Pairwise (· < ·)
     rw[ϯ,Ű]
     refine⟨D,by simp,λu o v E=>?_⟩
     have E:v=nums.getD l 0:=by simpa using E
     rw[E]
     have P:u<=nums.getD k 0:=by
      obtain⟨K,e⟩:∃K,t.Α=K++[k]:=ŋ.mp r
      rw[e,ϯ]at o D
      rcases Ϣ.mp o with o|o
      ·exact Int.le_of_lt ((Ű.mp D).2.2 u o _ (Φ.mpr Λ))
      ·have:u=nums.getD k 0:=by simpa using o
       omega
     omega
   ·exact R j g b
  ·rw[Θ i]at b
   exact R j g b
 |Fn=>exact R
 |back=>exact R
theorem JW.post(R:JW nums S s):JW nums S (eE s x y l u):=λm t h=>by
 have h:(s.U++[(⟨x,y,l,u,0,[]⟩:bE)])[m]?=Β t:=h
 rw[List.getElem?_append]at h
 split at h
 ·exact R m t h
 ·have:t=⟨x,y,l,u,0,[]⟩:=by
   have:=Ϗ h
   simpa using this
  subst this
  exact⟨λl a=>(by cases a),š⟩
theorem JW.dn(R:JW nums S s)(d:List (List V)):JW nums S {s with done:=d}:=R
theorem yh(f:Nat->Int):∀(l:List Nat),l≠[]->∃k∈l,∀j∈l,f j<=f k
 |[],h=>Κ Λ h
 |[x],_=>⟨x,ϟ,λj a=>by rw[Φ.mp a];exact Œ _⟩
 | x:: y:: r,_=>by
  obtain⟨k,b,h⟩:=yh f (y:: r) (by simp)
  by_cases c:f k<=f x
  ·refine⟨x,ϟ,λj a=>?_⟩
   rcases Ϯ.mp a with rfl|a
   ·exact Œ _
   ·exact Int.le_trans (h j a) c
  ·refine⟨k,ϧ _ b,λj a=>?_⟩
   rcases Ϯ.mp a with rfl|a
   ·omega
   ·exact h j a
theorem never(B:Pk a.n a.ps a.wy nums S)(O:sT a)(R:JW nums S s)(G:Ff a s N zr)(J:EG a s)(Z:IM a s)(L:∀(k:Nat) (h:bO),s.δ[k]?=Β h->1<=h.r+h.b+h.qs.length)(W:Pj a s)(M:∀p g k,p<a.n->g<a.n->∀z∈a.wy p g k,z<a.ps.length):vy s=Δ:=by
 cases he:vy s with
 |true=>rfl
 | false =>
  exfalso
  obtain⟨k,hk,hm⟩:=yh (λl=>nums.getD l 0) _ (AJ G J Z L W M he)
  obtain⟨v,w⟩:=Å.mp hk
  have v:=Ë.mp v
  have Pb:k<s.δ.length:=by rw[J.δ];exact v
  have j:=Μ Pb
  generalize s.δ[k]=h at j
  obtain⟨q,hq⟩:∃q,h.qs.head?=Β q:=by
   have w:=w
   unfold bC at w
   rw[j]at w
   exact ri.mp w
  obtain⟨z,c⟩:=q
  obtain⟨m,t,D,f,P⟩:=J.Fc k h j _ (ŧ hq)
  have D:=D
  subst D
  obtain⟨x,y,ex,E,hx,Q⟩:=J.lets m t f
  obtain⟨T,C⟩:=R m t f
  have up:∃l,l∈ck a s k/\l<a.ps.length/\nums.getD k 0<nums.getD l 0:=by
   by_cases F:c=0
   ·subst F
    have U:(a.ps.getD k (0,0)).2≠(y:Int):=λe=>Z.Tx k m 0 h t j hq f (by rw[E];exact e.symm)
    rw[E,ϋ]at T
    obtain⟨u,o⟩:=xC B O v Q (T k P) U
    obtain⟨l,d⟩:∃l,l∈lz a k y:=by
     cases H:lz a k y with
     |nil=>exact Κ H u
     |cons l r=>exact⟨l,ϟ⟩
    have X:=(o l d).2
    have I:=J.Ih k h j m t (ŧ hq) f
    refine⟨l,?_,?_,X⟩
    ·rw[mK j hq f,E,ϋ]
     refine Å.mpr ⟨d,?_⟩
     rw[Η λA=>?_];rfl
     have ω:nums.getD l 0<=nums.getD k 0:=by
      obtain⟨Y,e⟩:∃Y,t.Α=Y++[k]:=ŋ.mp I
      rw[e]at A C
      rw[ϯ]at C
      rcases Ϣ.mp A with K|K
      ·exact Int.le_of_lt ((Ű.mp C).2.2 _ (Lx K) _ (Φ.mpr Λ))
      ·rw[Φ.mp K];exact Œ _
     omega
    ·unfold lz at d
     rw[Θ U]at d
     obtain⟨e,u,o⟩:=qN O v
     rw[u,ϋ]at d
     exact M e y _ o Q l d
   ·have Xg:=λe=>F (Z.head G J j hq f e)
    obtain⟨l,d⟩:∃l,l∈ck a s k:=by
     cases H:ck a s k with
     |nil=>exact Κ H Xg
     |cons l r=>exact⟨l,ϟ⟩
    have u:=og j hq f d
    rw[Θ F]at u
    have o:=fj u
    obtain⟨i,hi⟩:=ö P
    rw[lM (J.EH m t f).2 hi]at o
    refine⟨l,d,(J.EH m t f).1 l (Ϗ o),?_⟩
    obtain⟨b1,e1⟩:=ϥ.mp hi
    obtain⟨b2,e2⟩:=ϥ.mp o
    have:=ż.mp C i (i+1) (by rw[Ο];exact b1) (by rw[Ο];exact b2) (by omega)
    rw[b6,b6,e1,e2]at this
    exact this
  obtain⟨l,d,FZ,X⟩:=up
  have Hn:=Μ (show l<s.δ.length by rw[J.δ];exact FZ)
  have:=hm l (qA FZ Hn (Z.wants G J L j hq f d Hn))
  omega
noncomputable def cq(m:Nat)(qs:List (Int×Int)):Nat:=(qs.filter λq=>decide (q.1=(m:Int))).length
noncomputable def one(k m:Nat):Nat:=if k=m then 1 else 0
theorem yH(m k:Nat)(c:Int)(a:List (Int×Int)):cq m (a++[((k:Int),c)])=cq m a+one k m:=by
 unfold cq one
 rw[ÿ,Υ]
 congr 1
 by_cases h:k=m
 ·subst h;simp
 ·rw[Θ h,ċ (by simp;omega)];rfl
theorem AR{m k:Nat}(h:qs.head?=Β ((k:Int),c)):cq m qs=cq m qs.tail+one k m:=by
 cases qs with
 |nil=>cases h
 | cons q r =>
  cases h
  unfold cq one
  by_cases h:k=m
  ·subst h;simp
  ·rw[Θ h,ċ (by simp;omega)];rfl
noncomputable def dU(s:YS)(m:Nat):Nat:=(s.δ.map λln=>cq m ln.qs).sum
noncomputable def i8(s:YS)(m:Nat):Nat:=(s.ι.map (cq m)).sum
noncomputable def nA(L:List bE)(m:Nat):Int:=match L[m]? with
 |some t=>t.ε
 |none=>0
def Cn(s:YS):Prop:=∀m:Nat,((dU s m+i8 s m:Nat):Int)=nA s.U m
theorem y3(h:L[k]?=Β t)(m:Nat):nA (L.set k t') m=if m=k then t'.ε else nA L m:=by
 unfold nA
 by_cases e:m=k
 ·subst e;rw[Ι Λ,cR h]
 ·rw[Θ e,Ú (ϛ e)]
theorem B6(h:L[k]?=Β t):nA L k=t.ε:=by unfold nA;rw[h]
theorem cn0(a:List V)(n:Nat)(h:∀b∈(Y0 a n).δ,b.qs=[])(g:∀q∈(Y0 a n).ι,q=[]):Cn (Y0 a n):=λm=>by
 have d:dU (Y0 a n) m=0:=uJ _ λk b c=>by rw[h b (Ϗ c)];rfl
 have e:i8 (Y0 a n) m=0:=uJ _ λk q c=>by rw[g q (Ϗ c)];rfl
 rw[d,e];rfl
theorem Cn.post(h:Cn s)(x y l u:Int):Cn (eE s x y l u):=λm=>by
 have:=h m
 show((dU s m+i8 s m:Nat):Int)=nA (s.U++[_]) m
 rw[this]
 unfold nA
 by_cases a:m<s.U.length
 ·rw[Ϙ a]
 ·rw[Í (by omega)]
  by_cases e:m=s.U.length
  ·subst e;rw[È]
  ·rw[Í (by rw[Υ,ϙ];omega)]
theorem Cn.step(h:Cn s)(C:ES a s mv s'):Cn s':=by
 have p:∀{s:YS}{m l:Nat}{c:Int}{t:bE}{b:bO},s.U[m]?=Β t->s.δ[l]?=Β b->∀z,dU (cn s m c l t b) z=dU s z+one m z/\i8 (cn s m c l t b) z=i8 s z/\nA (cn s m c l t b).U z=nA s.U z:=λ{s m l c t b} f v z=>by
  refine⟨?_,Λ,?_⟩
  ·have:=cW (λb:bO=>cq z b.qs) (y:=fL b m c t.len) v
   have e:cq z (fL b m c t.len).qs=cq z b.qs+one m z:=yH z m c b.qs
   have j:dU (cn s m c l t b) z=((s.δ.set l (fL b m c t.len)).map λb:bO=>cq z b.qs).sum:=rfl
   have g:dU s z=(s.δ.map λb:bO=>cq z b.qs).sum:=rfl
   rw[j,g]
   omega
  ·show nA (if c=0 then s.U.set m {t with Α:=t.Α++[l]} else s.U) z=_
   split
   ·rw[y3 f]
    by_cases i:z=m
    ·rw[Ι i,i,B6 f]
    ·rw[Θ i]
   ·rfl
 have q:∀{k m:Nat}{c:Int}{lk:bO},s.δ[k]?=Β lk->lk.qs.head?=Β ((m:Int),c)->∀z,dU {s with δ:=s.δ.set k (cj lk)} z+one m z=dU s z:=λ{k m c lk} o r z=>by
  have:=cW (λb:bO=>cq z b.qs) (y:=cj lk) o
  have e:cq z lk.qs=cq z (cj lk).qs+one m z:=AR r
  have j:dU {s with δ:=s.δ.set k (cj lk)} z=((s.δ.set k (cj lk)).map λb:bO=>cq z b.qs).sum:=rfl
  have g:dU s z=(s.δ.map λb:bO=>cq z b.qs).sum:=rfl
  rw[j,g]
  omega
 intro z
 have u:=h z
 cases C with
 | @Fm k l t b f hg v Ej ho =>
  obtain⟨w,j,g⟩:=p (s:=cN s k t) (m:=k) (l:=l) (c:=t.ε) (t:={t with ε:=t.ε+1}) (b:=b) (cR f) Ej z
  rw[w,j,g]
  have x:nA (cN s k t).U z=nA s.U z+(one k z:Nat):=by
   show nA (s.U.set k _) z=_
   rw[y3 f]
   unfold one
   by_cases i:z=k
   ·rw[Ι i,i,Ι Λ,B6 f];rfl
   ·rw[Θ i,Θ (ϛ i)];exact(Int.add_zero _).symm
  rw[x,←u]
  show((dU s z+one k z+i8 s z:Nat):Int)=_
  omega
 | @on k l m c lk b t o r f v Ej ho =>
  obtain⟨w,j,g⟩:=p (s:={s with δ:=s.δ.set k (cj lk)}) (m:=m) (l:=l) (c:=c) (t:=t) (b:=b) f Ej z
  have x:=q o r z
  rw[w,j,g]
  rw[←u]
  show((dU {s with δ:=s.δ.set k (cj lk)} z+one m z+i8 s z:Nat):Int)=_
  omega
 | @Fn k m e c lk t qs o r f hg he FJ =>
  have x:=q o r z
  show((dU {s with δ:=s.δ.set k (cj lk)} z+((s.ι.set e (qs++[((m:Int),c)])).map (cq z)).sum:Nat):Int)=nA s.U z
  rw[←u]
  have B:=cW (cq z) (y:=qs++[((m:Int),c)]) FJ
  rw[yH]at B
  have g:i8 s z=(s.ι.map (cq z)).sum:=rfl
  omega
 | @back k lk o hb =>
  show((((s.δ.set k (lH lk)).map λb:bO=>cq z b.qs).sum+i8 s z:Nat):Int)=nA s.U z
  rw[←u]
  have B:=cW (λb:bO=>cq z b.qs) (y:=lH lk) o
  have E:cq z (lH lk).qs=cq z lk.qs:=rfl
  have g:dU s z=(s.δ.map λb:bO=>cq z b.qs).sum:=rfl
  omega
inductive Go(a:YA)(s:YS):List Mv->YS->Prop
 |nil:Go a s [] s
 |snoc {p:List Mv} {m:Mv} {x y:YS} (h:Go a s p x) (hm:m∈aF a x) (st:ES a x m y):Go a s (p++[m]) y
noncomputable def fD(t:bE):Int×Int×Int×Int:=(t.start,t.μ,t.len,t.word)
structure Rk(s x:YS):Prop where
 r:x.rooms=s.rooms
 l:x.U.map fD=s.U.map fD
 c:Cn x
theorem iW{l:List bE}(h:l[k]?=Β x)(e:fD y=fD x):(l.set k y).map fD=l.map fD:=by
 rw[List.map_set]
 refine qp λi=>?_
 by_cases a:i=k
 ·subst a
  have b:=(gQ0 h)
  rw[ş (by rw[Ο];exact b),ϝ,h,e];rfl
 ·rw[Ú (ϛ a)]
theorem Rk.step(h:Rk s x)(b:ES a x m y):Rk s y:=by
 refine⟨?_,?_,h.c.step b⟩
 ·rw[←h.r];cases b<;>rfl
 ·rw[←h.l]
  cases b with
  | @Fm k l t ln ht hg hl Ej ho =>
   show(if t.ε=0 then (x.U.set k _).set k _ else x.U.set k _).map fD=_
   split
   ·rw[iW (cR ht) (by rfl),iW ht (by rfl)]
   ·exact iW ht (by rfl)
  | @on k l m c lk ln t hk hq ht hl Ej ho =>
   show(if c=0 then x.U.set m _ else x.U).map fD=_
   split
   ·exact iW ht (by rfl)
   ·rfl
  |Fn=>rfl
  |back=>rfl
theorem Go.rk(h:Go a s p x)(b:Cn s):Rk s x:=by
 induction h with
 |nil=>exact⟨Λ,Λ,b⟩
 |snoc _ _ c d=>exact d.step c
theorem AT(g:Rk s x)(h:Rk s y)(e:kq x=kq y):core x=core y:=by
 obtain⟨m,o,b,p,L⟩:=x
 obtain⟨q,v,a,A,M⟩:=y
 have B:=congrArg Â e
 have C:b.map (·.Α)=a.map (·.Α):=congrArg (λz=>z.2.1) e
 have D:=congrArg (λz=>z.2.2) e
 have E:=g.r.trans h.r.symm
 subst B D E
 have F:=g.l.trans h.l.symm
 have G:b=a:=by
  refine qp λi=>?_
  have w:=congrArg (λz=>z[i]?) C
  have t:=congrArg (λz=>z[i]?) F
  simp only[ϝ]at w t
  have d:=(g.c i).symm.trans (h.c i)
  unfold nA at d
  cases j:b[i]? with
  | none =>
   rw[j]at t
   cases f:a[i]? with
   |none=>rfl
   |some z=>rw[f]at t;cases t
  | some u =>
   rw[j]at t w d
   cases f:a[i]? with
   |none=>rw[f]at t;cases t
   | some z =>
    rw[f]at t w d
    obtain⟨N,O,P,Q,R,S⟩:=u
    obtain⟨T,U,X,Y,Z,z6⟩:=z
    simp only[Option.map_some,Option.some.injEq,fD,Ŋ]at t w
    obtain⟨H,I,J,K⟩:=t
    dsimp only at d
    subst H I J K w d
    rfl
 subst G
 rfl
structure Bf(a:YA)(s:YS)(c:jp):Prop where
 z:∃e,c.L[0]?=Β e/\e.s=core s/\e.p=[]
 go:∀e∈c.L,Go a (core s) e.p e.s
 ns:∀e∈c.L,aS a e.s=Ε
 dn:∀e∈c.L,e.s.done=[]
 st:∀(i j:Nat)(e f:Ent),i<=j->c.L[i]?=Β e->c.L[j]?=Β f->e.p.length<=f.p.length
 tp:∀e:Ent,c.L[c.i]?=Β e->∀f∈c.L,f.p.length<=e.p.length+1
 od:∀(i:Nat)(e:Ent),i<c.i->c.L[i]?=Β e->∀(m:Mv)(y:YS),m∈aF a e.s->ES a e.s m y->∃f∈c.L,kq f.s=kq y/\f.p.length<=e.p.length+1
 cu:∀e:Ent,c.L[c.i]?=Β e->∀(j:Nat)(m:Mv)(y:YS),j<c.j->(aF a e.s)[j]?=Β m->ES a e.s m y->∃f∈c.L,kq f.s=kq y
theorem Nx.bf(h:Nx a c c')(B:Bf a s c):Bf a s c':=by
 cases h with
 | @skip L i j e m s' d A h3 h4 =>
  refine⟨B.z,B.go,B.ns,B.dn,B.st,B.tp,B.od,λO C g o y t u D=>?_⟩
  by_cases I:g=j
  ·subst I
   rw[d]at C;cases C
   rw[A]at u;cases u
   rw[D.det h3];exact h4
  ·exact B.cu O C g o y (by show g<j;have:g<j+1:=t;omega) u D
 | @new L i j s' p d A =>
  obtain⟨e,m,d,u,D,U,rfl⟩:=d
  have d:L[i]?=Β e:=d
  have K:=(gQ0 d)
  have C:=Ϗ d
  have E:∀{k:Nat}{x:Ent},(L++[⟨s',e.p++[m]⟩])[k]?=Β x->L[k]?=Β x∨(k=L.length/\x=⟨s',e.p++[m]⟩):=λ{k x} b=>by
   by_cases l:k<L.length
   ·rw[Ϙ l]at b;exact .inl b
   ·have:k<(L++[(⟨s',e.p++[m]⟩:Ent)]).length:=(gQ0 b)
    rw[Υ,ϙ]at this
    obtain rfl:k=L.length:=by omega
    rw[È]at b;cases b;exact .inr ⟨Λ,Λ⟩
  have up:∀{y:YS}{q:Nat},(∃f∈L,kq f.s=kq y/\f.p.length<=q)->∃f∈L++[⟨s',e.p++[m]⟩],kq f.s=kq y/\f.p.length<=q:=λP=>by obtain⟨f,d,A⟩:=P;exact⟨f,Ä _ d,A⟩
  have F:∀{x:Ent},(L++[⟨s',e.p++[m]⟩])[i]?=Β x->x=e:=λ{x} b=>by
   rw[Ϙ K,d]at b;cases b;rfl
  have M:(e.p++[m]).length=e.p.length+1:=by rw[Υ];rfl
  refine⟨?_,λx b=>?_,λx b=>?_,λx b=>?_,λk Q x y l b G=>?_,λx b f w=>?_,λk x l b o y r v=>?_,λx b g o y t r v=>?_⟩
  ·obtain⟨R,N,S⟩:=B.z
   exact⟨R,by rw[Ϙ (gQ0 N)];exact N,S⟩
  ·rcases Ϣ.mp b with b|b
   ·exact B.go x b
   ·rw[Φ.mp b];exact(B.go e C).snoc (Ϗ u) D
  ·rcases Ϣ.mp b with b|b
   ·exact B.ns x b
   ·rw[Φ.mp b];exact A
  ·rcases Ϣ.mp b with b|b
   ·exact B.dn x b
   ·rw[Φ.mp b];rw[D.done];exact B.dn e C
  ·rcases E b with b|⟨ex,rfl⟩<;>rcases E G with G|⟨X,rfl⟩
   ·exact B.st k Q x y l b G
   ·rw[M];exact B.tp e d x (Ϗ b)
   ·have:=(gQ0 G);omega
   ·exact Ξ _
  ·rw[F b]
   rcases Ϣ.mp w with w|w
   ·exact B.tp e d f w
   ·rw[Φ.mp w,M];exact Ξ _
  ·have l:k<i:=l
   rw[Ϙ (by omega)]at b
   exact up (B.od k x l b o y r v)
  ·rw[F b]at r v
   by_cases I:g=j
   ·subst I
    have u:=u
    rw[u]at r;cases r
    rw[v.det D]
    exact⟨_,Ϩ _ (Φ.mpr Λ),Λ⟩
   ·obtain⟨f,H,J⟩:=B.cu e d g o y (by show g<j;have:g<j+1:=t;omega) r v
    exact⟨f,Ä _ H,J⟩
 | @next L i j e d A =>
  have K:=(gQ0 d)
  refine⟨B.z,B.go,B.ns,B.dn,B.st,λx b f w=>?_,λk x l b o y r v=>?_,λx b g o y t=>Κ t (ī _)⟩
  ·exact Î (B.tp e d f w) (NO (B.st i (i+1) e x (by omega) d b))
  ·have l:k<i+1:=l
   by_cases T:k=i
   ·subst T
    rw[d]at b;cases b
    obtain⟨g,t⟩:=ö r
    have Y:=(gQ0 t)
    obtain⟨f,H,J⟩:=B.cu e d g o y (by show g<j;omega) t v
    exact⟨f,H,J,B.tp e d f H⟩
   ·exact B.od k x (by show k<i;omega) b o y r v
theorem Tr.bf(h:Tr a s n c)(l:aS a s=Ε):Bf a s c:=by
 induction h with
 | nil =>
  have d:∀{k:Nat}{x:Ent},[(⟨core s,[]⟩:Ent)][k]?=Β x->k=0/\x=⟨core s,[]⟩:=λ{k x} g=>by
   cases k with
   |zero=>cases g;exact⟨Λ,Λ⟩
   |succ k=>cases g
  refine⟨⟨_,Λ,Λ,Λ⟩,λe b=>?_,λe b=>?_,λe b=>?_,λi j e f _ o v=>?_,λe b f p=>?_,λi e q=>Κ q (ī _),λe b j m y r=>Κ r (ī _)⟩
  ·rw[Φ.mp b];exact .nil
  ·rw[Φ.mp b];exact l
  ·rw[Φ.mp b];rfl
  ·rw[(d o).2];exact Ϧ _
  ·rw[Φ.mp p];exact Ϧ _
 |snoc t n u=>exact n.bf u
theorem nM(h:x.done=[]):core x=x:=by obtain⟨_,_,_,_,d⟩:=x;cases h;rfl
theorem Go.done(h:Go a s p x):x.done=s.done:=by
 induction h with
 |nil=>rfl
 |snoc _ _ b c=>rw[b.done];exact c
theorem Bf.eq(B:Bf a s c)(b:Cn s)(d:f∈c.L)(g:Go a (core s) q x)(e:kq f.s=kq x):f.s=x:=by
 have:=AT ((B.go f d).rk (s:=core s) b) (g.rk b) e
 rw[nM (B.dn f d),nM (g.done.trans Λ)]at this
 exact this
theorem Bf.least(B:Bf a s c)(j:Cn s)(l:c.L[c.i]?=Β e)(g:Go a (core s) q x)(o:q.length<=e.p.length):∃f∈c.L,f.s=x/\f.p.length<=q.length:=by
 induction g with
 |nil=>obtain⟨r,t,u,v⟩:=B.z;exact⟨r,Ϗ t,u,by rw[v];exact Ξ _⟩
 | @snoc p m x y g hm st ih =>
  rw[Υ,ϙ]at o⊢
  obtain⟨f,w,A,F⟩:=ih (by omega)
  obtain⟨i,b⟩:=ö w
  subst A
  have C:i<c.i:=by
   by_cases h:i<c.i
   ·exact h
   ·have:=B.st c.i i e f (by omega) l b
    omega
  obtain⟨D,d,E,G⟩:=B.od i f C b m y hm st
  exact⟨D,d,B.eq j d (.snoc g hm st) E,by omega⟩
theorem Bf.all(B:Bf a s c)(e:Cn s)(v:c.L.length<=c.i)(g:Go a (core s) q x):∃f∈c.L,f.s=x:=by
 induction g with
 |nil=>obtain⟨h,j,l,w⟩:=B.z;exact⟨h,Ϗ j,l⟩
 | @snoc p m x y g hm st ih =>
  obtain⟨f,o,r⟩:=ih
  obtain⟨i,b⟩:=ö o
  subst r
  obtain⟨t,d,u,A⟩:=B.od i f (by have:=(gQ0 b);omega) b m y hm st
  exact⟨t,d,B.eq e d (.snoc g hm st) u⟩
theorem Sr.least(h:Sr a s most (.Em p))(b:Cn s)(g:Go a (core s) q x)(d:aS a x=Δ):p.length<=q.length:=by
 cases h with
 |now=>exact Ϧ _
 | @Em n c s' p h0 h1 h2 h3 h4 =>
  obtain⟨e,m,i,_,_,_,rfl⟩:=h2
  have B:=h1.bf h0
  rw[Υ,ϙ]
  by_cases j:q.length<=e.p.length
  ·obtain⟨f,l,o,_⟩:=B.least b i g j
   have:=B.ns f l
   rw[o,d]at this;cases this
  ·omega
theorem Sr.path(h:Sr a s most (.Em p))(b:aS a s=Ε):p≠[]/\∃x,Go a (core s) p x/\aS a x=Δ:=by
 cases h with
 |now h=>rw[b]at h;cases h
 | @Em n c s' p b h1 h2 h3 h4 =>
  obtain⟨e,m,d,f,g,_,rfl⟩:=h2
  exact⟨by simp,s',((h1.bf b).go e (Ϗ d)).snoc (Ϗ f) g,h3⟩
theorem Sr.Of(h:Sr a s most r)(b:aS a s=Δ):r=.Em []:=by
 cases h with
 |now=>rfl
 |more h=>rw[b]at h;cases h
 |Em h=>rw[b]at h;cases h
 |ends h=>rw[b]at h;cases h
theorem Sr.none(h:Sr a s most .ends)(d:Cn s)(g:Go a (core s) q x):aS a x=Ε:=by
 cases h with
 | ends b c e l =>
  obtain⟨f,i,j⟩:=(c.bf b).all d e g
  rw[←j];exact(c.bf b).ns f i
theorem New.lt(h:New a c s' p):c.i<c.L.length:=by
 obtain⟨e,m,b,_⟩:=h;exact(gQ0 b)
theorem New.grow(h:New a c s' p)(n:Nx a c c'):c'.L.length=c.L.length+1:=by
 rw[(h.nx n).2];simp
inductive GD(a:YA)(s:YS)(most:Nat)(n:Nat)(c:jp):Rs->Prop
 |more {s':YS} {p:List Mv} (h2:New a c s' p) (h3:c.L.length=most):GD a s most n c .more
 |Em {s':YS} {p:List Mv} (h2:New a c s' p) (h3:aS a s'=Δ) (h4:c.L.length<most):GD a s most n c (.Em p)
 |ends (h2:c.L.length<=c.i) (h3:c.L.length<=most):GD a s most n c .ends
theorem Sr.fin(h:Sr a s most r)(f:aS a s=Ε):∃n c,Tr a s n c/\GD a s most n c r:=by
 cases h with
 |now h=>rw[f]at h;cases h
 |more _ b d e=>exact⟨_,_,b,.more d e⟩
 |Em _ b d e g=>exact⟨_,_,b,.Em d e g⟩
 |ends _ b d e=>exact⟨_,_,b,.ends d e⟩
theorem GD.le(h:GD a s most n c r):c.L.length<=most:=by
 cases h<;>omega
theorem GD.nx(h:GD a s most n c r)(x:Nx a c c'):r=.more/\most<c'.L.length:=by
 cases h with
 |more b d=>exact⟨Λ,by rw[b.grow x];omega⟩
 |Em b d e=>rw[(b.nx x).1]at d;cases d
 |ends b d=>have:=x.lt;omega
theorem GD.same(h:GD a s most n c r)(g:GD a s most n c r'):r=r':=by
 cases h with
 | more e i=>cases g with
  |more=>rfl
  |Em d b f=>omega
  |ends d b=>have:=e.lt;omega
 | Em e i d=>cases g with
  |more b f=>omega
  |Em b f j=>rw[(e.det b).2]
  |ends b f=>have:=e.lt;omega
 | ends e i=>cases g with
  |more d b=>have:=d.lt;omega
  |Em d b f=>have:=d.lt;omega
  |ends=>rfl
theorem Sr.det(h:Sr a s most r)(i:Sr a s most r'):r=r':=by
 cases b:aS a s with
 |true=>rw[h.Of b,i.Of b]
 | false =>
  obtain⟨n,c,t,f⟩:=h.fin b
  obtain⟨j,p,d,e⟩:=i.fin b
  rcases Lh n j with l|l|l
  ·obtain⟨m,g,o⟩:=t.lt d l
   have:=(f.nx g).2
   have:=e.le
   omega
  ·subst l
   have:=t.det d
   subst this
   exact f.same e
  ·obtain⟨m,g,o⟩:=d.lt t l
   have:=(e.nx g).2
   have:=f.le
   omega
theorem Sr.up(h:Sr a s most .ends)(f:most<=MN)(b:Sr a s MN r):r=.ends:=by
 cases h with
 |ends c d e g=>exact b.det (.ends c d e (by omega))
theorem Sr.down(h:Sr a s (most+1) .more)(f:Sr a s most r):r=.more:=by
 cases h with
 | @more n c s' p h0 h1 h2 h3 =>
  obtain⟨g,m,b,e⟩:=f.fin h0
  have:=e.le
  rcases Lh n g with l|l|l
  ·obtain⟨i,d,j⟩:=h1.lt b l
   have:=h2.grow d
   omega
  ·subst l
   have:=h1.det b
   subst this
   omega
  ·obtain⟨i,d,j⟩:=b.lt h1 l
   exact(e.nx d).1
end K69
namespace K69
open PySem L2 LkM
noncomputable def wf(wy:cC->Nat):Wf:=λp g k=>wl wy (Zm ((p:Int),(g:Int),k))
theorem BJ(a:List Rw):Bi a=wf (dS a):=rfl
theorem T1{g l e:Nat}(a:(ps.getD l (0,0)).2=(e:Int))(b:e≠g):dN wy ps g l=wf wy e g (Β l):=by
 unfold dN
 rw[a,Θ (by omega)]
 rfl
theorem HZ:p∈cK m↔m.testBit p=Δ:=Yd.HF (Yd.IW m)
theorem vd(a:q.1<m)(b:(S.getD q.1 0).testBit q.2=Δ):q∈eO S m:=by
 unfold eO lp
 exact Ć.mpr ⟨q.1,Ë.mpr a,Õ.mpr ⟨q.2,HZ.mpr b,Λ⟩⟩
theorem sw(h:nq wy ps n=.HX N):nn wy ps n=Γ/\yV (dN wy ps) (y1 (dq wy ps n n)) ps.length N:=by
 unfold nq at h
 cases a:nn wy ps n with
 |some q=>rw[a]at h;cases h
 | none =>
  rw[a]at h
  dsimp only at h
  by_cases b:(jy (vJ wy ps n)).length<ps.length
  ·rw[Ι b]at h;cases h
  ·rw[Θ b]at h
   cases h
   refine⟨Λ,?_⟩
   have c:E2 (dN wy ps) (y1 (dq wy ps n n)) ps.length (vJ wy ps n):=lG
   obtain⟨m,d,_⟩:=sj (vJ wy ps n)
   have e:=d.len
   have f:=c.len
   exact At (show(jy (vJ wy ps n)).length=ps.length by omega)
theorem ug(S:List Nat)(l:Nat):(iz S).getD l 0=((S.getD l 0:Nat):Int):=by
 unfold iz
 rw[Ω,Ω,ϝ]
 cases S[l]?<;>rfl
theorem xq(h:nq wy ps n=.HX N)(b:∀k,∀z∈wl wy k,z<ps.length):Pk n ps (wf wy) (iz N) (dq wy ps n n):=by
 obtain⟨c,j⟩:=sw h
 refine⟨by unfold iz;rw[Ο,j.len],gL ..,λz a=>oZ _ _ _ _ (Ξ _) z a,λp g s d l c=>?_,λl g e m d f o t=>?_⟩
 ·exact iw d (b _ l c) (vw b s c)
 ·have u:=lB f
  have i:=Ă.mp c (l,g) (vd m f)
  unfold iY at i
  rw[←T1 o t]
  have q:(dN wy ps g l).isEmpty=Ε:=by
   cases v:(dN wy ps g l).isEmpty with
   |false=>rfl
   |true=>rw[v,Η (show ¬(ps.getD l (0,0)).2=(g:Int) by rw[o];omega)]at i;exact Κ Λ i
  refine⟨(λz=>by rw[z]at q;cases q),λz a=>?_⟩
  have r:=xD b g l z a
  refine⟨iw d r (wb b u a),?_⟩
  rw[ug,ug]
  have:=j.up l g z m r (HZ.mpr f) a
  omega
structure Sx(a:YA)(s:YS):Prop where
 c:Cn s
 g:∃N,Ff a s N zr
 w:Pj a s
 r:∀nums S,Pk a.n a.ps a.wy nums S->JW nums S s
 m:∃rs:List Int,s.rooms=rs.map V.int/\∀r∈rs,1<=r
theorem Sx.step(h:Sx a s)(O:sT a)(J:EG a s)(b:ES a s mv s'):Sx a s':=by
 obtain⟨N,G⟩:=h.g
 obtain⟨f,i,e⟩:=h.m
 exact⟨h.c.step b,G.step J b,λp e=>by rw[b.sgs]at e;exact h.w p e,λd S B=>(h.r d S B).step B O J b,f,by rw[b.rooms];exact i,e⟩
theorem Sx.dn(h:Sx a s)(d:List (List V)):Sx a {s with done:=d}:=let ⟨N,G⟩:=h.g;⟨h.c,⟨N,G.dn' d⟩,h.w,λb S B=>(h.r b S B).dn d,h.m⟩
theorem Sx.post(h:Sx a s)(d:0<=l)(e:a.wy x y Γ≠[]):Sx a (eE s x y l u):=let ⟨N,G⟩:=h.g;⟨h.c.post _ _ _ _,G.post d,h.w.post e,λb S B=>(h.r b S B).post,h.m⟩
theorem Sx.room(h:Sx a s){k:Nat}(e:s.δ[k]?=Β ln):1<=ln.r+ln.b+ln.qs.length:=by
 obtain⟨N,G⟩:=h.g
 obtain⟨f,i,j⟩:=h.m
 have c:=(G.room k ln e).1
 rw[i,ϝ]at c
 cases d:f[k]? with
 |none=>rw[d]at c;cases c
 |some r=>rw[d]at c;have c:=Ψ c;injection c with c;rw[←c];exact j r (Ϗ d)
theorem Go.sx(h:Go a s p x)(O:sT a)(J:EG a s)(X:Sx a s):EG a x/\Sx a x:=by
 induction h with
 |nil=>exact⟨J,X⟩
 |snoc _ _ c b=>exact⟨b.1.step c,b.2.step O b.1 c⟩
theorem sg(B:Pk a.n a.ps a.wy nums S)(O:sT a)(J:EG a s)(X:Sx a s)(c:∀p g k,p<a.n->g<a.n->∀z∈a.wy p g k,z<a.ps.length)(h:Go a (core s) p x):aS a x=Ε:=by
 obtain⟨d,b⟩:=h.sx O (J.done []) (X.dn [])
 unfold aS
 cases e:aF a x with
 |cons _ _=>rfl
 | nil =>
  obtain⟨N,G⟩:=b.g
  rw[never B O (b.r nums S B) G d (BS e) (λk i f=>b.room f) b.w c]
  rfl
noncomputable def vD:V->ý
 |.int i =>.int i
 |.str t =>.str t
 |_ =>.none
noncomputable def T2(m:List V):ý:=.tuple (m.map vD)
theorem uu:∀{m:List V},(∀x∈m,za x)->m7 K H m (m.map vD)
 |[],_ =>.nil
 | x:: m,h=>by
  refine .cons ?_ (uu λy a=>h y (ϧ _ a))
  rcases h x ϟ with ⟨i,rfl⟩|⟨t,rfl,_⟩
  ·exact .int i
  ·exact .str t
theorem jB:∀{b:List V}{a:List (List V)},Paired (EY H) b a->(∀m∈a,∀x∈m,za x)->m7 K H b (a.map T2)
 |_,_,.nil,_ =>.nil
 | _,_,.cons ⟨t,e,h⟩ r,hm=>by
  subst e
  exact .cons (.tup (DY.of h) (uu (hm _ ϟ))) (jB r λm c=>hm m (ϧ _ c))
theorem wJ{a:List (List V)}(h:∀m∈a,∀x∈m,za x):GF (.list (a.map T2)) 64:=(iC (m:=1) λz b=>by
 obtain⟨m,c,rfl⟩:=Õ.mp b
 refine eU (m:=0) λy d=>?_
 obtain⟨x,e,rfl⟩:=Õ.mp d
 rcases h m c x e with ⟨i,rfl⟩|⟨t,rfl,f⟩
 ·exact fF _
 ·exact eC f).le (by decide)
def Scd(s:YS):Prop:=∀d∈s.done,∀x∈d,za x
theorem wM{d:List V}(h:∀d∈l,∀x∈d,za x)(b:∀x∈d,za x):∀e∈l++[d],∀x∈e,za x:=λe a=>by
 rcases Ϣ.mp a with a|a
 ·exact h e a
 ·rw[Φ.mp a];exact b
theorem zp(a b l u:Int):∀x∈[V.str "post",.int a,.int b,.int l,.int u],za x:=λx c=>by
 simp only[Ϯ,É,or_false]at c
 rcases c with rfl|rfl|rfl|rfl|rfl<;>first|exact ύ ⟨_,Λ⟩|exact ġ ⟨_,Λ,by decide +kernel⟩
inductive tE(K:ϣ)(c:Cs)(TC:Ν)(J:TJ)(ys:Ys)(vs:List V)(H:Hp)(Q:VK)(E:XK):Prop
 |mk (sc tb l lx Eh lt:Ν) (ns:List Int) (Eb DX:List V) (ps:List (Int×Int)) (n:Nat) (wy:Wf) (_:vs=[.ref sc,.ref tb,.ref l,.int (n:Int)]) (_:DS K H sc (ns.map V.int)) (_:H l=Β (.ρ Eb)) (_:Eb.length=ps.length) (_:EL c TC J H tb lx Eh lt n DX ps wy) (_:(∀p g k,(wy p g k).length<=400)) (_:(∀p∈ps,jx n p=Δ)) (_:ps.length<=4) (_:2<=n) (_:n<=3) (_:∀(a:YA)(s:YS)(H':Hp),DP H H'->a.ps=ps->a.n=n->a.tb=tb->a.wy=wy->Ic K c TC J (yx ys []) H' a s->EG a s->l5 a.ps.length s.rooms=Δ->s.done.length<=20->Sx a s->Scd s->Q (.ref a.y) H')
theorem zb(h:kN K c TC J ys vs H Q E)(k:∀v a,Q v a->Q' v a):kN K c TC J ys vs H Q' E:=by
 obtain⟨y,b,d,e,f,lt,n,g,ps,wy,i,j,l,m,o,p,q,r⟩:=h
 exact⟨y,b,d,e,f,lt,n,g,ps,wy,i,j,l,m,o,p,q,λh s t le u dn a w x z A B C=>k _ _ (r h s t le u dn a w x z A B C)⟩
structure YdM(P:Program)(w:Ϭ)(K:ϣ)(mg:Str->Option Ρ)(ν:Ù)(c:Cs)(TC:Ν)(J:TJ)(ys:Ys)(fc fd fy fp fr fm:Ν)(dc dd dy dp dr dm:Ñ):Prop where
 mc:mg "_law_cell_at"=Β (.ref fc)
 kc:ϳ K (.ref fc)=Δ
 bc:Binds K dc ["_law_script","_law_k"] []
 Gc:DQ P w K mg ν aB 1 fc dc ["_law_script","_law_k"] (oA K)
 md:mg "_law_draws"=Β (.ref fd)
 kd:ϳ K (.ref fd)=Δ
 bd:Binds K dd ["_law_cell","_law_amount","_law_base"] []
 Gd:DQ P w K mg ν aB 2 fd dd ["_law_cell","_law_amount","_law_base"] jW
 my:mg "Yard"=Β (.ref ys.DR)
 My:Mk K ys.DR fy
 OQ:Binds K dy ["self","table","rooms"] []
 Gy:DQ P w K mg ν aB 4 fy dy ["self","table","rooms"] (kN K c TC J (yx ys []))
 mp:bW K ys.DR "post" fp
 bp:Binds K dp Rq []
 Gp:DQ P w K mg ν aB 4 fp dp Rq (rG K c TC J (yx ys []))
 mr:bW K ys.DR "do" fr
 br:Binds K dr ["self","move"] []
 Gr:∀ex,DQ P w K mg ν aB 8 fr dr ["self","move"] (zm K c TC J (yx ys ex))
 mm:bW K ys.DR "moves" fm
 bm:Binds K dm ["self"] []
 Gm:∀ex,DQ P w K mg ν aB 7 fm dm ["self"] (iB K c TC J (yx ys ex))
abbrev ZX:List Str:=["_law_script","_law_table_here","_law_lanes_here","_law_places","_law_rooms","_law_yard_here","_law_cell","_law_start","_law_goal","_law_pick"]
noncomputable def mkC(s:Ã):Scope:=match s with
 |.Assign _ (.Call _ [_,.ListComp _ _ sc _] _ _) _=>sc
 |_=>zQ0
structure YH(K:ϣ)(c:Cs)(TC:Ν)(J:TJ)(ys:Ys)(a:YA)(Ei:List V)(H H':Hp)(s:YS):Prop where
 e:DP H H'
 I:Ic K c TC J (yx ys []) H' a s
 J:EG a s
 R:s.rooms=Ei
 X:Sx a s
 S:Scd s
theorem sx0{b:List Int}(h:∀r∈b,1<=r/\r<=60):Sx a (Y0 (b.map V.int) n):=by
 refine⟨cn0 _ _ (λj h=>?_) λq d=>Ġ d,⟨zr,ZT h⟩,λp e=>(by cases e),λc S B m t f=>(by cases f),b,Λ,λr g=>(h r g).1⟩
 obtain⟨v,i,rfl⟩:=Õ.mp h
 obtain⟨r,_,rfl⟩:=Õ.mp i
 rfl
theorem IP:ar ZX ["_law_script","_law_table_here","_law_lanes_here","_law_places"] (aj il):=L2.Ez
theorem ZY:EV ZX (aj il) (mkC ((aJ il).getD 1 (.Pass ⟨0,0,0,0⟩))) [] []:=L2.FH
noncomputable def lyF:Ã:=(aJ il).getD 2 (.Pass ⟨0,0,0,0⟩)
theorem T3:EV ZX (aj il) (RT lyF) ["_law_script"] [0]:=L2.FH
theorem T4:(["_law_k","_law_script"]:List Str).Nodup:=by decide +kernel
theorem ZZ:(["_law_room"]:List Str).Nodup:=by decide +kernel
theorem xK(F:Et K "_law_yard" "_law_yard" il f f')(T:eK mg)(Y:jo K ys)(W:Wy K TC fw dw J)(Gw:DQ P w K mg ν aB 3 fw dw ["self","place","goal","came"] (iA J))(D:YdM P w K mg ν c TC J ys fc fd fy fp fr fm dc dd dy dp dr dm):
  DQ P w K mg ν aB 9 f f' ["_law_script","_law_table_here","_law_lanes_here","_law_places"] (tE K c TC J ys):=by
 refine F.ok IP λcdv Ar outer s0 H vs Q E G h=>?_
 obtain⟨sc,tb,l,lx,Eh,lt,ns,Eb,DX,ps,n,wy,rfl,hS,gl,FZ,hT,FE,DW,hp4,Ka,hn3,q⟩:=h
 have hu:=G.units
 have EF:DZ 1 _:=G.mono (by decide)
 have F3:DZ 2 _:=G.mono (by decide)
 have hr3:DZ 3 _:=G.mono (by decide)
 have HL:DZ 4 _:=G.mono (by decide)
 have Kv:DZ 5 _:=G.mono (by decide)
 have II:DZ 7 _:=G.mono (by decide)
 refine⟨_,(ae (av (i:=4) IP.nd Λ (ύ Λ) (aq D.Gd F3 Λ D.md D.kd D.bd .nil ao (aa (aC cI (aq D.Gc EF Λ D.mc D.kc D.bc .nil ao (aa (pv 0) (aa ai ad))) ai) (aa (ay aw Λ T.len PySem.boot_len (aa (pv 2) ad)) (aa ai ad)))))
  (ae (av (i:=5) IP.nd Λ (ύ Λ) (oQ (eI D.My D.Gy Kv Λ D.my D.OQ .nil ao (aa (pv 1) (aa (b5 (own:=["_law_room"]) (capN:=[]) (cap:=[]) ZY Λ (aV (pv 4)) (λC s' A fp=>⟨ax (i:=0) ZZ Λ (ύ Λ),bX,aC bU ai (aC bF (pv 0) ai)⟩)) ad)))))
  (ae (bz Ϟ Λ (aV (b5 (own:=["_law_k"]) (capN:=["_law_script"]) (cap:=[0]) T3 Λ (bL Λ T.range (aa (aC bU ai (aC bF (aq D.Gc EF Λ D.mc D.kc D.bc .nil ao (aa (pv 0) (aa ai ad))) ai)) ad)) (λC s' A fp=>⟨ax (i:=0) T4 Λ (ύ Λ),bX,aq D.Gc EF Λ D.mc D.kc D.bc .nil ao (aa (pv 1) (aa (aC bU ai (pv 0)) ad))⟩))) (ax (i:=6) IP.nd Λ (ύ Λ))
  (ae (av (i:=7) IP.nd Λ (ύ Λ) (aC bF (pv 6) (pv 3)))
  (ae (av (i:=8) IP.nd Λ (ύ Λ) (aC bF (aC bU (aC bU (pv 7) ai) (aC bF (aC cI (pv 6) ai) (aC dX (pv 3) ai))) (pv 3)))
  (ah (aO (az (C1 hu) (aI (pv 1) W.cl W.m Gw hr3 W.b .nil ao (aa (pv 7) (aa (pv 8) (aa cz ad)))) (aW ad) (aA _))
   (ah (aM (aI (pv 5) Y.cl D.mp D.Gp HL D.bp .nil ao (aa (pv 7) (aa (pv 8) (aa (aC bU ai (aC bF (aC cI (pv 6) ai) ai)) (aa (aC bF (pv 6) (aC oT ai ai)) ad)))))))
   aE)))))
  (ae (bz Ϟ Λ (aV (dF eB (pv 0) (cY ai) (cY (aC bU ai (aC bF (aC cI (aq D.Gc EF Λ D.mc D.kc D.bc .nil ao (aa (pv 0) (aa ai ad))) ai) ai))))) (ax (i:=9) IP.nd Λ (ύ Λ))
   (ah (aO (az (iq hu) (aQ (pv 5) Y.cl D.mm (D.Gm []) II D.bm .nil ao) (aW ad) (aA _))
   (ah (aM (aI (pv 5) Y.cl D.mr (D.Gr []) G D.br .nil ao (aa (aD aR (aQ (pv 5) Y.cl D.mm (D.Gm []) II D.bm .nil ao) (aC bF (pv 9) (ay aw Λ T.len PySem.boot_len (aa (aQ (pv 5) Y.cl D.mm (D.Gm []) II D.bm .nil ao) ad))) (λ_ _=>rfl)) ad))))
   aE)))
  (ah (au (pv 5))))))),?_⟩
 refine⟨sc,ns,0,Λ,hS,λd0=>⟨_,_,Λ,Λ,⟨by decide,by decide⟩,l,_,Λ,.inl (DS.of gl),_,Eb.length,2,Λ,by omega,by decide,by decide,λRo ds H3 s3 hRo Vv IA Fw=>?_⟩⟩
 have Lu:=hT.keep W (DP.Ed s3)
 refine⟨λv H5=>∃(H4:Hp)(rs:List Int),DP H3 H4/\(∀r∈rs,1<=r/\r<=60)/\rs.length=ps.length/\YdP K c TC J ys [] H4 tb ps n wy rs v H5,?_,?_⟩
 ·refine⟨Ro,Λ,⟨_,DS.of Vv⟩,?_⟩
  refine bQ ds.length (by rw[ϗ];omega) (λi acc A=>A=H3/\∃ks:List Int,acc=ks.map V.int/\ks.length=i/\∀r∈ks,1<=r/\r<=60) ⟨Λ,[],Λ,Λ,λr G=>by cases G⟩ (λi acc A h=>by obtain⟨_,ks,rfl,e,_⟩:=h;rw[Ο];omega) (λi acc A hi h=>?_) (λacc A h=>?_)
  ·obtain⟨rfl,ks,rfl,e,ML⟩:=h
   have hx:(ds.map V.int)[i]?=Β (.int (ds[i])):=by rw[ϝ,Μ hi];rfl
   refine⟨⟨_,_,DS.of Vv,hx⟩,λv M y=>?_⟩
   obtain⟨rfl,y⟩:=y
   have hv:=y _ (DS.of Vv)
   rw[hx]at hv
   cases hv
   refine⟨_,_,Λ,Λ,(by show (0:Int)<2;decide),_,_,Λ,Λ,Λ,ks++[1+ds[i]% 2],by rw[ϯ];rfl,by rw[Υ,e];rfl,λr G=>?_⟩
   rcases Ϣ.mp G with G|G
   ·exact ML r G
   ·rw[Φ.mp G];exact⟨by omega,by omega⟩
  obtain⟨rfl,ks,rfl,Fe,ML⟩:=h
  refine⟨⟨_,DS.of Vv,by rw[Ο];exact Ξ _⟩,λD2 FP=>?_⟩
  have t:=(DP.refl A).new (o:=.ρ (ks.map V.int)) FP
  have g4:(π A D2 (.ρ (ks.map V.int))) D2=Β (.ρ (ks.map V.int)):=ac
  generalize π A D2 (.ρ (ks.map V.int))=H4 at t g4⊢
  have QF:=Lu.keep W (DP.Ed t)
  exact λy dy ny RK RL=>zb (zc (P:=P) (w:=w) (ys:=ys) (ex:=[]) W QF FE DW (DS.of g4) (by rw[Fe,IA,FZ]) ML (by omega) (λz L=>by cases L) y dy ny RK RL) λv H5 h=>⟨h.1,H4,ks,t,ML,by rw[Fe,IA,FZ],h.2⟩
 rintro v H5 ⟨H4,rs,t,NM,HA,a,rfl,e1,e2,e3,e4,s5,fr,hI,hJ⟩
 have sH5:=s3.trans (t.trans s5)
 have K5:=λz L=>(s3.trans t).free (fr z L)
 subst e1 e2 e3 e4
 have np:(0:Int)<(a.n:Int):=by omega
 have np1:(0:Int)<(a.n:Int) - 1:=by omega
 have two:∀z:Ν,z∈[a.le,a.dn]->z∈a.four:=λz L=>by simp only[Ϯ,É,or_false]at L⊢;rcases L with rfl|rfl<;>simp
 refine⟨sc,ns,6,Λ,sH5.seq hS,λd6=>⟨_,_,Λ,Λ,(by show (0:Int)<3;decide),_,_,Λ,Λ,?_⟩⟩
 obtain⟨kk,OB,Oe,hk3⟩:∃kk:Nat,1+d6% 3=(kk:Int)/\1<=kk/\kk<=3:=⟨(1+d6% 3).toNat,by omega,by omega,by omega⟩
 refine⟨(kk:Int),congrArg (λz=>[V.int z]) OB,by omega,by omega,?_⟩
 rw[ϋ]
 refine bQ kk (by rw[ϗ];omega) (λi acc A=>A=H5/\∃ks:List Int,acc=ks.map V.int/\ks.length=i) ⟨Λ,[],Λ,Λ⟩ (λi acc A h=>by obtain⟨_,ks,rfl,e⟩:=h;rw[Ο];omega) (λi acc A hi h=>?_) (λacc A h=>?_)
 ·obtain⟨rfl,ks,rfl,e⟩:=h
  refine⟨hi,λv M y=>?_⟩
  obtain⟨rfl,rfl⟩:=y
  exact⟨_,_,Λ,Λ,sc,ns,3+i,congrArg (λz=>[V.ref sc,V.int z]) (by omega),sH5.seq hS,λd=>⟨Λ,ks++[d],by rw[ϯ];rfl,by rw[Υ,e];rfl⟩⟩
 obtain⟨rfl,cl,rfl,Jp⟩:=h
 refine⟨Ξ _,λc6 hc6=>?_⟩
 have u6:=(DP.refl A).new (o:=.ρ (cl.map V.int)) hc6
 have g6:(π A c6 (.ρ (cl.map V.int))) c6=Β (.ρ (cl.map V.int)):=ac
 have nc6:=qu hI.Y hc6
 generalize π A c6 (.ρ (cl.map V.int))=H6 at u6 g6⊢
 refine⟨c6,Λ,⟨_,DS.of g6⟩,?_⟩
 refine bV (K:=K) (a:=c6) (xs:=cl.map V.int) (λi σ M=>∃(a6 a7 a8:Option V)(s:YS),YH K c TC J ys a (rs.map V.int) H M s/\M c6=Β (.ρ (cl.map V.int))/\s.U.length<=i/\s.done.length<=i/\σ=[Β (.ref sc),Β (.ref a.tb),Β (.ref l),Β (.int a.n),Β (.ref Ro),Β (.ref a.y),a6,a7,a8,Γ])
  ⟨Γ,Γ,Γ,_,⟨sH5.trans u6,hI.same W u6,hJ,Λ,sx0 NM,λd hd=>by cases hd⟩,g6,Ϧ _,Ϧ _,Λ⟩ (λi σ A _ DT=>by obtain⟨_,_,_,_,_,g,_⟩:=DT;exact DS.of g) ?_ ?_
 ·rintro i v σ M hv ⟨a6,a7,a8,s,p,gc6,h1,h2,rfl⟩
  have hi:i<kk:=by have:=(gQ0 hv);rw[Ο]at this;omega
  obtain⟨d,rfl⟩:∃d,v=V.int d:=by
   rw[ϝ,Μ (show i<cl.length by omega)]at hv
   exact⟨_,(Ψ hv).symm⟩
  refine⟨_,_,Λ,Λ,np,?_⟩
  have e1:=æ d (show(a.n:Int)≠0 by omega)
  have e2:=á d np
  obtain⟨B,ha',han⟩:∃B:Nat,d% (a.n:Int)=(B:Int)/\B<a.n:=⟨(d% (a.n:Int)).toNat,by omega,by omega⟩
  rw[ha']
  refine⟨_,_,Λ,Λ,_,_,Λ,Λ,⟨by decide,by decide⟩,_,_,Λ,Λ,_,_,Λ,Λ,np1,_,_,Λ,Λ,_,_,Λ,Λ,np,?_⟩
  have e3:=æ (d / 4) (show(a.n:Int) - 1≠0 by omega)
  have e4:=á (d / 4) np1
  obtain⟨r1,r2,r3⟩:=oK (n:=(a.n:Int)) (x:=(B:Int)) (o:=d / 4% ((a.n:Int) - 1)) (by omega) (by omega) e3 e4
  obtain⟨N,FO,Te,Kj⟩:∃N:Nat,((B:Int)+1+d / 4% ((a.n:Int) - 1))% (a.n:Int)=(N:Int)/\N<a.n/\B≠N:=⟨(((B:Int)+1+d / 4% ((a.n:Int) - 1))% (a.n:Int)).toNat,by omega,by omega,by omega⟩
  rw[FO]
  have hT2:=p.I.T
  obtain⟨Jy,fst,Jd,Fg,GA⟩:=hT2.i
  refine⟨a.tb,Jy,fst,Λ,Jd,GA,a.tb,a.n,a.wy,B,N,Γ,Λ,hT2.j,han,Te,λD H3 s3 hD gD=>⟨Ϧ _,λo7 OU=>?_⟩⟩
  have t:=s3.new (o:=.ρ []) OU
  have gD4:(π H3 o7 (.ρ [])) D=Β (.ρ (nV (a.wy B N Γ))):=by rw[af (ag gD OU)];exact gD
  have g7:(π H3 o7 (.ρ [])) o7=Β (.ρ (([]:List Int).map V.int)):=ac
  generalize π H3 o7 (.ρ [])=H4 at t gD4 g7⊢
  have Z:=p.I.same W t
  have sH4:=p.e.trans t
  refine⟨D,o7,iz (a.wy B N Γ),[],Λ,Λ,by rw[←tT];exact DS.of gD4,DS.of g7,_,Λ,?_⟩
  by_cases hw:a.wy B N Γ=[]
  ·rw[Ζ (show iz (a.wy B N Γ)=[] by rw[hw];rfl)]
   exact aG ⟨_,_,_,s,⟨sH4,Z,p.J,p.R,p.X,p.S⟩,t _ _ gc6,by omega,by omega,Λ⟩
  have hiz:¬iz (a.wy B N Γ)=[]:=λz=>hw (by unfold iz at z;exact ž.mp z)
  rw[Η hiz]
  refine aK ⟨a.y,a.dy,_,Λ,Z.Y.ς,Λ,_,_,Λ,Λ,⟨by decide,by decide⟩,_,_,Λ,Λ,(by show (0:Int)<3;decide),_,_,Λ,Λ,_,_,Λ,Λ,⟨by decide,by decide,by decide⟩,_,_,Λ,Λ,(by show (0:Int)<10^(60:Int).toNat;decide +kernel),?_⟩
  have w1:=æ d (show(10^(60:Int).toNat:Int)≠0 by decide +kernel)
  have w2:=á d (show (0:Int)<10^(60:Int).toNat by decide +kernel)
  have l1:=æ (d / 12) (show (3:Int)≠0 by decide)
  have l2:=á (d / 12) (show (0:Int)<3 by decide)
  dsimp only
  generalize d% 10^(60:Int).toNat=wd at w1 w2⊢
  have hwd:OE (.int wd)=Δ:=by
   unfold OE
   exact Ζ (by rw[Θ (by omega)];exact w2)
  obtain⟨len,hlen,US⟩:∃len:Int,1+d / 12% 3=len/\1<=len/\len<=3:=⟨_,Λ,by omega,by omega⟩
  rw[hlen]
  have gd:=uS (n:=a.n) (wy:=a.wy) (m:=s.U.length) han Te ⟨US.1,by omega⟩ hwd Kj hw (by omega)
  refine⟨a.y,a.dy,a.tb,a.ro,a.la,a.le,a.li,a.dn,a.lx,a.Eh,a.lt,a.n,a.DX,a.ps,a.wy,s,.int B,.int N,.int len,.int wd,Λ,Z.Y,Z.T,.int _,.int _,.int _,.int _,by omega,by omega,(λh=>by rw[gd]at h;cases h),(λh=>by rw[gd]at h;cases h),(λh=>by rw[gd]at h;cases h),(λh=>by rw[gd]at h;cases h),(λh=>by rw[gd]at h;cases h),λ_ H5 o5 KP=>?_⟩
  have hJ5:=p.J.post (x:=B) (y:=N) (l:=len) (u:=wd) han Te ⟨by omega,by omega⟩ (by omega)
  refine⟨_,_,_,eE s B N len wd,⟨iF sH4 o5 λz L=>K5 z (two z L),⟨KP,EL.keep W Z.T (Ee.Ed (λz L=>Z.Y.G9 z (two z L)) o5),Z.O,hJ5.ok⟩,hJ5,p.R,p.X.post (by omega) hw,wM p.S (zp _ _ _ _)⟩,o5 _ _ (λz=>nc6 (two _ z)) (t _ _ gc6),?_,?_,Λ⟩
  ·show(s.U++[_]).length<=_
   rw[Υ,ϙ];omega
  ·show(s.done++[_]).length<=_
   rw[Υ,ϙ];omega
 rintro σ M ⟨a6,a7,a8,s,p,_,h1,h2,rfl⟩
 rw[Ο]at h1 h2
 refine⟨_,Λ,sc,ns,6,Λ,p.e.seq hS,λd7=>⟨_,_,Λ,Λ,⟨by decide,by decide⟩,_,_,Λ,Λ,(by show (0:Int)<7;decide),_,_,Λ,Λ,?_⟩⟩
 obtain⟨jj,Tz,hj1,hj2⟩:∃jj:Nat,8+d7 / 3% 7=(jj:Int)/\8<=jj/\jj<=14:=⟨(8+d7 / 3% 7).toNat,by omega,by omega,by omega⟩
 obtain⟨ms,hms,L7⟩:=qQ ns 8 jj
 refine⟨(jj:Int),congrArg V.int Tz,sc,_,Λ,p.e.seq hS,λcs T5=>?_⟩
 rw[show gB (ns.map V.int) (Β 8) (Β (jj:Int))=ms.map V.int from hms]
 have u3:=(DP.refl M).new (o:=.ρ (ms.map V.int)) T5
 have KZ:(π M cs (.ρ (ms.map V.int))) cs=Β (.ρ (ms.map V.int)):=ac
 have ncs:cs∉a.four:=qu p.I.Y T5
 generalize π M cs (.ρ (ms.map V.int))=H3 at u3 KZ⊢
 refine⟨cs,Λ,⟨_,DS.of KZ⟩,?_⟩
 refine bV (K:=K) (a:=cs) (xs:=ms.map V.int) (λi σ M=>∃(b0:Option V)(s:YS),YH K c TC J ys a (rs.map V.int) H M s/\M cs=Β (.ρ (ms.map V.int))/\s.done.length<=3+i/\σ=[Β (.ref sc),Β (.ref a.tb),Β (.ref l),Β (.int a.n),Β (.ref Ro),Β (.ref a.y),a6,a7,a8,b0])
  ⟨Γ,s,⟨p.e.trans u3,p.I.same W u3,p.J,p.R,p.X,p.S⟩,KZ,by omega,Λ⟩ (λi σ A _ DT=>by obtain⟨_,_,_,g,_⟩:=DT;exact DS.of g) ?_ ?_
 rotate_left
 ·rintro σ H4 ⟨b0,t,h4,_,hd4,rfl⟩
  rw[Ο]at hd4
  exact(q a t H4 h4.e Λ Λ Λ Λ h4.I h4.J (by rw[h4.R];exact xU HA NM) (by omega) h4.X h4.S)
 clear p h1 h2 T5 u3 KZ
 rintro i v σ M hv ⟨b0,s,p,KZ,hd,rfl⟩
 have hi:i<ms.length:=by have:=(gQ0 hv);rw[Ο]at this;exact this
 obtain⟨d,rfl⟩:∃d,v=V.int d:=by
  rw[ϝ,Μ hi]at hv
  exact⟨_,(Ψ hv).symm⟩
 refine⟨a.y,a.dy,_,Λ,p.I.Y.ς,Λ,a,s,Λ,p.I,λDm En H3 s3 OZ JS pM=>⟨Ϧ _,λo ho=>?_⟩⟩
 have t:=s3.new (o:=.ρ []) ho
 have u4:=(DP.refl H3).new (o:=.ρ []) ho
 have g4:(π H3 o (.ρ [])) o=Β (.ρ []):=ac
 generalize π H3 o (.ρ [])=H4 at t u4 g4⊢
 refine neN (f:=tU) (l:=aF a s) (.ρ (DS.of (u4 _ _ JS)) (dP (Paired.mono (λ_ _ z=>z.keep (DP.Ed u4)) pM))) (.ρ (DS.of g4) .nil) (jX _) ⟨_,Λ,?_⟩
 have Z:=p.I.same W t
 cases T6:(aF a s).isEmpty with
 |true=>exact aG ⟨_,s,⟨p.e.trans t,Z,p.J,p.R,p.X,p.S⟩,t _ _ KZ,by omega,Λ⟩
 |false =>
 have IC:0<(aF a s).length:=by
  cases h:aF a s with
  |nil=>rw[h]at T6;cases T6
  |cons _ _=>simp
 refine aK ⟨a.y,a.dy,_,Λ,Z.Y.ς,Λ,a.y,a.dy,_,Λ,Z.Y.ς,Λ,a,s,Λ,Z,λD1 mv1 H5 s5 _ g1 p1=>?_⟩
 have hI5:=Z.same W s5
 refine⟨a.y,a.dy,_,Λ,hI5.Y.ς,Λ,a,s,Λ,hI5,λD2 K0 H6 s6 _ g2 p2=>?_⟩
 have T7:=hI5.same W s6
 have Jz:mv1.length=(aF a s).length:=by rw[Paired.length p1,Ο]
 have GX:K0.length=(aF a s).length:=by rw[Paired.length p2,Ο]
 have e1:=æ d (show((K0.length:Nat):Int)≠0 by omega)
 have e2:=á d (show (0:Int)<((K0.length:Nat):Int) by omega)
 obtain⟨z,L,T8⟩:∃z:Nat,d% ((K0.length:Nat):Int)=(z:Int)/\z<(aF a s).length:=⟨(d% ((K0.length:Nat):Int)).toNat,by omega,by omega⟩
 obtain⟨v1,R4,mt,Og,gmt⟩:=Paired.at2 p1 (show((aF a s).map dA)[z]?=Β (dA (aF a s)[z]) by rw[ϝ,Μ T8];rfl)
 subst Og
 refine⟨D2,K0,Λ,.inl (DS.of g2),_,_,Λ,Λ,(by show (0:Int)<((K0.length:Nat):Int);omega),?_⟩
 dsimp only
 rw[L]
 refine⟨D1,mv1,(z:Int),_,Λ,Λ,DS.of (s6 _ _ g1),al R4,a,s,mt,(aF a s)[z],Λ,T7,s6 _ _ gmt,ė T8,p.J.sml (by omega),λH7 s' Ij o7 Oh=>?_⟩
 have s06:=t.trans (s5.trans s6)
 have hJ7:=(p.J.step Ij).done (s.done++[dA (aF a s)[z]])
 refine⟨_,{s' with done:=s.done++[dA (aF a s)[z]]},⟨iF (p.e.trans s06) o7 K5,⟨Oh,EL.keep W T7.T (Ee.Ed (λz L=>T7.Y.G9 z L) o7),T7.O,hJ7.ok⟩,hJ7,by rw[←p.R];exact Ij.rooms,(p.X.step T7.O p.J Ij).dn _,wM p.S (RH _)⟩,o7 _ _ ncs (s06 _ _ KZ),?_,Λ⟩
 show(s.done++[_]).length<=_
 rw[Υ,ϙ];omega
theorem Go.det(h:Go a s q x):∀{b:List Mv}{y:YS},Go a s b y->b=q->y=x:=by
 induction h with
 | nil =>
  intro b y c e
  cases c with
  |nil=>rfl
  |snoc _ _ _=>exact Κ e (by simp)
 | snoc _ _ d f =>
  intro b y c e
  cases c with
  |nil=>exact Κ e.symm (by simp)
  | snoc g _ i =>
   obtain⟨j,l⟩:=List.append_inj' e Λ
   cases l
   have:=f g j
   subst this
   exact i.det d
theorem Go.at(h:Go a s p x):∀{i:Nat}{m:Mv},p[i]?=Β m->∃y z,Go a s (p.take i) y/\m∈aF a y/\ES a y m z:=by
 induction h with
 |nil=>intro i m b;cases b
 | @snoc p m0 x y h hm st ih =>
  intro i m b
  by_cases c:i<p.length
  ·rw[Ϙ c]at b
   rw[List.take_append_of_le_length (by omega)]
   exact ih b
  ·have:=(gQ0 b)
   rw[Υ,ϙ]at this
   obtain rfl:i=p.length:=by omega
   rw[È]at b
   cases b
   rw[List.take_left]
   exact⟨x,y,h,hm,st⟩
structure LdM(P:Program)(w:Ϭ)(K:ϣ)(mg:Str->Option Ρ)(ν:Ù)(c:Cs)(TC:Ν)(J:TJ)(ys:Ys)(fm fw fd fs:Ν)(dm dw dd ds:Ñ):Prop where
 mm:bW K ys.DR "moves" fm
 bm:Binds K dm ["self"] []
 Gm:DQ P w K mg ν aB 7 fm dm ["self"] (p6 K c TC J ys)
 mw:bW K ys.DR "twin" fw
 bw:Binds K dw ["self"] []
 Gw:DQ P w K mg ν aB 7 fw dw ["self"] (B7 K c TC J ys)
 md:bW K ys.DR "do" fd
 bd:Binds K dd ["self","move"] []
 Gd:DQ P w K mg ν aB 8 fd dd ["self","move"] (YJ K c TC J ys)
 ms:mg "still"=Β (.ref fs)
 ks:ϳ K (.ref fs)=Δ
 bs:Binds K ds ["yard"] []
 Gs:DQ P w K mg ν aB 8 fs ds ["yard"] (pz K c TC J ys)
structure Ye(K:ϣ)(c:Cs)(TC:Ν)(J:TJ)(ys:Ys)(H:Hp)(a:YA)(s:YS):Prop where
 I:Ic K c TC J (yx ys []) H a s
 J:EG a s
 R:l5 a.ps.length s.rooms=Δ
 n:s.done.length<=20
theorem Ye.same{J:TJ}(W:Wy K TC fw dw J)(h:Ye K c TC J ys H a s)(e:DP H H'):Ye K c TC J ys H' a s:=⟨h.I.same W e,h.J,h.R,h.n⟩
theorem Ye.one{J:TJ}(h:Ye K c TC J ys H a s):EN K c TC J ys a [] 1 H (λ_=>a) (λ_=>s):=EN.one h.I h.J h.R (by have:=h.n;omega) (λz _ h=>by cases h)
structure Tw(K:ϣ)(c:Cs)(TC:Ν)(J:TJ)(ys:Ys)(H H':Hp)(a b:YA)(s:YS)(B:Nat->YA)(S:Nat->YS)(q:List Mv):Prop where
 e:DP H H'
 D:EN K c TC J ys a [] 2 H' B S
 bb:B 1=b
 f:∀z∈b.four,H z=Γ
 g:Go a (core s) q (core (S 1))
 n:(S 1).done.length<=20+q.length
section
variable {P:Program}{w:Ϭ}{K:ϣ}{c:Cs}{TC fw:Ν}{dw:Ñ}{J:TJ}{ys:Ys}{H H1 H2:Hp}{a b:YA}{s:YS}{B:Nat->YA}{S:Nat->YS}{q:List Mv}
theorem Tw.same(W:Wy K TC fw dw J)(h:Tw K c TC J ys H H1 a b s B S q)(e:DP H1 H2):Tw K c TC J ys H H2 a b s B S q:=⟨h.e.trans e,h.D.same W e,h.bb,h.f,h.g,h.n⟩
theorem tw0(d:s.done.length<=20)(e:DP H H1)(f:∀z∈b.four,H z=Γ)(D:EN K c TC J ys a [] 2 H1 (Eo (λ_=>a) 1 b) (Eo (λ_=>s) 1 s)):Tw K c TC J ys H H1 a b s (Eo (λ_=>a) 1 b) (Eo (λ_=>s) 1 s) []:=
 ⟨e,D,aZ ..,f,by rw[aZ];exact .nil,by rw[aZ];exact d⟩
theorem Tw.step(h:Tw K c TC J ys H H1 a b s B S q)(d:m∈aF a (S 1))(i:ES a (S 1) m s')(o:Ee (B 1).four H1 H2)(D:EN K c TC J ys a [] 2 H2 B (mB S 1 {s' with done:=(S 1).done++[dA m]})):Tw K c TC J ys H H2 a b s B (mB S 1 {s' with done:=(S 1).done++[dA m]}) (q++[m]):=by
 refine⟨iF h.e o (by rw[h.bb];exact h.f),D,h.bb,h.f,?_,?_⟩
 ·rw[dE]
  exact .snoc h.g d i.core
 ·rw[dE]
  have:=h.n
  show((S 1).done++[dA m]).length<=_
  rw[Υ,Υ,ϙ,ϙ];omega
theorem Tw.ς(h:Tw K c TC J ys H H1 a b s B S q):H1 b.y=Β (.ς ys.DR b.dy (rq b.tb b.ro b.la b.le b.li b.dn)):=by
 have:=(h.D.Y 1 (by decide)).ς
 rw[h.bb]at this
 exact this
end
inductive Bw(K:ϣ)(c:Cs)(TC:Ν)(J:TJ)(ys:Ys)(vs:List V)(H:Hp)(Q:VK)(E:XK):Prop
 |mk (a:YA) (s:YS) (D:Ν) (En:List V) (p:List Mv) (x:YS) (_:vs=[.ref a.y,.ref D]) (_:Ye K c TC J ys H a s) (_:H D=Β (.ρ En)) (_:Paired (EY H) En (p.map dA)) (_:p.length<=90) (_:Go a (core s) p x) (_:aS a x=Δ) (_:∀H',DP H H'->Q (.bl Δ) H')
inductive Bt(K:ϣ)(c:Cs)(TC:Ν)(J:TJ)(ys:Ys)(vs:List V)(H:Hp)(Q:VK)(E:XK):Prop
 |mk (a:YA) (s:YS) (D:Ν) (ns:List Int) (most:Nat) (_:vs=[.ref a.y,.ref D,.int (most:Int)]) (_:Ye K c TC J ys H a s) (_:H D=Β (.ρ (ns.map V.int))) (_:ns.length<=63) (_:(∀q x,Go a (core s) q x->aS a x=Δ->most<=q.length)) (_:∀H',DP H H'->Q (.bl Δ) H')
theorem Oi:ar ["_law_yard_here","_law_moves","_law_other","_law_move"] ["_law_yard_here","_law_moves"] (aj Ci):=L2.Ez
theorem CK(F:Et K "_law_led" "_law_led" Ci f f')(Y:jo K ys)(W:Wy K TC fv dv J)(M:LdM P w K mg ν c TC J ys fm fw fd fs dm dw dd ds):
  DQ P w K mg ν aB 9 f f' ["_law_yard_here","_law_moves"] (Bw K c TC J ys):=by
 refine F.ok Oi λcdv Ar A s0 H vs Q E o h=>?_
 obtain⟨a,s,D,N,p,x,rfl,C,O,R,Hl,T,hx,q⟩:=h
 have hu:=o.units
 have U:DZ 7 _:=o.mono (by decide)
 refine⟨_,(ae (av (i:=2) Oi.nd Λ (ύ Λ) (aQ (pv 0) Y.cl M.mw M.Gw U M.bw .nil ao))
  (ae (bz Ϟ Λ (aV (pv 1)) (ax (i:=3) Oi.nd Λ (ύ Λ))
   (ae (aO (az (mV hu) (pv 3) (aQ (pv 2) Y.cl M.mm M.Gm U M.bm .nil ao) (by with_unfolding_all rfl))
   (ah (au jH))
   aE)
  (ah (aM (aI (pv 2) Y.cl M.md M.Gd o M.bd .nil ao (aa (pv 3) ad))))))
  (ah (au (aq M.Gs o Λ M.ms M.ks M.bs .nil ao (aa (pv 2) ad)))))),?_⟩
 refine⟨a.y,a.dy,_,Λ,C.I.Y.ς,Λ,⟨a,[],1,λ_=>a,λ_=>s,0⟩,Λ,⟨Ĕ,C.one⟩,λb H1 X fr Z=>?_⟩
 dsimp only at Z
 have L7:N.length=p.length:=by rw[Paired.length R,Ο]
 refine⟨D,Λ,⟨_,DS.of (X _ _ O)⟩,?_⟩
 refine bV (K:=K) (a:=D) (xs:=N) (λi r G=>∃(B:Nat->YA)(S:Nat->YS)(L:Option V),Tw K c TC J ys H G a b s B S (p.take i)/\r=[Β (.ref a.y),Β (.ref D),Β (.ref b.y),L])
  ⟨_,_,Γ,tw0 C.n X fr Z,Λ⟩ (λi r G _ DT=>by obtain⟨_,_,_,h,_⟩:=DT;exact DS.of (h.e _ _ O)) ?_ ?_
 rotate_left
 ·rintro r G ⟨B,S,L,h,rfl⟩
  refine⟨⟨a,[],2,B,S,1⟩,congrArg (λz:YA=>[V.ref z.y]) h.bb.symm,⟨by show 1<2;decide,h.D⟩,λH2 s2=>?_⟩
  have hg:=h.g
  rw[L7,Þ]at hg
  have e:=T.det hg Λ
  rw[←ie,e,hx]
  exact q _ (h.e.trans s2)
 rintro i v r H2 hv ⟨B,S,L,h,rfl⟩
 obtain⟨mvv,d,mt,rfl,j⟩:=Paired.at R hv
 rw[ϝ]at d
 cases t:p[i]? with
 |none=>rw[t]at d;cases d
 |some m =>
 rw[t]at d
 cases d
 obtain⟨y,z,g1,u,g3⟩:=T.at t
 have ey:=g1.det h.g Λ
 rw[←ey,iu]at u
 refine⟨b.y,_,_,Λ,h.ς,Λ,⟨a,[],2,B,S,1⟩,congrArg (λz:YA=>[V.ref z.y]) h.bb.symm,⟨by show 1<2;decide,h.D⟩,λDm K0 H3 s3 OZ JS pM=>?_⟩
 dsimp only at pM
 have l:=h.same W s3
 refine⟨Dm,K0,tU m,_,Λ,sK m (l.e _ _ j),DS.of JS,dP pM,(ig m).le (by decide),(λz hz=>by obtain⟨m',_,rfl⟩:=Õ.mp hz;exact(ig m').le (by decide)),_,Λ,?_⟩
 rw[yN u]
 refine aG ⟨b.y,_,_,Λ,l.ς,Λ,⟨a,[],2,B,S,1⟩,mt,m,congrArg (λz:YA=>[V.ref z.y,V.ref mt]) h.bb.symm,⟨by show 1<2;decide,l.D⟩,l.e _ _ j,u,?_,?_⟩
 ·show(S 1).done.length<1000
  have:=h.n
  have:=List.length_take_le' i p
  omega
 intro H4 s4 Ij o4 J8
 dsimp only at Ij o4 J8
 have h4:=l.step u Ij o4 J8
 rw[show p.take i++[m]=p.take (i+1) by rw[ß,t];rfl]at h4
 exact⟨B,_,_,h4,Λ⟩
theorem JF:ar ["_law_yard_here","_law_cells","_law_most","_law_other","_law_made","_law_cell","_law_moves"] ["_law_yard_here","_law_cells","_law_most"] (aj rP):=L2.Ez
theorem CC(F:Et K "_law_never" "_law_never" rP f f')(T:eK mg)(Y:jo K ys)(W:Wy K TC fv dv J)(M:LdM P w K mg ν c TC J ys fm fw fd fs dm dw dd ds):
  DQ P w K mg ν aB 9 f f' ["_law_yard_here","_law_cells","_law_most"] (Bt K c TC J ys):=by
 refine F.ok JF λcdv Ar L s0 H vs Q E p h=>?_
 obtain⟨a,s,D,ns,most,rfl,N,gD,hnl,J0,q⟩:=h
 have hu:=p.units
 have II:DZ 7 _:=p.mono (by decide)
 refine⟨_,(ae (av (i:=3) JF.nd Λ (ύ Λ) (aQ (pv 0) Y.cl M.mw M.Gw II M.bw .nil ao))
  (ae (av (i:=4) JF.nd Λ (ύ Λ) ai)
  (ae (bz Ϟ Λ (aV (pv 1)) (ax (i:=5) JF.nd Λ (ύ Λ))
   (ae (av (i:=6) JF.nd Λ (ύ Λ) (aQ (pv 3) Y.cl M.mm M.Gm II M.bm .nil ao))
  (ae (aO (bH (aq M.Gs p Λ M.ms M.ks M.bs .nil ao (aa (pv 3) ad)))
   (ah (au (bY tP (pv 4) (pv 2) (aA _))))
   aE)
  (ah (aO (fG (PW.pt (lh (az (iq hu) (pv 6) (aW ad) (aA _)) (iL (az jI (pv 4) (pv 2) (aA _))))))
   (ae (aM (aI (pv 3) Y.cl M.md M.Gd p M.bd .nil ao (aa (aD aR (pv 6) (aC bF (pv 5) (ay aw Λ T.len PySem.boot_len (aa (pv 6) ad))) (λ_ _=>rfl)) ad)))
  (ah (av (i:=4) JF.nd Λ (ύ Λ) (aC bU (pv 4) ai))))
   aE)))))
  (ah (au (xr (bY tP (pv 4) (pv 2) (aA _)) (cF (oR (aq M.Gs p Λ M.ms M.ks M.bs .nil ao (aa (pv 3) ad)))))))))),?_⟩
 refine⟨a.y,a.dy,_,Λ,N.I.Y.ς,Λ,⟨a,[],1,λ_=>a,λ_=>s,0⟩,Λ,⟨Ĕ,N.one⟩,λb H1 s1 fr T9=>?_⟩
 dsimp only at T9
 refine⟨D,Λ,⟨_,DS.of (s1 _ _ gD)⟩,?_⟩
 refine bV (K:=K) (a:=D) (xs:=ns.map V.int) (λi u r=>∃(B:Nat->YA)(S:Nat->YS)(k:List Mv)(O R:Option V),Tw K c TC J ys H r a b s B S k/\k.length<=i/\u=[Β (.ref a.y),Β (.ref D),Β (.int (most:Int)),Β (.ref b.y),Β (.int (k.length:Nat)),O,R])
  ⟨_,_,[],Γ,Γ,tw0 N.n s1 fr T9,Ξ _,Λ⟩ (λi u r _ DT=>by obtain⟨_,_,_,_,_,h,_⟩:=DT;exact DS.of (h.e _ _ gD)) ?_ ?_
 rotate_left
 ·rintro u r ⟨B,S,k,O,R,h,hk,rfl⟩
  refine⟨_,_,Λ,Λ,_,Λ,?_⟩
  by_cases hc:most<=k.length
  ·rw[Ζ (show (most:Int)<=(k.length:Int) by omega)]
   exact aK (q _ h.e)
  rw[Η (show ¬(most:Int)<=(k.length:Int) by omega)]
  refine aG ⟨⟨a,[],2,B,S,1⟩,congrArg (λz:YA=>[V.ref z.y]) h.bb.symm,⟨by show 1<2;decide,h.D⟩,λH2 s2=>⟨_,Λ,?_⟩⟩
  cases U:aS a (S 1) with
  |false=>exact q _ (h.e.trans s2)
  |true=>exact Κ (J0 k _ h.g (by rw[ie];exact U)) hc
 rintro i v u H2 X ⟨B,S,k,O,R,h,hk,rfl⟩
 have hi:i<ns.length:=by have:=(gQ0 X);rw[Ο]at this;exact this
 obtain⟨d,rfl⟩:∃d,v=V.int d:=by
  rw[ϝ,Μ hi]at X
  exact⟨_,(Ψ X).symm⟩
 refine⟨b.y,_,_,Λ,h.ς,Λ,⟨a,[],2,B,S,1⟩,congrArg (λz:YA=>[V.ref z.y]) h.bb.symm,⟨by show 1<2;decide,h.D⟩,λZ j H3 s3 OZ JS x=>?_⟩
 dsimp only at x
 have h3:=h.same W s3
 refine⟨⟨a,[],2,B,S,1⟩,congrArg (λz:YA=>[V.ref z.y]) h.bb.symm,⟨by show 1<2;decide,h3.D⟩,λA C=>⟨_,Λ,?_⟩⟩
 dsimp only
 have h4:=h3.same W C
 cases U:aS a (S 1) with
 | true =>
  have hc:=J0 k _ h.g (by rw[ie];exact U)
  refine aK ⟨_,_,Λ,Λ,?_⟩
  rw[Ζ (show (most:Int)<=(k.length:Int) by omega)]
  exact q _ h4.e
 |false =>
 refine aG ⟨λb0 r=>DP A r/\(b0=Δ->aF a (S 1)≠[]),?_,?_⟩
 ·refine⟨Ϧ _,λo ho=>?_⟩
  have t:=(DP.refl A).new (o:=.ρ []) ho
  have g4:(π A o (.ρ [])) o=Β (.ρ []):=ac
  generalize π A o (.ρ [])=H5 at t g4⊢
  have gD5:=t _ _ (C _ _ JS)
  refine neN (f:=tU) (l:=aF a (S 1)) (.ρ (DS.of gD5) (dP (Paired.mono (λ_ _ z=>z.keep (DP.Ed (C.trans t))) x))) (.ρ (DS.of g4) .nil) (jX _) ⟨_,Λ,?_⟩
  cases T6:(aF a (S 1)).isEmpty with
  |true=>exact aG ⟨t,λz=>by cases z⟩
  |false=>exact aK ⟨_,_,Λ,Λ,_,Λ,t,λ_ z=>by rw[z]at T6;cases T6⟩
 rintro b0 H5 ⟨s5,OD⟩
 have G:=h4.same W s5
 cases b0 with
 |false=>exact aG ⟨B,S,k,_,_,G,by omega,Λ⟩
 |true =>
 have IC:=ĕ.mpr (OD Λ)
 have Jz:j.length=(aF a (S 1)).length:=by rw[Paired.length x,Ο]
 have m:=C.trans s5
 have e1:=æ d (show((j.length:Nat):Int)≠0 by omega)
 have e2:=á d (show (0:Int)<((j.length:Nat):Int) by omega)
 obtain⟨z,hz,T8⟩:∃z:Nat,d% ((j.length:Nat):Int)=(z:Int)/\z<(aF a (S 1)).length:=⟨(d% ((j.length:Nat):Int)).toNat,by omega,by omega⟩
 obtain⟨v1,R4,mt,Og,gmt⟩:=Paired.at2 x (show((aF a (S 1)).map dA)[z]?=Β (dA (aF a (S 1))[z]) by rw[ϝ,Μ T8];rfl)
 subst Og
 refine aK ⟨b.y,_,_,Λ,G.ς,Λ,Z,j,Λ,.inl (DS.of (m _ _ JS)),_,_,Λ,Λ,(by show (0:Int)<((j.length:Nat):Int);omega),?_⟩
 dsimp only
 rw[hz]
 have TF:=ė T8
 refine⟨Z,j,(z:Int),_,Λ,Λ,DS.of (m _ _ JS),al R4,⟨a,[],2,B,S,1⟩,mt,(aF a (S 1))[z],congrArg (λz:YA=>[V.ref z.y,V.ref mt]) h.bb.symm,⟨by show 1<2;decide,G.D⟩,m _ _ gmt,TF,?_,?_⟩
 ·show(S 1).done.length<1000
  have:=h.n
  omega
 intro H6 s6 Ij o6 S3
 dsimp only at Ij o6 S3
 refine⟨_,_,Λ,Λ,B,_,k++[(aF a (S 1))[z]],Β (V.int d),Β (V.ref Z),G.step TF Ij o6 S3,by rw[Υ,ϙ];omega,?_⟩
 rw[Υ,ϙ]
 rfl
inductive B8(K:ϣ)(c:Cs)(TC:Ν)(J:TJ)(ys:Ys)(vs:List V)(H:Hp)(Q:VK)(_:XK):Prop
 |mk (g:Yg)(_:vs=[.ref (g.A g.j).y])(_:sS K c TC J ys H g)(_:∀(t:Ν)(vs:List V)(H':Hp),DP H H'->H t=Γ->H' t=Β (.ρ vs)->Paired (EY H') vs (g.S g.j).done->Q (.ref t) H')
theorem Dy(G:∀ex,DQ P w K mg ν aB n f fd ps (wF K (yx ys ex))):DQ P w K mg ν aB n f fd ps (B8 K c TC J ys):=
 (DQ.ex G).imp λh H Q E a=>by obtain⟨g,e,⟨b,d⟩,q⟩:=a;exact⟨_,(g.A g.j).y,_,_,_,_,_,_,_,g.S g.j,e,d.Y _ b,q⟩
noncomputable def rsD:Rs->ý
 |.more =>.tuple [.str "more"]
 |.ends =>.tuple [.str "ends"]
 |.Em p =>.tuple [.str "still",.list (p.map tU)]
theorem fY(r:Rs):GF (rsD r) 64:=by
 cases r with
 |more=>exact(eU (m:=0) λy a=>by rw[Φ.mp a];exact eC (by decide +kernel)).le (by decide)
 |ends=>exact(eU (m:=0) λy a=>by rw[Φ.mp a];exact eC (by decide +kernel)).le (by decide)
 | Em p =>
  refine(eU (m:=2) λy a=>?_).le (by decide)
  simp only[Ϯ,É,or_false]at a
  rcases a with rfl|rfl
  ·exact(eC (by decide +kernel)).le (by decide)
  ·exact iC (m:=1) λz b=>by
    obtain⟨m,_,rfl⟩:=Õ.mp b
    exact ig m
theorem lU(h:MK H0 H v r):m8 K H v (rsD r):=by
 cases r with
 |more=>obtain⟨t,rfl,_,g⟩:=h;exact .tup (DY.of g) (.cons (.str _) .nil)
 |ends=>obtain⟨t,rfl,_,g⟩:=h;exact .tup (DY.of g) (.cons (.str _) .nil)
 |Em p=>obtain⟨t,D,c,rfl,_,g,_,a,b⟩:=h;exact .tup (DY.of g) (.cons (.str _) (.cons (.ρ (DS.of a) (dP b)) .nil))
theorem MK.same(h:MK H0 H v r)(s:DP H H'):MK H0 H' v r:=by
 cases r with
 |more=>obtain⟨t,e,n,g⟩:=h;exact⟨t,e,n,s _ _ g⟩
 |ends=>obtain⟨t,e,n,g⟩:=h;exact⟨t,e,n,s _ _ g⟩
 |Em p=>obtain⟨t,D,a,e,n,g,b,c,d⟩:=h;exact⟨t,D,a,e,n,s _ _ g,b,s _ _ c,Paired.mono (λv x z=>z.keep (DP.Ed s)) d⟩
theorem MK.tup(h:MK H0 H v r):∃t a,v=.ref t/\H t=Β (.tup a):=by
 cases r with
 |more=>obtain⟨t,e,n,g⟩:=h;exact⟨t,_,e,g⟩
 |ends=>obtain⟨t,e,n,g⟩:=h;exact⟨t,_,e,g⟩
 |Em p=>obtain⟨t,D,b,e,n,g,_⟩:=h;exact⟨t,_,e,g⟩
theorem Tr.pl(h:Tr a s n c):∀(i:Nat)(e:Ent),c.L[i]?=Β e->e.p.length<=i:=by
 induction h with
 | nil =>
  intro i e h
  have o:=(gQ0 h)
  obtain rfl:i=0:=by
   have:i<1:=o
   omega
  cases h
  exact Ξ _
 | snoc t n d =>
  cases n with
  |skip=>exact d
  |next=>exact d
  | @new L i j s' p h1 h2 =>
   obtain⟨f,m,g,_,_,_,rfl⟩:=h1
   intro z x b
   have l:=(gQ0 g)
   by_cases q:z<L.length
   ·have b:=b
    rw[Ϙ q]at b
    exact d z x b
   ·have b:=b
    have:=(gQ0 b)
    rw[Υ,ϙ]at this
    obtain rfl:z=L.length:=by omega
    rw[È]at b
    cases b
    have:=d i f g
    have l:i<L.length:=l
    rw[Υ,ϙ]
    omega
theorem Sr.E4(h:Sr a s most (.Em p)):p.length<=most:=by
 cases h with
 |now=>exact Ϧ _
 | Em f c d g i =>
  obtain⟨e,m,b,_,_,_,rfl⟩:=d
  have:=c.pl _ e b
  have j:=(gQ0 b)
  rw[Υ,ϙ]
  omega
theorem TH(h:z∈wl (dS rs) k):∃r∈rs,z∈r.s:=by
 have h:=(Yd.HF (Yd.IW (dS rs k))).mp h
 unfold dS at h
 cases e:dJ rs k with
 |none=>rw[e]at h;dsimp only at h;rw[Ŭ]at h;cases h
 | some r =>
  rw[e]at h
  dsimp only at h
  rw[Yd.FF,Ŭ,Hm]at h
  exact⟨r,iZ e,of_decide_eq_true h⟩
theorem vU(d:EL c ts.told (Ef P w ts) H x lx Eh lt n DX ps wy)(o:DI P w ts H x rs)(j:∀r∈rs,∀k∈r.s,k<ps.length):Fi c ts.told (pG P w ts) H x lx Eh lt n DX ps (dS rs):=by
 obtain⟨f,p,q,g,t,u,v⟩:=o
 have a:=d.E4
 have m:∀k,∀z∈wl (dS rs) k,z<ps.length:=λk z b=>let ⟨r,hr,b⟩:=TH b;j r hr z b
 refine⟨⟨f,p,q,g,t,u,λk=>⟨?_,?_⟩⟩,?_,d.l,d.JL,a,m,λk=>?_⟩
 ·rw[v]
  unfold dS
  cases dJ rs k with
  |none=>rfl
  |some r=>rfl
 ·unfold dS
  cases e:dJ rs k with
  |none=>show 0<2^400;decide
  |some r=>exact wK λz b=>by have:=j r (iZ e) z b;omega
 ·obtain⟨f,fs,y,A,_⟩:=d.i
  exact⟨f,fs,y,A⟩
 ·exact Î (iT _ _ ((Yd.Jn _ _).imp λh=>Ê h) (m k)) a
inductive t8(K:ϣ)(vs:List V)(H:Hp)(Q:VK)(E:XK):Prop
 |mk (a:Ν) (ns:List Int) (_:vs=[.ref a]) (_:DS K H a (ns.map V.int)) (_:ns.length<=63) (_:∀H',Q (.bl Δ) H')
abbrev NLw:List Str:=["_law_script","_law_places","_law_lanes_here","_law_table_here","_law_yard_here","_law_past","_law_moves","_law_most","_law_found","_law_cells"]
structure Fns(P:Program)(w:Ϭ)(K:ϣ)(mg:Str->Option Ρ)(ν:Ù)(c:Cs)(ts:Ts)(ys:Ys)(fc fl ft fy fs fh fm fi fo fe fn:Ν)(dc dl dt dy ds dh dm di KS de dn:Ñ):Prop where
 mc:mg "_law_cell_at"=Β (.ref fc)
 kc:ϳ K (.ref fc)=Δ
 bc:Binds K dc ["_law_script","_law_k"] []
 Gc:DQ P w K mg ν aB 1 fc dc ["_law_script","_law_k"] (oA K)
 ml:mg "_law_lanes"=Β (.ref fl)
 kl:ϳ K (.ref fl)=Δ
 bl:Binds K dl ["_law_script","_law_places"] []
 Gl:DQ P w K mg ν aB 3 fl dl ["_law_script","_law_places"] (tD K)
 mt:mg "_law_table"=Β (.ref ft)
 kt:ϳ K (.ref ft)=Δ
 bt:Binds K dt ["_law_lanes_here","_law_places","_law_cell"] []
 Gt:DQ P w K mg ν aB 7 ft dt ["_law_lanes_here","_law_places","_law_cell"] (wC P w c ts)
 my:mg "_law_yard"=Β (.ref fy)
 ky:ϳ K (.ref fy)=Δ
 b_y:Binds K dy ["_law_script","_law_table_here","_law_lanes_here","_law_places"] []
 Gy:DQ P w K mg ν aB 9 fy dy ["_law_script","_law_table_here","_law_lanes_here","_law_places"] (tE K c ts.told (Ef P w ts) ys)
 ms:mg "search"=Β (.ref fs)
 ks:ϳ K (.ref fs)=Δ
 bs:Binds K ds ["yard","most"] []
 Gs:DQ P w K mg ν aB 9 fs ds ["yard","most"] (kQ K c ts.told (Ef P w ts) ys)
 mh:bW K ys.DR "history" fh
 bh:Binds K dh ["self"] []
 Gh:DQ P w K mg ν aB 1 fh dh ["self"] (B8 K c ts.told (Ef P w ts) ys)
 mm:bW K ys.DR "moves" fm
 bm:Binds K dm ["self"] []
 Gm:DQ P w K mg ν aB 7 fm dm ["self"] (p6 K c ts.told (Ef P w ts) ys)
 mi:mg "still"=Β (.ref fi)
 ki:ϳ K (.ref fi)=Δ
 bi:Binds K di ["yard"] []
 Gi:DQ P w K mg ν aB 8 fi di ["yard"] (pz K c ts.told (Ef P w ts) ys)
 mo:mg "look"=Β (.ref fo)
 ko:ϳ K (.ref fo)=Δ
 bo:Binds K KS ["table"] []
 Go:DQ P w K mg ν aB 8 fo KS ["table"] (w8 c ts.told (pG P w ts))
 me:mg "_law_led"=Β (.ref fe)
 ke:ϳ K (.ref fe)=Δ
 be:Binds K de ["_law_yard_here","_law_moves"] []
 Ge:DQ P w K mg ν aB 9 fe de ["_law_yard_here","_law_moves"] (Bw K c ts.told (Ef P w ts) ys)
 mn:mg "_law_never"=Β (.ref fn)
 kn:ϳ K (.ref fn)=Δ
 bn:Binds K dn ["_law_yard_here","_law_cells","_law_most"] []
 Gn:DQ P w K mg ν aB 9 fn dn ["_law_yard_here","_law_cells","_law_most"] (Bt K c ts.told (Ef P w ts) ys)
theorem tj(h:(x == y)=Ε):¬V.str x=V.str y:=λz=>by injection z with z;rw[z]at h;simp at h
theorem GS:ar NLw ["_law_script"] (aj oH):=L2.Ez
theorem CM(F:Et K "law" "law" oH f fd)(T:eK mg)(Y:jo K ys)(W:Wy K ts.told fw dw (Ef P w ts))(D:Fns P w K mg ν c ts ys fc fl ft fy fs fh fm fi fo fe fn dc dl dt dy ds dh dm di KS de dn):
  DQ P w K mg ν aB 10 f fd ["_law_script"] (t8 K):=by
 refine F.ok GS λcdv Ar outer s0 H vs Q E hr h=>?_
 obtain⟨sc,ns,rfl,hS,_,q⟩:=h
 have L:=hr.units
 have EF:DZ 1 _:=hr.mono (by decide)
 have hr3:DZ 3 _:=hr.mono (by decide)
 have II:DZ 7 _:=hr.mono (by decide)
 have hr8:DZ 8 _:=hr.mono (by decide)
 have MO:DZ 9 _:=hr.mono (by decide)
 refine⟨_,(ae (av (i:=1) GS.nd Λ (ύ Λ) (aC bU ai (aC bF (aq D.Gc EF Λ D.mc D.kc D.bc .nil ao (aa (pv 0) (aa ai ad))) ai)))
  (ae (av (i:=2) GS.nd Λ (ύ Λ) (aq D.Gl hr3 Λ D.ml D.kl D.bl .nil ao (aa (pv 0) (aa (pv 1) ad))))
  (ae (av (i:=3) GS.nd Λ (ύ Λ) (aq D.Gt II Λ D.mt D.kt D.bt .nil ao (aa (pv 2) (aa (pv 1) (aa (aq D.Gc EF Λ D.mc D.kc D.bc .nil ao (aa (pv 0) (aa ai ad))) ad)))))
  (ae (av (i:=4) GS.nd Λ (ύ Λ) (aq D.Gy MO Λ D.my D.ky D.b_y .nil ao (aa (pv 0) (aa (pv 3) (aa (pv 2) (aa (pv 1) ad))))))
  (ae (av (i:=5) GS.nd Λ (ύ Λ) (aQ (pv 4) Y.cl D.mh D.Gh EF D.bh .nil ao))
  (ae (av (i:=6) GS.nd Λ (ύ Λ) (aQ (pv 4) Y.cl D.mm D.Gm II D.bm .nil ao))
  (ae (av (i:=7) GS.nd Λ (ύ Λ) (aC bU ai (aC bF (aq D.Gc EF Λ D.mc D.kc D.bc .nil ao (aa (pv 0) (aa ai ad))) ai)))
  (ae (av (i:=8) GS.nd Λ (ύ Λ) (aq D.Gs MO Λ D.ms D.ks D.bs .nil ao (aa (pv 4) (aa (pv 7) ad))))
  (ae (aO (fG (PW.pt (gc (cE (bH (ay jf Λ T.Mj Ì (aa (pv 8) (aa (eJ (v:=.ty "tuple") Λ T.tuple PySem.Pv.boot_tuple Λ) ad))))) (gc (az (iq L) (aQ (pv 4) Y.cl D.mh D.Gh EF D.bh .nil ao) (pv 5) (aA _)) (gc (az (iq L) (aQ (pv 4) Y.cl D.mm D.Gm II D.bm .nil ao) (pv 6) (aA _)) (ga (az (iq L) (aq D.Gs MO Λ D.ms D.ks D.bs .nil ao (aa (pv 4) (aa (pv 7) ad))) (pv 8) (aA _))))))))
   (ah (au jH))
   aE)
  (ae (av (i:=9) GS.nd Λ (ύ Λ) (dF eB (pv 0) (cY ai) (cY ai)))
  (ae (aO (bH (aq D.Gi hr8 Λ D.mi D.ki D.bi .nil ao (aa (pv 4) ad)))
   (ah (au (bY (jw L) (pv 8) (bq (aa bR (aa (aW ad) ad))) (aA _))))
   aE)
  (ae (aO (az bT (aD aH (pv 8) ai (λ_ _=>rfl)) bR (aA _))
   (ae (aO (fG (PW.pt (gc (az mW (ay aw Λ T.len PySem.boot_len (aa (pv 8) ad)) ai (aA _)) (gc (cE (bH (ay jf Λ T.Mj Ì (aa (aD aH (pv 8) ai (λ_ _=>rfl)) (aa (eJ (v:=.ty "list") Λ T.list PySem.Pv.boot_list Λ) ad))))) (ga (az bT (aD aH (aq D.Go hr8 Λ D.mo D.ko D.bo .nil ao (aa (pv 3) ad)) ai (λ_ _=>rfl)) bR (aA _)))))))
   (ah (au jH))
   aE)
  (ah (au (cP (bY (iq L) (aD aH (pv 8) ai (λ_ _=>rfl)) (aW ad) (aA _)) (cP (aq D.Ge MO Λ D.me D.ke D.be .nil ao (aa (pv 4) (aa (aD aH (pv 8) ai (λ_ _=>rfl)) ad))) (cF (aq D.Gn MO Λ D.mn D.kn D.bn .nil ao (aa (pv 4) (aa (pv 9) (aa (ay aw Λ T.len PySem.boot_len (aa (aD aH (pv 8) ai (λ_ _=>rfl)) ad)) ad))))))))))
   aE)
  (ae (aO (az (jw L) (pv 8) (bq (aa bR ad)) (aA _))
   (ah (au (cP (aq D.Gn MO Λ D.mn D.kn D.bn .nil ao (aa (pv 4) (aa (pv 9) (aa (aC oT ai ai) ad)))) (cF (bY (jw L) (aq D.Gs MO Λ D.ms D.ks D.bs .nil ao (aa (pv 4) (aa (aC bU (aC bU (pv 7) ai) (aC bF (aC cI (aq D.Gc EF Λ D.mc D.kc D.bc .nil ao (aa (pv 0) (aa ai ad))) ai) ai)) ad))) (pv 8) (aA _))))))
   aE)
  (ah (au (cP (bY (jw L) (pv 8) (bq (aa bR ad)) (aA _)) (cF (xr (bY bT (pv 7) ai (aA _)) (cF (bY (jw L) (aq D.Gs MO Λ D.ms D.ks D.bs .nil ao (aa (pv 4) (aa (aC dX (pv 7) ai) ad))) (pv 8) (aA _))))))))))))))))))))),?_⟩
 refine⟨sc,ns,0,Λ,hS,λM=>⟨_,_,Λ,Λ,(by show (0:Int)<2;decide),_,_,Λ,Λ,?_⟩⟩
 obtain⟨n,hn,Ka,hn3⟩:∃n:Nat,(2:Int)+M% 2=(n:Int)/\2<=n/\n<=3:=⟨(2+M% 2).toNat,by omega,by omega,by omega⟩
 rw[hn]
 refine⟨sc,ns,n,Λ,hS,Ka,by omega,λl Eb ps H1 s1 nl gl HP DW Lo hp4=>?_⟩
 have FZ:=Paired.length HP
 refine⟨sc,ns,2,Λ,s1.seq hS,λd1=>⟨l,Eb,ps,n,d1,Λ,gl,HP,DW,by omega,Ka,by omega,λtb xl FU lt DX wy H2 s2 Xw hT FE Xm=>?_⟩⟩
 obtain⟨rs,hTR,hwy,HA⟩:=Xm
 have s02:=s1.trans s2
 refine⟨sc,tb,l,xl,FU,lt,ns,Eb,DX,ps,n,wy,Λ,s02.seq hS,s2 _ _ gl,FZ,hT,FE,DW,hp4,Ka,hn3,λa s H3 s3 ea en etb ewy hI hJ hR Fw hX hSc=>?_⟩
 have s03:=s02.trans s3
 have hY:Ye K c ts.told (Ef P w ts) ys H3 a s:=⟨hI,hJ,hR,Fw⟩
 refine⟨a.y,a.dy,_,Λ,hI.Y.ς,Λ,⟨a,[],1,λ_=>a,λ_=>s,0⟩,Λ,⟨Ĕ,hY.one⟩,λth GN H4 s4 _ gth pth=>?_⟩
 have OJ:=hY.same W s4
 refine⟨a.y,a.dy,_,Λ,OJ.I.Y.ς,Λ,⟨a,[],1,λ_=>a,λ_=>s,0⟩,Λ,⟨Ĕ,OJ.one⟩,λDm En H5 s5 _ JS pM=>?_⟩
 have KP:=OJ.same W s5
 have s05:=s03.trans (s4.trans s5)
 refine⟨sc,ns,7,Λ,s05.seq hS,λd7=>⟨_,_,Λ,Λ,(by show (0:Int)<24;decide),_,_,Λ,Λ,?_⟩⟩
 obtain⟨most,YU,OM,hm24⟩:∃m:Nat,(1:Int)+d7% 24=(m:Int)/\1<=m/\m<=24:=⟨(1+d7% 24).toNat,by omega,by omega,by omega⟩
 show cO 7 (V.int (1+d7% 24)) _ _ _
 rw[YU]
 have Vw:∀{H:Hp}{k:Nat}{E:XK}{N:VK},Ye K c ts.told (Ef P w ts) ys H a s->1<=k->k<=900->(∀(v:V)(H':Hp)(r:Rs),DP H H'->Sr a s k r->MK H H' v r->N v H')->kQ K c ts.told (Ef P w ts) ys [.ref a.y,.int (k:Int)] H N E:=λ{H k E N} y h1 h2 z=>⟨a,s,k,Λ,y.I,y.J,y.R,by have:=y.n;omega,h1,h2,z⟩
 refine(Vw KP OM (by omega) λv H6 r s6 MP Vx=>?_)
 have MJ:=KP.same W s6
 obtain⟨S,tfs,rfl,gtf⟩:=Vx.tup
 refine⟨λb H'=>b=Ε/\DP H6 H',?_,?_⟩
 ·refine(.inr (.inr (.inr ⟨S,_,Λ,DY.of gtf,_,Λ,aG ?_⟩)))
  refine⟨a.y,a.dy,_,Λ,MJ.I.Y.ς,Λ,⟨a,[],1,λ_=>a,λ_=>s,0⟩,Λ,⟨Ĕ,MJ.one⟩,λth2 hvs2 H7 G _ gth2 pth2=>(?_)⟩
  have Oh:=MJ.same W G
  have k47:=s5.trans (s6.trans G)
  refine WS (.ρ (DS.of gth2) (jB pth2 hSc)) (.ρ (DS.of (k47 _ _ gth)) (jB (Paired.mono (λ_ _ z=>z.keep (DP.Ed k47)) pth) hSc)) (wJ hSc) ⟨_,Λ,aG ?_⟩
  refine⟨a.y,a.dy,_,Λ,Oh.I.Y.ς,Λ,⟨a,[],1,λ_=>a,λ_=>s,0⟩,Λ,⟨Ĕ,Oh.one⟩,λDm2 mvs2 H8 s8 _ gDm2 pM2=>(?_)⟩
  have Vy:=Oh.same W s8
  have k58:=s6.trans (G.trans s8)
  refine WS (.ρ (DS.of gDm2) (dP pM2)) (.ρ (DS.of (k58 _ _ JS)) (dP (Paired.mono (λ_ _ z=>z.keep (DP.Ed k58)) pM))) (jX _) ⟨_,Λ,aG ?_⟩
  refine(Vw Vy OM (by omega) λv2 u r2 s9 K6 K7=>(?_))
  have er:=K6.det MP
  subst er
  have k69:=G.trans (s8.trans s9)
  exact WS (lU K7) (lU (Vx.same k69)) (fY _) ⟨_,Λ,Λ,k69⟩
 rintro b H7 ⟨rfl,G⟩
 refine aG ?_
 have Oh:=MJ.same W G
 have hRs7:=Vx.same G
 have gtf7:=G _ _ gtf
 have s07:=s05.trans (s6.trans G)
 clear Vx MJ KP OJ
 obtain⟨ms,hms,L7⟩:=qQ ns 8 48
 refine⟨(8:Int),Λ,(48:Int),Λ,sc,_,Λ,s07.seq hS,λcs T5=>?_⟩
 rw[show gB (ns.map V.int) (Β 8) (Β 48)=ms.map V.int from hms]
 have u8:=(DP.refl H7).new (o:=.ρ (ms.map V.int)) T5
 have KZ:(π H7 cs (.ρ (ms.map V.int))) cs=Β (.ρ (ms.map V.int)):=ac
 show cO 9 (V.ref cs) _ (π H7 cs (.ρ (ms.map V.int))) _
 generalize π H7 cs (.ρ (ms.map V.int))=H8 at u8 KZ⊢
 have Vy:=Oh.same W u8
 have hRs8:=hRs7.same u8
 have gtf8:=u8 _ _ gtf7
 refine⟨⟨a,[],1,λ_=>a,λ_=>s,0⟩,Λ,⟨Ĕ,Vy.one⟩,λu s9=>⟨_,Λ,?_⟩⟩
 dsimp only
 have LU:=hRs8.same s9
 have hY9:=Vy.same W s9
 have gtf9:=s9 _ _ gtf8
 have TK:=s9 _ _ KZ
 cases Ib:aS a s with
 | true =>
  have er:=MP.Of Ib
  subst er
  refine aK ⟨Ϧ _,λe U=>⟨by show 2<=Χ;decide,λX he1=>?_⟩⟩
  have u1:=(DP.refl u).new (o:=.ρ []) U
  have d:(π u e (.ρ [])) e=Β (.ρ []):=ac
  generalize π u e (.ρ [])=g at u1 d he1⊢
  have u2:=(DP.refl g).new (o:=.tup [.str "still",.ref e]) he1
  have g2:(π g X (.tup [.str "still",.ref e])) X=Β (.tup [.str "still",.ref e]):=ac
  generalize π g X (.tup [.str "still",.ref e])=Hb at u2 g2⊢
  exact Qg (lU (LU.same (u1.trans u2))) (.tup (DY.of g2) (.cons (.str _) (.cons (.ρ (DS.of (u2 _ _ d)) .nil) .nil))) (fY (.Em [])) (q _)
 |false =>
 refine aG ?_
 have Oj:∀{H:Hp}{x:Str}{t:Ν},H t=Γ->m8 K (π H t (.tup [.str x])) (.ref t) (.tuple [.str x]):=λ{H x t} ht =>.tup (DY.of ac) (.cons (.str _) .nil)
 cases r with
 | Em p =>
  obtain⟨t',Dp,Ep,X,_,d,_,gDp,pDp⟩:=LU
  cases X
  obtain⟨hpn,x,Nv,hx⟩:=MP.path Ib
  have hfew':=MP.E4
  refine⟨S,_,0,_,Λ,Λ,DY.of d,al (j:=0) Λ,Λ,_,Λ,?_⟩
  rw[Ζ Λ]
  refine aK ?_
  refine⟨λb H'=>b=Ε/\DP u H',?_,?_⟩
  ·refine⟨S,_,Λ,.inr (DY.of d),Λ,_,Λ,?_⟩
   rw[j7,Ζ (show(([V.str "still",V.ref Dp].length:Nat):Int)=2 from Λ)]
   refine aG ⟨S,_,1,_,Λ,Λ,DY.of d,al (j:=1) Λ,.inr (.inr (.inl ⟨Dp,_,Λ,DS.of gDp,_,Λ,aG ?_⟩))⟩
   have s29:DP H2 u:=s3.trans (s4.trans (s5.trans (s6.trans (G.trans (u8.trans s9)))))
   subst hwy
   have hTR9:DI P w ts u tb rs:=by
    obtain⟨dx,de,lv,kvs,h1,h2,h3⟩:=hTR
    exact⟨dx,de,lv,kvs,s29 _ _ h1,h2.same s29,h3⟩
   have UK:=vU (EL.keep W hT (DP.Ed s29)) hTR9 HA
   refine⟨tb,xl,FU,lt,n,DX,ps,dS rs,Λ,UK,λv2 g sa OT=>?_⟩
   cases LC:nq (dS rs) ps n with
   | Oc qq =>
    rw[LC]at OT
    obtain⟨t2,p2,rfl,k1,_⟩:=OT
    refine⟨t2,_,0,_,Λ,Λ,DY.of k1,al (j:=0) Λ,Λ,_,Λ,?_⟩
    rw[Η (tj Λ)]
    exact⟨Λ,sa⟩
   | ring rr =>
    rw[LC]at OT
    obtain⟨t2,p2,us,rfl,k1,_⟩:=OT
    refine⟨t2,_,0,_,Λ,Λ,DY.of k1,al (j:=0) Λ,Λ,_,Λ,?_⟩
    rw[Η (tj Λ)]
    exact⟨Λ,sa⟩
   | HX N =>
    exfalso
    have B:=xq LC UK.ok
    rw[←BJ,←ewy,←ea,←en]at B
    have:=sg B hI.O hJ hX hI.T.ok Nv
    rw[hx]at this
    cases this
  rintro b g ⟨rfl,sa⟩
  have Pl:=hY9.same W sa
  have g1a:=sa _ _ d
  have gDa:=sa _ _ gDp
  have pDa:=Paired.mono (λv x z=>z.keep (DP.Ed sa)) pDp
  have hpv:Ep.length=p.length:=by rw[Paired.length pDp,Ο]
  refine aG ⟨S,_,1,_,Λ,Λ,DY.of g1a,al (j:=1) Λ,Ϧ _,λe U=>?_⟩
  have A:=(DP.refl g).new (o:=.ρ []) U
  have gb:(π g e (.ρ [])) e=Β (.ρ []):=ac
  generalize π g e (.ρ [])=Hb at A gb⊢
  have Pm:=Pl.same W A
  have pDb:=Paired.mono (λv x z=>z.keep (DP.Ed A)) pDa
  refine neN (f:=tU) (l:=p) (.ρ (DS.of (A _ _ gDa)) (dP pDb)) (.ρ (DS.of gb) .nil) (jX _) ⟨_,Λ,?_⟩
  rw[show p.isEmpty=Ε by cases p with|nil=>exact Κ rfl hpn|cons _ _=>rfl]
  refine aK ⟨S,_,1,_,Λ,Λ,DY.of (A _ _ g1a),al (j:=1) Λ,a,s,Dp,Ep,p,x,Λ,Pm,A _ _ gDa,pDb,by omega,Nv,hx,λHc Pn=>⟨_,Λ,?_⟩⟩
  have s9c:=sa.trans (A.trans Pn)
  refine aK ⟨S,_,1,_,Λ,Λ,DY.of (s9c _ _ d),al (j:=1) Λ,Dp,Ep,Λ,.inl (DS.of (s9c _ _ gDp)),a,s,cs,ms,p.length,congrArg (λz:Nat=>[V.ref a.y,V.ref cs,V.int (z:Int)]) hpv,Pm.same W Pn,s9c _ _ TK,by omega,λqq y gq hy=>MP.least hX.c gq hy,λHd _=>q _⟩
 | ends =>
  obtain⟨t',X,_,d⟩:=LU
  cases X
  refine⟨S,_,0,_,Λ,Λ,DY.of d,al (j:=0) Λ,Λ,_,Λ,?_⟩
  rw[Η (tj Λ)]
  refine aG ⟨by show 1<=Χ;decide,λe U=>?_⟩
  have C:=(DP.refl u).new (o:=.tup [.str "ends"]) U
  have M:=Oj (x:="ends") U
  generalize π u e (.tup [.str "ends"])=g at C M⊢
  have Pl:=hY9.same W C
  refine Qg (.tup (DY.of (C _ _ d)) (.cons (.str _) .nil)) M (fY .ends) ⟨_,Λ,aK ?_⟩
  refine⟨_,_,Λ,Λ,⟨by decide,by decide,by decide⟩,a,s,cs,ms,1000000,Λ,Pl,C _ _ TK,by omega,(λqq y gq hy=>by rw[MP.none hX.c gq]at hy;cases hy),λHb sb=>⟨_,Λ,aK ?_⟩⟩
  have Pm:=Pl.same W sb
  have s0b:=s07.trans (u8.trans (s9.trans (C.trans sb)))
  refine⟨_,_,Λ,Λ,sc,ns,7,Λ,s0b.seq hS,λd8=>⟨_,_,Λ,Λ,⟨by decide,by decide⟩,_,_,Λ,Λ,(by show (0:Int)<9;decide),_,_,Λ,Λ,?_⟩⟩
  obtain⟨Z,hm2,hm21,hm22⟩:∃Z:Nat,(most:Int)+1+d8 / 24% 9=(Z:Int)/\most<=Z/\Z<=100:=⟨((most:Int)+1+d8 / 24% 9).toNat,by omega,by omega,by omega⟩
  dsimp only
  rw[hm2]
  refine Vw Pm (by omega) (by omega) λv2 Hc r2 Pn K6 K7=>(?_)
  have er:=MP.up hm21 K6
  subst er
  exact Qg (lU K7) (.tup (DY.of (Pn _ _ (sb _ _ (C _ _ d)))) (.cons (.str _) .nil)) (fY .ends) (q _)
 | more =>
  obtain⟨t',X,_,d⟩:=LU
  cases X
  refine⟨S,_,0,_,Λ,Λ,DY.of d,al (j:=0) Λ,Λ,_,Λ,?_⟩
  rw[Η (tj Λ)]
  refine aG ⟨by show 1<=Χ;decide,λe U=>?_⟩
  have C:=(DP.refl u).new (o:=.tup [.str "ends"]) U
  have M:=Oj (x:="ends") U
  generalize π u e (.tup [.str "ends"])=g at C M⊢
  refine⟨_,_,.tup (DY.of (C _ _ d)) (.cons (.str _) .nil),M,(fY .more).shaped (Ξ _),(fY .ends).shaped (Ξ _),_,Λ,?_⟩
  rw[show ę (.tuple [.str "more"]) (.tuple [.str "ends"])=Ε by decide +kernel]
  have Pl:=hY9.same W C
  refine aG ⟨by show 1<=Χ;decide,λe2 JI=>?_⟩
  have A:=(DP.refl g).new (o:=.tup [.str "more"]) JI
  have d2:=Oj (x:="more") JI
  generalize π g e2 (.tup [.str "more"])=Hb at A d2⊢
  have Pm:=Pl.same W A
  have g1b:=A _ _ (C _ _ d)
  refine Qg (.tup (DY.of g1b) (.cons (.str _) .nil)) d2 (fY .more) ⟨_,Λ,aK ?_⟩
  refine⟨Λ,_,Λ,?_⟩
  rw[bZ]
  by_cases h1:most=1
  ·rw[Ζ (by omega)]
   exact aK (q _)
  rw[Η (by omega)]
  obtain⟨Z,rfl⟩:∃Z,most=Z+1:=⟨most - 1,by omega⟩
  refine aG ⟨_,_,Λ,Λ,?_⟩
  dsimp only
  rw[show((Z+1:Nat):Int) - 1=(Z:Int) by omega]
  refine Vw Pm (by omega) (by omega) λv2 Hc r2 Pn K6 K7=>(?_)
  have er:=MP.down K6
  subst er
  exact Qg (lU K7) (.tup (DY.of (Pn _ _ g1b)) (.cons (.str _) .nil)) (fY .more) (q _)
theorem len_of1{b:Type}{P:List b->Prop}(h:∀a,P [a]):∀us:List b,us.length=1->P us
 |[a],_=>h a
theorem len_of2{c:Type}{P:List c->Prop}(h:∀a b,P [a,b]):∀us:List c,us.length=2->P us
 |[a,b],_=>h a b
theorem len_of3{d:Type}{P:List d->Prop}(h:∀a b c,P [a,b,c]):∀us:List d,us.length=3->P us
 |[a,b,c],_=>h a b c
theorem len_of4{e:Type}{P:List e->Prop}(h:∀a b c d,P [a,b,c,d]):∀us:List e,us.length=4->P us
 |[a,b,c,d],_=>h a b c d
theorem len_of5{f:Type}{P:List f->Prop}(h:∀a b c d e,P [a,b,c,d,e]):∀us:List f,us.length=5->P us
 |[a,b,c,d,e],_=>h a b c d e
structure FT(K:ϣ)(mg:Str->Option Ρ)(n:Str)(st:Ã)(ps:List Str)(f:Ν)(fd:Ñ):Prop where
 F:Et K n n st f fd
 m:mg n=Β (.ref f)
 k:ϳ K (.ref f)=Δ
 b:Binds K fd ps []
structure FM(K:ϣ)(C:Ν)(n q:Str)(st:Ã)(ps:List Str)(f:Ν)(fd:Ñ):Prop where
 F:Et K n q st f fd
 m:bW K C n f
 b:Binds K fd ps []
section
variable {K:ϣ}{mg:Str->Option Ρ}{C f:Ν}{n q:Str}{st:Ã}{ps:List Str}{h:Ù}{oc:Ρ}{od an:Option Ν}{IV:Array (Option Ρ)}{kV doc pm cdv ct:Ρ}
theorem mkT(X:K.In h)(G:h.Ns ϡ mg)(b:∀(kV doc pm:Ρ) (an:Option Ν) (cdv ct:Ρ) (us:List Ρ),us.length=ps.length->Qy (gy n n (c7 st) (aJ st) (aj st) .none kV doc pm an cdv ct) ⟨us,[]⟩=pure (ps.zip us))
  (a:į K ϡ n=Β (Β (.ref f))) (l:K.lookup f=Β ⟨oc,od,.func (gy n n (c7 st) (aJ st) (aj st) .none kV doc pm an cdv ct),IV⟩) (c:hF K cdv n=Δ) (k:ϳ K (.ref f)=Δ):∃d,FT K mg n st ps f d:=
 ⟨_,lQ l c k,ŝ X G a,k,(lQ l c k).binds b⟩
theorem mkM(b:∀(kV doc pm:Ρ) (an:Option Ν) (cdv ct:Ρ) (us:List Ρ),us.length=ps.length->Qy (gy n q (c7 st) (aJ st) (aj st) .none kV doc pm an cdv ct) ⟨us,[]⟩=pure (ps.zip us))
  (a:Ø K (.ref C) n=Β (Β (.ref f))) (l:K.lookup f=Β ⟨oc,od,.func (gy n q (c7 st) (aJ st) (aj st) .none kV doc pm an cdv ct),IV⟩) (c:hF K cdv q=Δ) (k:ϳ K (.ref f)=Δ) (i:isFn K (.ref f)=Δ):∃d,FM K C n q st ps f d:=
 ⟨_,lQ l c k,⟨a,i,k⟩,(lQ l c k).binds b⟩
end
section
variable {l:PySem.W.OpenLaw}{w:Ϭ}{K:ϣ}{h:Ù}{mg:Str->Option Ρ}{fa cL cB cD cA cH cJ f1 f2 f3 f4 f5 f6 f7 f8 f9 f10 UC f12 f13 f14 f15 f16 f17 f18 f19 f20 f21 f22 f23 f24 f25 f26 f27 f28 f29 f30 f31 f32 f33 f34 f35 f36 f37 f38 f39 Vz f41 TL f43 f44 f45 f46 f47 f48 f49 f50 f51 Om Po f54 f55 f56 f57 f58 f59 f60 f61 f62 f63 f64 f65 f66 f67 f68 f69 f70 f71:Ν}{t1 t2 t3 t4 t5:Tok}
theorem all_mk(X:K.In h)(G:h.Ns ϡ mg)(LM:mg "law"=Β (.ref fa))
  
   
  (gcL:į K ϡ "Land"=Β (Β (.ref cL)))
  (gcB:į K ϡ "Table"=Β (Β (.ref cB)))
  (gcD:į K ϡ "Told"=Β (Β (.ref cD)))
  (gcA:į K ϡ "Lane"=Β (Β (.ref cA)))
  (gcH:į K ϡ "Letter"=Β (Β (.ref cH)))
  (gcJ:į K ϡ "Yard"=Β (Β (.ref cJ)))
  (h1:∃d,FT K mg "has" zw ["some","number"] f1 d)
  (h2:∃d,FT K mg "members" wY ["some"] f2 d)
  (h3:∃d,FT K mg "set_of" Cc ["numbers"] f3 d)
  (h4:∃d,FT K mg "is_whole" ij ["value"] f4 d)
  (h5:∃d,FT K mg "is_within" jY ["value","least","most"] f5 d)
  (h6:∃d,FT K mg "is_one_of" Ce ["value","numbers"] f6 d)
  (h7:∃d,FT K mg "are_two_places" Ca ["places","one","other"] f7 d)
  (h8:∃d,FT K mg "row_fits" qh ["land","row"] f8 d)
  (h9:∃d,FT K mg "onward" UL ["table","lane","goal"] f9 d)
  (h10:∃d,FT K mg "rooms_of" ik ["land","rooms"] f10 d)
  (h11:∃d,FT K mg "is_word" wN ["word"] UC d)
  (h12:∃d,FT K mg "is_move" qe ["move"] f12 d)
  (h13:∃d,FT K mg "still" rN ["yard"] f13 d)
  (h14:∃d,FT K mg "moves_to" wW ["steps","number"] f14 d)
  (h15:∃d,FT K mg "search" oF ["yard","most"] f15 d)
  (h16:∃d,FT K mg "_law_cell_at" xh ["_law_script","_law_k"] f16 d)
  (h17:∃d,FT K mg "_law_mixed" Cf ["_law_cell","_law_k"] f17 d)
  (h18:∃d,FT K mg "_law_draws" rW ["_law_cell","_law_amount","_law_base"] f18 d)
  (h19:∃d,FT K mg "_law_lanes" rS ["_law_script","_law_places"] f19 d)
  (h20:∃d,FT K mg "_law_table" kX ["_law_lanes_here","_law_places","_law_cell"] f20 d)
  (h21:∃d,FT K mg "_law_yard" il ["_law_script","_law_table_here","_law_lanes_here","_law_places"] f21 d)
  (h22:∃d,FT K mg "first_lanes" rU ["table","goal"] f22 d)
  (h23:∃d,FT K mg "lanes_ahead" rY ["table","goal"] f23 d)
  (h24:∃d,FT K mg "met" wX ["table"] f24 d)
  (h25:∃d,FT K mg "is_lost" oI ["table","lane","goal"] f25 d)
  (h26:∃d,FT K mg "lost" wZ ["table"] f26 d)
  (h27:∃d,FT K mg "leads_of" kW ["table","sets"] f27 d)
  (h28:∃d,FT K mg "lanes_next" qa ["leads","numbers"] f28 d)
  (h29:∃d,FT K mg "number_lanes" wV ["leads"] f29 d)
  (h30:∃d,FT K mg "walk_back" kZ ["leads","numbers"] f30 d)
  (h31:∃d,FT K mg "find_ring" pZ ["leads","numbers"] f31 d)
  (h32:∃d,FT K mg "look" qd ["table"] f32 d)
  (h33:∃d,FT K mg "_law_led" Ci ["_law_yard_here","_law_moves"] f33 d)
  (h34:∃d,FT K mg "_law_never" rP ["_law_yard_here","_law_cells","_law_most"] f34 d)
  (a35:į K ϡ "law"=Β (Β (.ref f35)))
  (l35:K.lookup f35=Β ⟨oc35,od35,.func (gy "law" "law" (c7 oH) (aJ oH) (aj oH) .none TU TV TX TM Oo TY),sl35⟩)
  (c35:hF K Oo "law"=Δ)
  (k35:ϳ K (.ref f35)=Δ)
  (h36:∃d,FM K cL "__init__" "Land.__init__" qg ["self","places","lanes"] f36 d)
  (h37:∃d,FM K cL "end_of" "Land.end_of" Ck ["self","lane"] f37 d)
  (h38:∃d,FM K cL "out_of" "Land.out_of" wS ["self","place"] f38 d)
  (h39:∃d,FM K cL "into" "Land.into" qf ["self","place"] f39 d)
  (h40:∃d,FM K cB "__init__" "Table.__init__" Cb ["self","land"] Vz d)
  (h41:∃d,FM K cD "__init__" "Told.__init__" wO ["self","land","rows"] f41 d)
  (h42:∃d,FM K cD "ways" "Told.ways" rM ["self","place","goal","came"] TL d)
  (h43:∃d,FM K cA "__init__" "Lane.__init__" Ch ["self","room"] f43 d)
  (h44:∃d,FM K cA "open_to" "Lane.open_to" wT ["self","letter","count"] f44 d)
  (h45:∃d,FM K cA "put" "Lane.put" Cd ["self","letter","count","last"] f45 d)
  (h46:∃d,FM K cA "front" "Lane.front" rT ["self"] f46 d)
  (h47:∃d,FM K cA "pull" "Lane.pull" wP ["self"] f47 d)
  (h48:∃d,FM K cA "bring" "Lane.bring" rX ["self"] f48 d)
  (h49:∃d,FM K cA "twin" "Lane.twin" Cg ["self"] f49 d)
  (h50:∃d,FM K cH "__init__" "Letter.__init__" xc ["self","start","goal","length","word"] f50 d)
  (h51:∃d,FM K cH "twin" "Letter.twin" xb ["self"] f51 d)
  (a52:Ø K (.ref cJ) "__init__"=Β (Β (.ref Om)))
  (l52:K.lookup Om=Β ⟨oc52,od52,.func (gy "__init__" "Yard.__init__" (c7 jr) (aJ jr) (aj jr) (.ref Ui) TZ Ua Ub TN Oq Uc),sl52⟩)
  (d52:K.lookup Ui=Β ⟨tO52,tD52,.seq #[Į] tN52,tS52⟩)
  (c52:hF K Oq "Yard.__init__"=Δ)
  (k52:ϳ K (.ref Om)=Δ)
  (i52:isFn K (.ref Om)=Δ)
  (a53:Ø K (.ref cJ) "post"=Β (Β (.ref Po)))
  (l53:K.lookup Po=Β ⟨oc53,od53,.func (gy "post" "Yard.post" (c7 iH) (aJ iH) (aj iH) (.ref Uj) Ud Ue Ug TQ Ot Uh),sl53⟩)
  (d53:K.lookup Uj=Β ⟨tO53,tD53,.seq #[Ŗ 0 tk53] tN53,tS53⟩)
  (c53:hF K Ot "Yard.post"=Δ)
  (k53:ϳ K (.ref Po)=Δ)
  (i53:isFn K (.ref Po)=Δ)
  (h54:∃d,FM K cJ "moves" "Yard.moves" rR ["self"] f54 d)
  (h55:∃d,FM K cJ "moves_in" "Yard.moves_in" qc ["self","number"] f55 d)
  (h56:∃d,FM K cJ "moves_on" "Yard.moves_on" qb ["self","lane"] f56 d)
  (h57:∃d,FM K cJ "moves_lie" "Yard.moves_lie" rQ ["self","lane"] f57 d)
  (h58:∃d,FM K cJ "moves_back" "Yard.moves_back" oG ["self","lane"] f58 d)
  (h59:∃d,FM K cJ "wanted" "Yard.wanted" iG ["self","lane"] f59 d)
  (h60:∃d,FM K cJ "moves_like" "Yard.moves_like" xa ["self","move"] f60 d)
  (h61:∃d,FM K cJ "do" "Yard.do" Xi ["self","move"] f61 d)
  (h62:∃d,FM K cJ "go_in" "Yard.go_in" xg ["self","number","lane"] f62 d)
  (h63:∃d,FM K cJ "enter" "Yard.enter" rV ["self","piece","lane"] f63 d)
  (h64:∃d,FM K cJ "lay" "Yard.lay" Cj ["self","piece","place"] f64 d)
  (h65:∃d,FM K cJ "own_lane" "Yard.own_lane" wR ["self","lane"] f65 d)
  (h66:∃d,FM K cJ "own_letter" "Yard.own_letter" wQ ["self","number"] f66 d)
  (h67:∃d,FM K cJ "history" "Yard.history" xf ["self"] f67 d)
  (h68:∃d,FM K cJ "ended" "Yard.ended" im ["self"] f68 d)
  (h69:∃d,FM K cJ "stand" "Yard.stand" rO ["self"] f69 d)
  (h70:∃d,FM K cJ "bare_twin" "Yard.bare_twin" xi ["self"] f70 d)
  (h71:∃d,FM K cJ "twin" "Yard.twin" rL ["self"] f71 d)
  (mp:į K ϡ "MOST_PLACES"=Β (Β (.int 12 t1)))
  (ml:į K ϡ "MOST_LANES"=Β (Β (.int 40 t2)))
  (mr:į K ϡ "MOST_ROOM"=Β (Β (.int 60 t3)))
  (mh:į K ϡ "MOST_LENGTH"=Β (Β (.int 60 t4)))
  (mk:į K ϡ "MOST_LETTERS"=Β (Β (.int 60 t5)))
  (p1cL:ń K cL ř=Δ)
  (p2cL:ĺ K cL=Δ)
  (p3cL:ŏ K cL=Δ)
  (p4cL:Ø K (.ref cL) "__setattr__"=Β (Β (.builtin "object.__setattr__")))
  (p5cL:ec K cL=Δ)
  (p6cL:ϳ K (.ref cL)=Δ)
  (q:Ø K (.ref cL) "places"=Β Γ)
  (A:Ø K (.ref cL) "lanes"=Β Γ)
  (p1cB:ń K cB ř=Δ)
  (p2cB:ĺ K cB=Δ)
  (p3cB:ŏ K cB=Δ)
  (p4cB:Ø K (.ref cB) "__setattr__"=Β (Β (.builtin "object.__setattr__")))
  (p5cB:ec K cB=Δ)
  (p6cB:ϳ K (.ref cB)=Δ)
  (R:Ø K (.ref cB) "land"=Β Γ)
  (S:ń K cD ř=Δ)
  (U:ĺ K cD=Δ)
  (p3cD:ŏ K cD=Δ)
  (p4cD:Ø K (.ref cD) "__setattr__"=Β (Β (.builtin "object.__setattr__")))
  (p5cD:ec K cD=Δ)
  (p6cD:ϳ K (.ref cD)=Δ)
  (a:Ø K (.ref cD) "land"=Β Γ)
  (i:Ø K (.ref cD) "entries"=Β Γ)
  (p1cA:ń K cA ř=Δ)
  (p2cA:ĺ K cA=Δ)
  (p3cA:ŏ K cA=Δ)
  (p4cA:Ø K (.ref cA) "__setattr__"=Β (Β (.builtin "object.__setattr__")))
  (p5cA:ec K cA=Δ)
  (p6cA:ϳ K (.ref cA)=Δ)
  (r:Ø K (.ref cA) "rights"=Β Γ)
  (f:Ø K (.ref cA) "returning"=Β Γ)
  (t:Ø K (.ref cA) "holder"=Β Γ)
  (u:Ø K (.ref cA) "pieces"=Β Γ)
  (p1cH:ń K cH ř=Δ)
  (p2cH:ĺ K cH=Δ)
  (p3cH:ŏ K cH=Δ)
  (p4cH:Ø K (.ref cH) "__setattr__"=Β (Β (.builtin "object.__setattr__")))
  (p5cH:ec K cH=Δ)
  (p6cH:ϳ K (.ref cH)=Δ)
  (C:Ø K (.ref cH) "start"=Β Γ)
  (ncHgoal:Ø K (.ref cH) "goal"=Β Γ)
  (y:Ø K (.ref cH) "length"=Β Γ)
  (ncHword:Ø K (.ref cH) "word"=Β Γ)
  (ncHgone:Ø K (.ref cH) "gone"=Β Γ)
  (ncHway:Ø K (.ref cH) "way"=Β Γ)
  (p1cJ:ń K cJ ř=Δ)
  (p2cJ:ĺ K cJ=Δ)
  (p3cJ:ŏ K cJ=Δ)
  (p4cJ:Ø K (.ref cJ) "__setattr__"=Β (Β (.builtin "object.__setattr__")))
  (p5cJ:ec K cJ=Δ)
  (p6cJ:ϳ K (.ref cJ)=Δ)
  (D:Ø K (.ref cJ) "table"=Β Γ)
  (E:Ø K (.ref cJ) "rooms"=Β Γ)
  (I:Ø K (.ref cJ) "lanes"=Β Γ)
  (j:Ø K (.ref cJ) "letters"=Β Γ)
  (ncJlies:Ø K (.ref cJ) "lies"=Β Γ)
  (ncJdone:Ø K (.ref cJ) "done"=Β Γ)
  (w1cB:PySem.W.readsIn K cB (.type "type")=Δ)
  (w2cB:PySem.W.findCls K (.ref cB) (.type "type") "__init__"=Β (.val (.ref Vz)))
  (w3cB:PySem.W.specialIn K (.ref cB) "__getattribute__"=Β (Β (.builtin "type.__getattribute__")))
  (kk1:Ğ K (.type "int") (.type "int")=Β Δ)
  (kk2:Ğ K (.type "int") (.type "bool")=Β Ε)
  (kk3:Ğ K (.type "bool") (.type "int")=Β Δ)
  (kk4:Ğ K (.type "bool") (.type "bool")=Β Δ)
  (kk5:Ğ K (.type "NoneType") (.type "int")=Β Ε)
  (kk6:Ğ K (.type "str") (.type "str")=Β Δ)
  (kk7:Ğ K (.type "int") (.type "str")=Β Ε)
  (kk8:Ğ K (.type "tuple") (.type "tuple")=Β Δ)
  (z0:į K ϡ "isinstance"=Β Γ)
  (z1:į K ϡ "int"=Β Γ)
  (z2:į K ϡ "bool"=Β Γ)
  (z3:į K ϡ "len"=Β Γ)
  (z4:į K ϡ "enumerate"=Β Γ)
  (z5:į K ϡ "tuple"=Β Γ)
  (z6:į K ϡ "range"=Β Γ)
  (z7:į K ϡ "list"=Β Γ)
  (z8:į K ϡ "all"=Β Γ)
  (z9:į K ϡ "sum"=Β Γ)
  (z10:į K ϡ "abs"=Β Γ)
  (z11:į K ϡ "str"=Β Γ)
  (z12:į K ϡ "max"=Β Γ)
  (z13:į K ϡ "reversed"=Β Γ)
  (z14:į K ϡ "min"=Β Γ)
  (z15:į K ϡ "reversed"=Β Γ)
  (z16:į K ϡ "zip"=Β Γ)
  (z17:į K ϡ "sorted"=Β Γ)
  :∃fd:Ñ,(∀(s:ϊ)(v:Ρ),Jo s fd ⟨[v],[]⟩ [("_law_script",v)])/\∀ν:Ù,K.In ν->ν.Ns ϡ mg->DQ l.prog w K mg ν aB 10 fa fd ["_law_script"] (t8 K):=by
 have e:=LM.symm.trans (ŝ X G a35)
 cases e
 have T:eK mg:=⟨Ü X G z0,Ü X G z1,Ü X G z2,Ü X G z3,Ü X G z4,Ü X G z5,Ü X G z6,Ü X G z7,Ü X G z8,Ü X G z9,Ü X G z10,Ü X G z11,Ü X G z12,Ü X G z13,Ü X G z14,Ü X G z15,Ü X G z16,Ü X G z17⟩
 obtain⟨d1,H1⟩:=h1
 obtain⟨d2,H2⟩:=h2
 obtain⟨d3,H3⟩:=h3
 obtain⟨d4,p⟩:=h4
 obtain⟨d5,o⟩:=h5
 obtain⟨d6,H6⟩:=h6
 obtain⟨d7,H7⟩:=h7
 obtain⟨d8,H8⟩:=h8
 obtain⟨d9,z⟩:=h9
 obtain⟨d10,KJ⟩:=h10
 obtain⟨d11,SF⟩:=h11
 obtain⟨d12,Pe⟩:=h12
 obtain⟨d13,N⟩:=h13
 obtain⟨d14,V0⟩:=h14
 obtain⟨d15,V1⟩:=h15
 obtain⟨d16,La⟩:=h16
 obtain⟨d17,V2⟩:=h17
 obtain⟨d18,Lb⟩:=h18
 obtain⟨d19,V3⟩:=h19
 obtain⟨d20,V4⟩:=h20
 obtain⟨d21,V5⟩:=h21
 obtain⟨d22,V6⟩:=h22
 obtain⟨d23,V7⟩:=h23
 obtain⟨d24,Ov⟩:=h24
 obtain⟨d25,V8⟩:=h25
 obtain⟨d26,V9⟩:=h26
 obtain⟨d27,VA⟩:=h27
 obtain⟨d28,VB⟩:=h28
 obtain⟨d29,VC⟩:=h29
 obtain⟨d30,VD⟩:=h30
 obtain⟨d31,VE⟩:=h31
 obtain⟨d32,VF⟩:=h32
 obtain⟨d33,VG⟩:=h33
 obtain⟨d34,VH⟩:=h34
 obtain⟨d36,VI⟩:=h36
 obtain⟨d37,H37⟩:=h37
 obtain⟨d38,H38⟩:=h38
 obtain⟨d39,H39⟩:=h39
 obtain⟨d40,H40⟩:=h40
 obtain⟨d41,VJ⟩:=h41
 obtain⟨d42,Uk⟩:=h42
 obtain⟨d43,Ul⟩:=h43
 obtain⟨d44,Ox⟩:=h44
 obtain⟨d45,H45⟩:=h45
 obtain⟨d46,Oy⟩:=h46
 obtain⟨d47,H47⟩:=h47
 obtain⟨d48,H48⟩:=h48
 obtain⟨d49,H49⟩:=h49
 obtain⟨d50,Um⟩:=h50
 obtain⟨d51,H51⟩:=h51
 obtain⟨d54,Q⟩:=h54
 obtain⟨d55,H55⟩:=h55
 obtain⟨d56,H56⟩:=h56
 obtain⟨d57,H57⟩:=h57
 obtain⟨d58,H58⟩:=h58
 obtain⟨d59,H59⟩:=h59
 obtain⟨d60,H60⟩:=h60
 obtain⟨d61,LV⟩:=h61
 obtain⟨d62,H62⟩:=h62
 obtain⟨d63,Uo⟩:=h63
 obtain⟨d64,H64⟩:=h64
 obtain⟨d65,H65⟩:=h65
 obtain⟨d66,H66⟩:=h66
 obtain⟨d67,H67⟩:=h67
 obtain⟨d68,H68⟩:=h68
 obtain⟨d69,H69⟩:=h69
 obtain⟨d70,Up⟩:=h70
 obtain⟨d71,Uq⟩:=h71
 have F35:=lQ (st:=oH) l35 c35 k35
 have F52:Jr K "__init__" "Yard.__init__" jr Om _:=⟨⟨_,_,_,_,_,_,_,_,_,_,Λ,l52,c52⟩,k52⟩
 have F53:Jr K "post" "Yard.post" iH Po _:=⟨⟨_,_,_,_,_,_,_,_,_,_,Λ,l53,c53⟩,k53⟩
 have L:rp K ⟨cL⟩:=⟨⟨p1cL,p2cL,p3cL,p4cL⟩,q,A⟩
 have Z:yX K:=⟨kk1,kk2,kk3,kk4,kk5⟩
 have ZS:RA K:=⟨kk6,kk7,kk8⟩
 have B:Xl K mg ⟨cB,cD⟩ Vz _:=⟨⟨p1cB,p2cB,p3cB,p4cB⟩,R,⟨S,U,p3cD,p4cD⟩,a,i,(ŝ X G gcB),⟨w1cB,w2cB,w3cB,H40.m.kp⟩,H40.b⟩
 have M:QA K ⟨cL⟩ f38 f39 _ _:=⟨H38.m,H39.m,H38.b,H39.b⟩
 have ME:vG K ⟨cL⟩ f37 _:=⟨H37.m,H37.b⟩
 have Y:∀ex:List Ν,jo K ⟨cJ,cA,cH,ex⟩:=λ_=>⟨⟨p1cJ,p2cJ,p3cJ,p4cJ⟩,D,E,I,j,ncJlies,ncJdone,⟨p1cH,p2cH,p3cH,p4cH⟩,C,ncHgoal,y,ncHword,ncHgone,ncHway,⟨⟨p1cA,p2cA,p3cA,p4cA⟩,r,f,t,u⟩⟩
 have OQ:=sP (kV:=TZ) (doc:=Ua) (pm:=Ub) (cdv:=Oq) (ct:=Uc) (an:=TN) d52 Λ
 have bp0:=rc (kV:=Ud) (doc:=Ue) (pm:=Ug) (cdv:=Ot) (ct:=Uh) (an:=TQ) d53 Λ
 have Mi:Mk K cL f36:=⟨p5cL,VI.m.at_,VI.m.fn,p6cL⟩
 have Mt:Mk K cD f41:=⟨p5cD,VJ.m.at_,VJ.m.fn,p6cD⟩
 have My:Mk K cJ Om:=⟨p5cJ,a52,i52,p6cJ⟩
 have Ma:Mk K cA f43:=⟨p5cA,Ul.m.at_,Ul.m.fn,p6cA⟩
 have Mh:Mk K cH f50:=⟨p5cH,Um.m.at_,Um.m.fn,p6cH⟩
 refine⟨gy "law" "law" (c7 oH) (aJ oH) (aj oH) .none TU TV TX TM Oo TY,λs v =>.of_eq Λ,λν _ _=>?_⟩
 have g:Wy K cD TL _ (Ef l.prog w ⟨cB,cD⟩):=⟨⟨S,U,p3cD,p4cD⟩,a,Uk.m,Uk.b,λH H' x n wy h k=>Ef.keep (n:=n) (wy:=wy) h k⟩
 have Gm:DQ l.prog w K mg ν aB 2 f2 _ _ _:=CF H2.F T H1.m H1.F H1.b
 have Gw0:=xF (ts:=⟨cB,cD⟩) (P:=l.prog) (w:=w) (ν:=ν) Uk.F B H2.m H2.k H2.b Gm
 have Gb:DQ l.prog w K mg ν aB 3 TL _ _ _:=rC Gw0
 have Gw:DQ l.prog w K mg ν aB 2 f5 _ _ _:=uX o.F T p.m p.F p.b
 have GwV:DQ l.prog w K mg ν aB 2 f5 _ _ _:=sh o.F T Z p.m p.F p.b
 have GW:DQ l.prog w K mg ν aB 1 f4 _ _ _:=mY p.F T Z
 have G2:DQ l.prog w K mg ν aB 3 f7 _ _ _:=C4 H7.F o.m o.k o.b Gw
 have Gi:DQ l.prog w K mg ν aB 4 f36 _ _ _:=Ai VI.F T L o.m o.k o.b Gw H7.m H7.k H7.b G2 (ŝ X G mp) (ŝ X G ml)
 have Go:DQ l.prog w K mg ν aB 2 f6 _ _ _:=CA H6.F T p.m p.F p.b
 have Gin:DQ l.prog w K mg ν aB 1 f39 _ _ _:=Ah H39.F T L
 have Gf:DQ l.prog w K mg ν aB 4 f8 _ _ _:=Al H8.F T L M H7.m H7.k H7.b G2 H6.m H6.k H6.b Go (C9 H38.F T L) Gin
 have G1:DQ l.prog w K mg ν aB 1 Vz _ _ _:=C5 H40.F
 have Gse:DQ l.prog w K mg ν aB 1 f3 _ _ _:=C7 H3.F
 have Gt:DQ l.prog w K mg ν aB 5 f41 _ _ _:=zP VJ.F T B G1 H8.m H8.k H8.b Gf H3.m H3.k H3.b Gse
 have Ge:DQ l.prog w K mg ν aB 1 f37 _ _ _:=CO H37.F L
 have Gro:DQ l.prog w K mg ν aB 3 f10 _ _ _:=xH KJ.F T L o.m o.k o.b GwV (ŝ X G mr)
 have X4:DQ l.prog w K mg ν aB 2 UC _ _ _:=zO SF.F T p.m p.k p.b GW
 have Gla:DQ l.prog w K mg ν aB 1 f43 _ _ _:=CJ Ul.F (Y []).L
 have Gop:DQ l.prog w K mg ν aB 1 f44 _ _ _:=zV Ox.F (Y []).L
 have Gfr:DQ l.prog w K mg ν aB 1 f46 _ _ _:=xN Oy.F (Y []).L
 have Gpu:DQ l.prog w K mg ν aB 2 f45 _ _ _:=C8 H45.F (Y []).L Ox.m Ox.b Gop
 have Gpl:DQ l.prog w K mg ν aB 1 f47 _ _ _:=zR H47.F (Y []).L
 have Gbr:DQ l.prog w K mg ν aB 1 f48 _ _ _:=xS H48.F (Y []).L
 have Gtw:DQ l.prog w K mg ν aB 3 f49 _ _ _:=CI H49.F T (Y []).L (ŝ X G gcA) Ma Ul.b Gla
 have Gle:DQ l.prog w K mg ν aB 1 f50 _ _ _:=CH Um.F (Y [])
 have Gtx:DQ l.prog w K mg ν aB 3 f51 _ _ _:=CG H51.F T (Y []) (ŝ X G gcH) Mh Um.b Gle
 have Gy:∀ex:List Ν,DQ l.prog w K mg ν aB 4 Om _ _ (kN K ⟨cL⟩ cD (Ef l.prog w ⟨cB,cD⟩) ⟨cJ,cA,cH,ex⟩):=λex=>C3 F52 T L (Y ex) g KJ.m KJ.k KJ.b Gro (ŝ X G gcA) Ma Ul.b Gla
 have Gp:∀ex:List Ν,DQ l.prog w K mg ν aB 4 Po _ _ (rG K ⟨cL⟩ cD (Ef l.prog w ⟨cB,cD⟩) ⟨cJ,cA,cH,ex⟩):=λex=>zS F53 T L (Y ex) g Gb o.m o.k o.b GwV SF.m SF.k SF.b X4 (ŝ X G gcH) Mh Um.b Gle (ŝ X G mh) (ŝ X G mk)
 have Gol:∀ex:List Ν,DQ l.prog w K mg ν aB 4 f65 _ _ _:=λex=>zU H65.F (Y ex) H49.m H49.b Gtw
 have Got:∀ex:List Ν,DQ l.prog w K mg ν aB 4 f66 _ _ _:=λex=>zT H66.F (Y ex) H51.m H51.b Gtx
 have O:∀ex:List Ν,Own l.prog w K mg ν ⟨cJ,cA,cH,ex⟩ f65 f66 f45 _ _ _:=λex=>⟨H65.m,H65.b,Gol ex,H66.m,H66.b,Got ex,H45.m,H45.b,Gpu⟩
 have Gly:∀ex:List Ν,DQ l.prog w K mg ν aB 1 f64 _ _ _:=λex=>CL H64.F (Y ex)
 have Gen:∀ex:List Ν,DQ l.prog w K mg ν aB 5 f63 _ _ _:=λex=>xP Uo.F (Y ex) (O ex)
 have Ggi:∀ex:List Ν,DQ l.prog w K mg ν aB 6 f62 _ _ _:=λex=>Ak H62.F (Y ex) (O ex) Uo.m Uo.b (Gen ex)
 have Gon:DQ l.prog w K mg ν aB 4 f9 _ _ _:=CB z.F L g Gb ME Ge
 have Gmi:∀ex:List Ν,DQ l.prog w K mg ν aB 4 f55 _ _ (rJ K ⟨cL⟩ cD (Ef l.prog w ⟨cB,cD⟩) ⟨cJ,cA,cH,ex⟩):=λex=>Aa H55.F (Y ex) g Gb Ox.m Ox.b Gop
 have Gwa:∀ex:List Ν,DQ l.prog w K mg ν aB 5 f59 _ _ (kP K ⟨cL⟩ cD (Ef l.prog w ⟨cB,cD⟩) ⟨cJ,cA,cH,ex⟩):=λex=>uY H59.F (Y ex) g Oy.m Oy.b Gfr z.m z.k z.b Gon
 have Gmo:∀ex:List Ν,DQ l.prog w K mg ν aB 6 f56 _ _ (rH K ⟨cL⟩ cD (Ef l.prog w ⟨cB,cD⟩) ⟨cJ,cA,cH,ex⟩):=λex=>zZ H56.F (Y ex) g Oy.m Oy.b Gfr H59.m H59.b (Gwa ex) Ox.m Ox.b Gop
 have Gml:∀ex:List Ν,DQ l.prog w K mg ν aB 2 f57 _ _ _:=λex=>xI H57.F (Y ex) L g Oy.m Oy.b Gfr ME Ge
 have Gmb:∀ex:List Ν,DQ l.prog w K mg ν aB 1 f58 _ _ (kR K ⟨cL⟩ cD (Ef l.prog w ⟨cB,cD⟩) ⟨cJ,cA,cH,ex⟩):=λex=>va H58.F (Y ex)
 have MM:∀ex:List Ν,XN l.prog w K mg ν ⟨cL⟩ cD (Ef l.prog w ⟨cB,cD⟩) ⟨cJ,cA,cH,ex⟩ f55 f56 f57 f58 _ _ _ _:=λex=>⟨H55.m,H55.b,Gmi ex,H56.m,H56.b,Gmo ex,H57.m,H57.b,Gml ex,H58.m,H58.b,Gmb ex⟩
 have Gms:∀ex:List Ν,DQ l.prog w K mg ν aB 7 f54 _ _ (iB K ⟨cL⟩ cD (Ef l.prog w ⟨cB,cD⟩) ⟨cJ,cA,cH,ex⟩):=λex=>xJ Q.F T (Y ex) g (MM ex)
 have Gim:DQ l.prog w K mg ν aB 2 f12 _ _ _:=Ag Pe.F T ZS p.m p.k p.b GW
 have Glk:∀ex:List Ν,DQ l.prog w K mg ν aB 7 f60 _ _ _:=λex=>Af H60.F T (Y ex) g (MM ex) Pe.m Pe.k Pe.b Gim o.m o.k o.b GwV
 have DM:∀ex:List Ν,DoM l.prog w K mg ν ⟨cL⟩ cD (Ef l.prog w ⟨cB,cD⟩) ⟨cJ,cA,cH,ex⟩ f60 f62 f63 f47 f48 f64 _ _ _ _ _ _:=λex=>⟨H60.m,H60.b,Glk ex,H62.m,H62.b,Ggi ex,Uo.m,Uo.b,Gen ex,H47.m,H47.b,Gpl,H48.m,H48.b,Gbr,H64.m,H64.b,Gly ex⟩
 have Gdo:∀ex:List Ν,DQ l.prog w K mg ν aB 8 f61 _ _ (zm K ⟨cL⟩ cD (Ef l.prog w ⟨cB,cD⟩) ⟨cJ,cA,cH,ex⟩):=λex=>RB LV.F (Y ex) L g (O ex) (DM ex) ME Ge
 have Ghi:∀ex:List Ν,DQ l.prog w K mg ν aB 1 f67 _ _ _:=λex=>Aj H67.F T (Y ex)
 have Ged:∀ex:List Ν,DQ l.prog w K mg ν aB 1 f68 _ _ (o0 K ⟨cJ,cA,cH,ex⟩):=λex=>xQ H68.F T (Y ex)
 have Gbt:∀ex:List Ν,DQ l.prog w K mg ν aB 6 f70 _ _ (oB K ⟨cL⟩ cD (Ef l.prog w ⟨cB,cD⟩) ⟨cJ,cA,cH,ex⟩):=λex=>An Up.F T (Y ex) g (ŝ X G gcJ) My OQ (Gy [])
 have Gyt:∀ex:List Ν,DQ l.prog w K mg ν aB 7 f71 _ _ (rE K ⟨cL⟩ cD (Ef l.prog w ⟨cB,cD⟩) ⟨cJ,cA,cH,ex⟩):=λex=>xE Uq.F T (Y ex) g Up.m Up.b (Gbt ex)
 have Gsd:∀ex:List Ν,DQ l.prog w K mg ν aB 1 f69 _ _ (wj K ⟨cJ,cA,cH,ex⟩):=λex=>C6 H69.F T (Y ex)
 have Ff:∀ex:List Ν,DQ l.prog w K mg ν aB 8 f13 _ _ (ow K ⟨cL⟩ cD (Ef l.prog w ⟨cB,cD⟩) ⟨cJ,cA,cH,ex⟩):=λex=>xG N.F (Y ex) g Q.m Q.b (Gms ex) H68.m H68.b (Ged ex)
 have Hw:=AG (K:=K) (c:=⟨cL⟩) (TC:=cD) (J:=Ef l.prog w ⟨cB,cD⟩) (ys:=⟨cJ,cA,cH,[]⟩) Gms
 have Ur:=Dz (K:=K) (c:=⟨cL⟩) (TC:=cD) (J:=Ef l.prog w ⟨cB,cD⟩) (ys:=⟨cJ,cA,cH,[]⟩) g Gbt
 have MQ:=Dx (K:=K) (c:=⟨cL⟩) (TC:=cD) (J:=Ef l.prog w ⟨cB,cD⟩) (ys:=⟨cJ,cA,cH,[]⟩) g Gyt
 have gdo:=YK (K:=K) (c:=⟨cL⟩) (TC:=cD) (J:=Ef l.prog w ⟨cB,cD⟩) (ys:=⟨cJ,cA,cH,[]⟩) g Gdo
 have gstd:=Sv (K:=K) (c:=⟨cL⟩) (TC:=cD) (J:=Ef l.prog w ⟨cB,cD⟩) (ys:=⟨cJ,cA,cH,[]⟩) Gsd
 have Hx:=AF (K:=K) (c:=⟨cL⟩) (TC:=cD) (J:=Ef l.prog w ⟨cB,cD⟩) (ys:=⟨cJ,cA,cH,[]⟩) Ff
 have Us:=Dy (K:=K) (c:=⟨cL⟩) (TC:=cD) (J:=Ef l.prog w ⟨cB,cD⟩) (ys:=⟨cJ,cA,cH,[]⟩) Ghi
 have Gmv:DQ l.prog w K mg ν aB 1 f14 _ _ _:=zY V0.F T
 have Gsr:DQ l.prog w K mg ν aB 9 f15 _ _ _:=uZ (ys:=⟨cJ,cA,cH,[]⟩) V1.F T (Y []) g ⟨Q.m,Q.b,Hw,Up.m,Up.b,Ur,LV.m,LV.b,gdo,H69.m,H69.b,gstd,N.m,N.k,N.b,Hx,V0.m,V0.k,V0.b,Gmv⟩
 have Gc:DQ l.prog w K mg ν aB 1 f16 _ _ _:=Am La.F T
 have Gx:DQ l.prog w K mg ν aB 1 f17 _ _ _:=Ab V2.F
 have Gd:DQ l.prog w K mg ν aB 2 f18 _ _ _:=xR Lb.F T V2.m V2.k V2.b Gx
 have Glan:DQ l.prog w K mg ν aB 3 f19 _ _ _:=xM V3.F T Lb.m Lb.k Lb.b Gd La.m La.k La.b Gc
 have Gtb:DQ l.prog w K mg ν aB 7 f20 _ _ _:=Ac (c:=⟨cL⟩) (ts:=⟨cB,cD⟩) V4.F T Lb.m Lb.k Lb.b Gd (ŝ X G gcL) Mi VI.b Gi (ŝ X G gcD) Mt VJ.b Gt
 have Gya:DQ l.prog w K mg ν aB 9 f21 _ _ _:=xK (ys:=⟨cJ,cA,cH,[]⟩) V5.F T (Y []) g Gb ⟨La.m,La.k,La.b,Gc,Lb.m,Lb.k,Lb.b,Gd,(ŝ X G gcJ),My,OQ,Gy [],⟨a53,i53,k53⟩,bp0,Gp [],LV.m,LV.b,Gdo,Q.m,Q.b,Gms⟩
 have W1:yZ K cD TL _ (pG l.prog w ⟨cB,cD⟩):=⟨⟨S,U,p3cD,p4cD⟩,Uk.m,Uk.b,λH x wy DT=>by obtain⟨dx,de,lv,kvs,h1,_⟩:=DT;exact⟨dx,_,h1,Λ⟩,λH H' x wy ⟨dx,de,lv,kvs,h1,h2,h3⟩ s=>⟨dx,de,lv,kvs,s _ _ h1,h2.same s,h3⟩⟩
 have Gw1:DQ l.prog w K mg ν aB 3 TL _ _ _:=uH Gw0
 have Oz:DQ l.prog w K mg ν aB 4 f9 _ _ _:=SI z.F L W1 a Gw1 ME Ge
 have Gfi:DQ l.prog w K mg ν aB 4 f22 _ _ _:=xO V6.F T L W1 a Gw1
 have Gah:DQ l.prog w K mg ν aB 5 f23 _ _ _:=xT V7.F T W1 V6.m V6.k V6.b Gfi z.m z.k z.b Oz
 have Gme:DQ l.prog w K mg ν aB 6 f24 _ _ _:=CD Ov.F T L W1 a V7.m V7.k V7.b Gah
 have Gil:DQ l.prog w K mg ν aB 5 f25 _ _ _:=vb V8.F L W1 a ME Ge z.m z.k z.b Oz
 have Glo:DQ l.prog w K mg ν aB 7 f26 _ _ _:=Ad V9.F T W1 Ov.m Ov.k Ov.b Gme H2.m H2.k H2.b Gm V8.m V8.k V8.b Gil
 have Gld:DQ l.prog w K mg ν aB 5 f27 _ _ _:=xL VA.F T W1 H2.m H2.k H2.b Gm z.m z.k z.b Oz
 have Gnx:DQ l.prog w K mg ν aB 1 f28 _ _ _:=zX VB.F T
 have Gnb:DQ l.prog w K mg ν aB 2 f29 _ _ _:=zW VC.F VB.m VB.k VB.b Gnx
 have Gbk:DQ l.prog w K mg ν aB 1 f30 _ _ _:=Ao VD.F T
 have Grg:DQ l.prog w K mg ν aB 2 f31 _ _ _:=zQ VE.F T VD.m VD.k VD.b Gbk
 have Ut:DQ l.prog w K mg ν aB 8 f32 _ _ _:=Ae VF.F T W1 V9.m V9.k V9.b Glo Ov.m Ov.k Ov.b Gme VA.m VA.k VA.b Gld VC.m VC.k VC.b Gnb VE.m VE.k VE.b Grg
 have Gled:DQ l.prog w K mg ν aB 9 f33 _ _ _:=CK (ys:=⟨cJ,cA,cH,[]⟩) VG.F (Y []) g ⟨Q.m,Q.b,Hw,Uq.m,Uq.b,MQ,LV.m,LV.b,gdo,N.m,N.k,N.b,Hx⟩
 have Gnev:DQ l.prog w K mg ν aB 9 f34 _ _ _:=CC (ys:=⟨cJ,cA,cH,[]⟩) VH.F T (Y []) g ⟨Q.m,Q.b,Hw,Uq.m,Uq.b,MQ,LV.m,LV.b,gdo,N.m,N.k,N.b,Hx⟩
 exact CM (c:=⟨cL⟩) (ts:=⟨cB,cD⟩) (ys:=⟨cJ,cA,cH,[]⟩) F35 T (Y []) g ⟨La.m,La.k,La.b,Gc,V3.m,V3.k,V3.b,Glan,V4.m,V4.k,V4.b,Gtb,V5.m,V5.k,V5.b,Gya,V1.m,V1.k,V1.b,Gsr,H67.m,H67.b,Us,Q.m,Q.b,Hw,N.m,N.k,N.b,Hx,VF.m,VF.k,VF.b,Ut,VG.m,VG.k,VG.b,Gled,VH.m,VH.k,VH.b,Gnev⟩
end
theorem walk{l:PySem.W.OpenLaw}{K:Params->ϣ}(g:l.most=Β 63)(i:d.params.defaults=[])
  (j:∀(w:Ϭ)(h:Ù),YP w h->(K w.params).In h)
  (F:∀(w:Ϭ)(b:Str->Option Ρ)(c:Ν)(h:Ù),(K w.params).In h->h.Ns ϡ b->b d.name=Β (.ref c)->
   ∃e:Ñ,(∀(s:ϊ)(u:Ρ),Jo s e ⟨[u],[]⟩ [("_law_script",u)])/\∀ν:Ù,(K w.params).In ν->ν.Ns ϡ b->DQ l.prog w (K w.params) b ν aB 10 c e ["_law_script"] (t8 (K w.params))):
  PySem.W.WalkO q loose XP YP l.row.toRowW d [] (λf m=>PySem.call f m):=
 L2.Gz (n:=63) (k:=10) (x:="_law_script") (CX:=λ_=>aB) (sp:=λw=>t8 (K w.params)) g (by decide) i ⟨Λ,by decide,by decide⟩ j F (λ_ _ a o p _ r=>⟨a,o,Λ,r,p,λ_=>rfl⟩) λ_ _ _ _ _ z=>z
end K69
structure PySem.W.Fast:Prop where
 (tw12093992723574164165 tw14781855944170531915 tw1008862464996936509 tw10431276707843252550 tw14644782827016165842 tw8459984027136606455 tw11324537812004274042 tw13176033507472435339 tw11690827509483407171 tw467286755832791174 tw3349552560443794417 tw17604550056045486386 tw7158770318991519766 tw5489537248409337994 tw3046127520844477853 tw12531133872326995738 tw12167816329189597902 tw641578893798909375 tw8396693770661093741 tw1653440178226739116 tw14294667273371145220 tw13782587626837090902 tw15418944396080205082 tw17596440070357440094 tw3376892485423875960 tw6121947905557835185 tw378765507971393313 tw16717111834872378689 tw8459114381638181136 tw8578307357288939748 tw10146145495426638772 tw1238995022662208636 tw16906574532597621305 tw9425282139109240278 tw16965066097761649203 tw4305339795591457034 tw16670384906726385411 tw14646330911971192139 tw4910573548745260839 tw16712468954696749247 tw10242384766468390875 tw15760348794292385511 tw7114538361736293019 tw3065794539899629410 tw11679955518819261151 tw9188085180685973335 tw5714152857089983809 tw9340463317202606276 tw10495573034680653521 tw16518301896560374508 tw2022338525501670014 tw13038864782061768285 tw7437318400821610869 tw2198878199506642480 tw12816957868450711188 tw7135287069681964589 tw14201192480498780728 tw11258478023782093531 tw5672850858966810613 tw16174891001595074877 tw7054944377108151789 tw2871299186481283758 tw15465413849277166413 tw16816439833343483212 tw12516805746232923111 tw2657460429317976605 tw16405983274463780210 tw4570459119188346170 tw15836274434978738825 tw16242413525116797389 tw12096505893473985427 tw8904601102161450797 tw8335662645675276760 tw13940048673493749942 tw10117870590202655880 tw9203900912925479057 tw16609422633241167061 tw13293374524962159426 tw946248388790045751 tw11970593277568328795 tw4059548527830938888 tw2238653274047199810 tw6971348505541889896 tw9815153570541866123 tw3616259994657126162 tw11356321572407234097 tw10480624293975200052 tw4918724653807260380 tw10956148241796510365 tw2381298596983801787 tw3883364495410994819 tw9476874846882892536 tw8640486061457189013 tw5070743631640491811 tw15913560828511052314 tw12397207858332835602 tw17269169140851825233 tw16816142878530686998 tw12415828075174725287 tw7421697999391816579 tw3004113777757818247 tw9993294547493824798 tw4077309562768691268 tw10592734488628120673 tw4089563974829130274 tw4926138992439352796 tw17720298404801360999 tw14478279068400994520 tw9985156278316605814 tw8804350549124206278 tw6987764055471550205 tw2081811138552552157 tw3339878879235528389 tw15940373716593530687 tw2685840470782205234 tw10197196598398436831 tw15318789854502951462 tw1238702110051642798 tw618942940017073529 tw12382445561624435506 tw11307156339105547660 tw12454989524573637798 tw3594175905876931981 tw13488680061602769660 tw9230415450580761715 tw14524843506141351566 tw6748209013066374575 tw5794350887070834944 tw13307015252772565252 tw6036094791950020397 tw4619326647987502056 tw1968283696628835148 tw4494971087707052797 tw14151106328950328190 tw10065376366277346762 tw4745382048193706279 tw16921372716105170294 tw16054817851673276786 tw14017480385068072534 tw4537990599574985410 tw12004694914263184499 tw12525430646994503577 tw926171004480212731 tw16806048758460823896 tw9658749802315420450 tw17742000222515302043 tw9490700159973957621 tw12966817430970955588 tw6589284289138905595 tw2773171410705450463 tw13626080650129046820 tw824027743270464102 tw18244154350537257123 tw11852856292990211558 tw17628758043428741380 tw10562098245286183852 tw10393383467977182811 tw17987008092723113346 tw9762107694424517626 tw7960040710624326263 tw15655850926614347202 tw1141225373721972387 tw10986057672961700668 tw13012298476767469860 tw463451204736513198 tw17455937740944951984 tw1187264054979982309 tw9174763526563321165 tw1795257893193696406 tw8849888047969831859 tw1722188897302512556 tw1720357633545151315 tw13920781323282944989 tw10207519717088269354 tw15093759490359629019 tw13607683164056307229 tw17672425415128855387 tw2255756114023497830 tw16735643273138175244 tw616937400492040885 tw5949835203218797733 tw5509858045733595154 tw8145186430199063787 tw3468427970140502978 tw3509438358689005681 tw4686404221609457853 tw12001932322339549187 tw4122581930124746 tw9718901038951173910 tw17302707294880666178 tw11398374811496294003 tw2063176546674876413 tw2441304829018420218 tw3406354013916570927 tw12294520095287726616 tw5478768864779538815 tw3064664593887399276 tw7817562846609456913 tw4768562646517913205 tw14461549080944858597 tw6051148460933459302 tw4467704529508911533 tw1678138546705927553 tw16675954210338618352 tw12878962683704953426 tw11438070284324600548 tw14831440635967672685 tw6678153642562767316 tw3721660132313572543 tw17924428002294613299 tw18104545665189386927 tw4558000738914911447 tw9591577434490651613 tw16090445223865330119 tw9215786102080629619 tw10396394838501874054 tw5172696488846665595 tw6840937054897805912 tw8412786083512660559 tw11424322096913177455 tw4259106646569016833 tw892415431339849028 tw13506729384607781485 tw3475148064737145031 tw11253749927655311622 tw15134754185741108779 tw13860486380375000455 tw18060367909857987827 tw17501890639939072499 tw17496196690390886223 tw328457434111252858 tw3403711589915055545 tw11260242959849761515 tw3553891847088266188 tw14476562909003476684 tw3826284104625635617 tw15340977415939518011 tw7318278198119583838 tw16103706612439659482 tw9800930888593698228 tw4134648439960782280 tw9602527620737310102 tw13849559222252019293 tw12834626302368853907 tw8182396321859227610 tw2661306681437586096 tw13893383494758889377 tw8777164617781552931 tw2781819572822245673 tw16143914902296571041 tw5427751242199645015 tw7196780467715763424 tw3099878701405743063 tw681377463335469743 tw13993983558152211949 tw12754576704084915818 tw16229850345924779916 tw15502917509052453629 tw6258253402337491629 tw12330974489409381896 tw4461564269288965345 tw15786053162017674485 tw15102928627860005517 tw784758064250782028 tw2039065179185452567 tw18364668593997011318 tw7076954660849239316 tw9041476824175181147 tw3641245096323788498 tw15461921672555874032 tw12082830614818736347 tw6605751551782558719 tw1119460442426085921 tw4255164500985165406 tw11392674808286309073 tw8477716222738750405 tw9342017907630201810 tw11286759681124437563 tw11496401999487562772 tw4910103830459933889 tw4953807702358828363 tw3830465611110769489 tw7101735745115669930 tw7849876044430225925 tw11575052456534437291 tw8720689199816534126 tw7166868999848409775 tw13906994955066535617 tw13763216992623406764 tw13159025397327544836 tw10725918040724448864 tw14311766430048361549 tw2193852218106547339 tw7642520106046880392 tw325918310136432489 tw10359658160958763306 tw5914115421497634938 tw13814806417777225432 tw6911025017689596421 tw1613901043903722799 tw1802081726968583315 tw11685693257422150376 tw5120887952317015683 tw10262000156739172353 tw3982130746866701623 tw4413315672411241162 tw3714587676068043417 tw194928214710615986 tw14366342690864682494 tw16722601515347926736 tw12552419402203738353 tw8087722709890750555 tw221438151372311697 tw13711363992550339736 tw12427383691230311916 tw17930822327327425346 tw14808646640713797501 tw6585201667700861507 tw16646769916391569706 tw304051274517492729 tw1441307742894711324 tw5260215188484432244 tw13279330624050530913 tw13023460557639988271 tw7712003531623916978 tw18072378365448690726 tw1238612930315745124 tw8000544089521888133 tw3558192689533211862 tw14461559991082186580 tw11464297278390069177 tw5436725766624952222 tw15942123340965461151 tw706289704509101322 tw18209825682128029950 tw16663042767402133681 tw12862463273853150992 tw10813345742440903161 tw388129036098233231 tw12807737175668074903 tw7870187029156687121 tw4069722067565516295 tw9080875799748439877 tw555906051483731295 tw16061024965103576548 tw2643776760420627407 tw8229139681204950382 tw10380064920810037425 tw3116764030096593819 tw2999974576427089885 tw1979562040844675353 tw3416164572149813903 tw12623215147659947959 tw938474620719990969 tw792509034349764150 tw7348116343364806216 tw14481541935586463594 tw5915499271590946324 tw6627907438785382105 tw5498878408936576502 tw1881783643900785681 tw14607664994135852483 tw2505355224854509844 tw17174624665503589726 tw6575814749283951353 tw16872321403305323897 tw14172271279265876105 tw13706466112020233759 tw16330298784662088982 tw9693057839023543574 tw18105569553501900084 tw15299598073457000552 tw12682005411265396024 tw12214523191695339207 tw11774633801420851543 tw17493091380376412849 tw10395661015818567831 tw16455987607443932962 tw9261428104544082503 tw4257260525068383559 tw1015834987335346317 tw11090281045704671156 tw4540917734127825834 tw13458742554682401617 tw12685176954798858715 tw6740088697748190134 tw18059516353520514802 tw5216008551465623324 tw12544736541111107048 tw11139237254976201560 tw3961489798850892802 tw6712597115703940980 tw11474301396376594265 tw7153959661292910907 tw7853683722400076600 tw7649038714165108973 tw6832446791520801890 tw1497261595901762097 tw11324546182437721284 tw9759586895293014523 tw6597203953553233072 tw6749122695005658434 tw2246546317428228011 tw14523154380194065640 tw13553920456921064184 tw7864684212980708829 tw6235063231432214451 tw10220250305839088995 tw5600215702846233976 tw3952842051457103008 tw16389716732703279227 tw17860656711656940675 tw15824612913847800876 tw10534088120090097883 tw16060227503566155714 tw9602340390877889723 tw15799828373324089145 tw16803455142422307005 tw7722017333950941222 tw4104215840484425854 tw3341730554820351233 tw13812084348056363453 tw12597437584046332729 tw1176310511482295442 tw17552021866026066393 tw775811082998846318 tw6340448834959968489 tw2985678061807052095 tw1042061705805064248 tw7174976897111355666 tw8957008403827105449 tw17456111749824341215 tw923215112315510156 tw15185356840246381287 tw12890587867522400678 tw17490402044137446123 tw16048007282752103666 tw15938337498779503862 tw646483282597782007 tw17468424541529403395 tw14872354512831789678 tw15244640913696140422 tw7682035213861004741 tw16722517991236390884 tw9661983183379526544 tw10632008463848868716 tw8112364169972162672 tw2742471949248437428 tw18077137923571486760 tw16864129201185712212 tw16750027265069778828 tw10590890658873070971 tw16915570493659345703 tw7315100710388488925 tw8240124884087039853 tw785155215659327766 tw16656921227122286650 tw95206631607883195 tw17918567662778472158 tw17018357651249758225 tw14213017977218807044 tw318118030220035369 tw711160876511149358 tw16063355467661940105 tw3849747033847157849 tw15706919981399133469 tw1121746653129032581 tw952218923730543378 tw14185937545201225413 tw9834234607524300625 tw9888743846218257529 tw8575833766302063580 tw737170485519920640 tw17103367605968904978 tw14801474932141080721 tw14360123960221375908 tw16083236405552808754 tw8710742330583728448 tw12041178243913482644 tw945098878978481483 tw3879316132450676330 tw4292001742207323426 tw17847818462564368615 tw17628937359744929766 tw9320716568380954576 tw8755003601246989959 tw6852045441571003361 tw3214759228094327367 tw189343055881342307 tw18093523617261328681 tw949016093848909485 tw17879590412723389263 tw14494142943315388956 tw11391443894687298436 tw15187647041365052922 tw4224768239205289373 tw9102976820099773732 tw8222888337263486163 tw6792455658582210064 tw5099024067422305508 tw4449069599630566652 tw3201840207143455286 tw17566303418589519995 tw17251812740933830881 tw16609719176866405282 tw1019888397816884027 tw4170244865912082692 tw3665396570812617806 tw1621116612744872209 tw10763378098293809240 tw9947683129965748632 tw15514084762745381944 tw4961729740598296640 tw5018602269419013890 tw2831458033609614299 tw17684919915214616948 tw7425237219173822501 tw7259874834997349415 tw6339989206989832518 tw2582603101735468826 tw2543491806616529007 tw17317886252042525661 tw15254751959000940395 tw1369749334540157058 tw1305994666351912991 tw1867469935145308682 tw7706863306887435208 tw5994955383247407908 tw16105140132795495444 tw15881016080222459930 tw13759364996094370364 tw12669310663379283289 tw12405162848244001568 tw9427200857946630982 tw15192027744220172860 tw6004845004574735060 tw403022580303328643 tw15010630637657949005 tw5768548021437074894 tw5272982031321225379 tw5216619838323919180 tw18245285611049704106 tw18167084408326572975 tw17955026043998562245 tw13318774469414418304 tw13075901637930652415 tw11548455879642324706 tw11530319872747469198 tw10082442252495226105 tw11597841751953499211 tw9541016794815913842 tw1687250343310208 tw9422275950518164659 tw8287973986386332903 tw7326488721217336916 tw6674482638411455998 tw6286638761856051187 tw3381594065921590305 tw2754549612079976369 tw2409639581284638812 tw215653007698738009 tw20761123476920851 tw14918422373651472553 tw14180240943111158651 tw13895471615725236678 tw13824145703941319321 tw13163281751315334605 tw13106072533706302968 tw12078652163688955078 tw11799572633333805754 tw10434340150883688808 tw9195908393491970471 tw8848829104601537331 tw8106785616126656292 tw7717590966777443245 tw5946501184629669447 tw5858413172957913636 tw5527942581108182956 tw4914427438172163184 tw4205993458155975661 tw4019211192724012442 tw3277199494076716406 tw2608425358813602628 tw2468202722754566800 tw2207897430346773242 tw14828651997739505401 tw14178912759501225132 tw13252481538934043172 tw12268194926951750701 tw6504020532457262904 tw4331235322200067018 tw12142382448606495212 tw8909570261348877504 tw7616458811537184829 tw4610766431505803003 tw4162996902388230788 tw31735658491115997 tw2334456334907301806 tw2242842211853396882 tw15045501775474623241 tw14744493244665582785 tw12360894306943777997 tw11452673774104325158 tw11119241936018867131 tw9559574615192527509 tw955929274847423259 tw927819446799854038 tw7707779758563259401 tw6715876309901093770 tw5532155935820312186 tw2233712357025790640 tw1893036657090735057 tw17908174849883833806 tw17357042150571107902 tw1638231179794589703 tw16195972652036167165 tw13782595531112399877 tw13537076037525568864 tw13007930122410195990 tw12910286960234972836 tw12564193939796220889 tw10069631655407662798 tw18163710684929048816 tw11052012269462877438 tw9988278286646752995 tw9957312553005335238 tw9844571784308731681 tw9788640433230079499 tw969156276513164507 tw9662806442502991831 tw9568824098159038040 tw9487215711015106937 tw9448025473403040354 tw9424292675829698044 tw9339629922670842322 tw9272169993798946054 tw9190150197787576318 tw9178126699283269528 tw9138395386689786184 tw9045936565044049996 tw9017020353496006404 tw8985286392591328398 tw8966068146466821101 tw8544315020176640976 tw8516852788171231866 tw8510308931671468231 tw8399939291748278173 tw8391309012603275638 tw8347405694558528011 tw8160140048175548371 tw8124613762328445279 tw8098635991911017173 tw8090761937327952012 tw7996111636108104792 tw7815852907831247217 tw7806876875803647085 tw779847370207120478 tw7762547519992738619 tw7642342609318318516 tw7622853502444815624 tw7576384278944232945 tw7537760748215118531 tw7468899294477191659 tw7237213535901948811 tw7215883438224068294 tw7193217058545594620 tw7151736683354436337 tw7025106290904651592 tw6958838669282466259 tw6727352877757943584 tw6710258264591186906 tw6709790274385334608 tw6448723537416495332 tw6407988784142553626 tw6407446669802907110 tw628207090283743812 tw6267093346757609743 tw5846953937750937904 tw5704714570577937417 tw5645821258776007168 tw5599613935205447802 tw5556494266103228908 tw5479336936265312455 tw5462232453099408618 tw5412770243963450245 tw5318715602604625077 tw5213313502812458025 tw5203842866311710160 tw5176649596576408659 tw5125862954649917603 tw5110971604545289475 tw5092472724692813251 tw496780580252517241 tw492910842080251417 tw4809755415652349278 tw4720691073659701756 tw4675732579848023931 tw4672055575993435130 tw4608919078922321257 tw4586782084921325757 tw4540669859155106193 tw4509851342731408594 tw4466877783616883365 tw4394040226973557801 tw4307655668353482837 tw4243745526369612429 tw424006443896134303 tw423138409134273592 tw3984042684745236581 tw3944655328249729472 tw3844130041104650958 tw3815573941994018907 tw3606855509569821359 tw3469202556740545924 tw3344276205029688786 tw3094910243607283654 tw2803048704867550749 tw2663809802233178121 tw2505060779864229471 tw2496752809607578386 tw2450905381047788725 tw2416972311325574573 tw2409915709512874002 tw237599903074884263 tw2154676520096419527 tw2126492870293885267 tw1980324597718751172 tw1944252929444376687 tw1921378812539257518 tw18416949294353286134 tw18386307151067563395 tw18382779757436174319 tw18375189544321624742 tw18373352049386885471 tw1831883670005321364 tw18245048011947620426 tw18046657078054091750 tw17869519090835682215 tw17567408016705666860 tw17254809698081562449 tw17246643180337476383 tw17169110735652586107 tw17024762454254468934 tw17013069917375558313 tw16875355114950858767 tw16743610959101375002 tw16663570495184682105 tw16304672892130079109 tw16282346365648656552 tw16220755892252019941 tw16117661772458134677 tw160566277188069264 tw15818219511723239968 tw15695612858081749877 tw1562834731386161696 tw15593277740096533506 tw1557409404324682362 tw15323198365295592031 tw15060017921555172701 tw15044101747255014410 tw14922451039059957813 tw14847968227046619155 tw14752953540784803586 tw14537792296336970522 tw14536599814873709704 tw14406574558857789844 tw14367055725193587407 tw14306317049549088149 tw14160970961567854435 tw14157121956209170365 tw14145615520787127644 tw14145489549798572880 tw13812024831294319048 tw13784922587421285821 tw13716021051979100294 tw13675419814071320394 tw13482295858106357577 tw13471328726443453119 tw13157169365536258134 tw1310609285381413524 tw1297511257558764873 tw12910651898568850720 tw12740801964988269063 tw12659469389763681588 tw12612572318799799032 tw12479829779597613686 tw12479519119540213275 tw12397782148250610874 tw12396688772863487983 tw12359852967064893552 tw1229856918153814125 tw12173123275863738934 tw12065379637969315339 tw12051088616004174824 tw12036838971823280392 tw11902833540397739593 tw1187498925312009306 tw11718163916294105293 tw1170372279430479784 tw11684184007066926790 tw11679696820359146149 tw11475514088107997675 tw11388135763672885009 tw11368825087481031828 tw11277934090596605798 tw11259891047519179366 tw11221396620725310686 tw11217847120703275956 tw11183738454414277494 tw11183589405833285391 tw11138476120720459291 tw10656274141058746610 tw10654425143683137084 tw10588599467924532038 tw10588222402324408237 tw10554936949591066920 tw10520763587936078408 tw1043719202734336651 tw10301034422230713778 tw10225072746875959210 tw10133875915977902424 tw10069409455126302048 tw10027744889002609205:True)
open PySem PySem.W PyProof.Rows
set_option maxRecDepth 100000 in
set_option maxHeartbeats 0 in
theorem PySem.Challenge.cw_wormyard_k69_whole_searches_holds : PySem.Challenge.rw_wormyard_k69_whole_searches.Holds := by
 w_on;o_law;k_head;(case hw=>w_witness2)
 k_fill
 refine K69.walk (l:=PySem.Challenge.rw_wormyard_k69_whole_searches) rfl rfl (λw h Y=>PySem.W.kIn_of Y) ?F
 case F =>
  intro w mg fa h KX G hmg
  refine' K69.all_mk KX G hmg ?Aa ?Ab ?Ac ?Ad ?Ae ?Af ?Ag ?Ah ?Ai ?Aj ?Ak ?Al ?Am ?An ?Ao ?Ap ?Aq ?Ar ?As ?At ?Au ?Av ?Aw ?Ax ?Ay ?Az ?Ba ?Bb ?Bc ?Bd ?Be ?Bf ?Bg ?Bh ?Bi ?Bj ?Bk ?Bl ?Bm ?Bn ?Bo ?Bp ?Bq ?Br ?Bs ?Bt ?Bu ?Bv ?Bw ?Bx ?By ?Bz ?Ca ?Cb ?Cc ?Cd ?Ce ?Cf ?Cg ?Ch ?Ci ?Cj ?Ck ?Cl ?Cm ?Cn ?Co ?Cp ?Cq ?Cr ?Cs ?Ct ?Cu ?Cv ?Cw ?Cx ?Cy ?Cz ?Da ?Db ?Dc ?Dd ?De ?Df ?Dg ?Dh ?Di ?Dj ?Dk ?Dl ?Dm ?Dn ?Do ?Dp ?Dq ?Dr ?Ds ?Dt ?Du ?Dv ?Dw ?Dx ?Dy ?Dz ?Ea ?Eb ?Ec ?Ed ?Ee ?Ef ?Eg ?Eh ?Ei ?Ej ?Ek ?El ?Em ?En ?Eo ?Ep ?Eq ?Er ?Es ?Et ?Eu ?Ev ?Ew ?Ex ?Ey ?Ez ?Fa ?Fb ?Fc ?Fd ?Fe ?Ff ?Fg ?Fh ?Fi ?Fj ?Fk ?Fl ?Fm ?Fn ?Fo ?Fp ?Fq ?Fr ?Fs ?Ft ?Fu ?Fv ?Fw ?Fx ?Fy ?Fz ?Ga ?Gb ?Gc ?Gd ?Ge ?Gf ?Gg ?Gh ?Gi ?Gj ?Gk ?Gl ?Gm ?Gn ?Go ?Gp ?Gq ?Gr ?Gs ?Gt ?Gu ?Gv ?Gw ?Gx ?Gy
  case Aa|Ab|Ac|Ad|Ae|Af=>k_is
  case Ag|Ah|Ai|Aj|Ak|Al|Am|An|Ao|Ap|Aq|Ar|As|At|Au|Av|Aw|Ax|Ay|Az|Ba|Bb|Bc|Bd|Be|Bf|Bg|Bh|Bi|Bj|Bk|Bl|Bm|Bn|Bo|Bp|Bq|Br|Bs|Bt|Bu|Bv|Bw|Bx|By|Bz|Ca|Cb|Cc|Cd|Ce|Cf|Cg|Ch|Ci|Cj|Ck|Cl|Cm|Cn|Co|Cp|Cq|Cr|Cs|Ct|Cu|Cv|Cw|Cx|Cy|Cz|Da|Db|Dc|Dd|De|Df|Dg|Dh|Di|Dj|Dk|Dl=>first|(refine' K69.mkT (by assumption) (by assumption) ?b ?a ?l ?c ?k;(case b=>first|exact λ_ _ _ _ _ _=>K69.len_of1 (λ_=>rfl)|exact λ_ _ _ _ _ _=>K69.len_of2 (λ_ _=>rfl)|exact λ_ _ _ _ _ _=>K69.len_of3 (λ_ _ _=>rfl)|exact λ_ _ _ _ _ _=>K69.len_of4 (λ_ _ _ _=>rfl)|exact λ_ _ _ _ _ _=>K69.len_of5 (λ_ _ _ _ _=>rfl));(case a=>k_is);(case l=>k_is);(case c=>k_is);(case k=>k_is))|(refine' K69.mkM ?b ?a ?l ?c ?k ?i;(case b=>first|exact λ_ _ _ _ _ _=>K69.len_of1 (λ_=>rfl)|exact λ_ _ _ _ _ _=>K69.len_of2 (λ_ _=>rfl)|exact λ_ _ _ _ _ _=>K69.len_of3 (λ_ _ _=>rfl)|exact λ_ _ _ _ _ _=>K69.len_of4 (λ_ _ _ _=>rfl)|exact λ_ _ _ _ _ _=>K69.len_of5 (λ_ _ _ _ _=>rfl));(case a=>k_is);(case l=>k_is);(case c=>k_is);(case k=>k_is);(case i=>k_is))|k_is
  case Dm|Dn|Do|Dp|Dq|Dr|Ds|Dt|Du|Dv|Dw|Dx|Dy|Dz|Ea|Eb|Ec|Ed|Ee|Ef|Eg|Eh|Ei|Ej|Ek|El|Em|En|Eo|Ep|Eq|Er|Es|Et|Eu|Ev|Ew|Ex|Ey|Ez|Fa|Fb|Fc|Fd|Fe|Ff|Fg|Fh|Fi|Fj|Fk|Fl|Fm|Fn|Fo|Fp|Fq|Fr|Fs|Ft|Fu|Fv=>k_is
  case Fw|Fx|Fy=>first|k_is|kernel_rfl
  case Fz|Ga|Gb|Gc|Gd|Ge|Gf|Gg=>kit_is
  case Gh|Gi|Gj|Gk|Gl|Gm|Gn|Go|Gp|Gq|Gr|Gs|Gt|Gu|Gv|Gw|Gx|Gy=>k_is
