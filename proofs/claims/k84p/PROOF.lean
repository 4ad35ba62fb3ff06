import PyProof.Rows.All
import Wide.All
import OpenK.AllK
import Wide.FinOn
import Lean
import PyProof.EqAt
import PyProof.EqKinds
import PyProof.TupleCall
import PyProof.NeKinds
import PyProof.Rows.FactsN_abs
import KE.KDictSum
import PyProof.DictCompW
import PyProof.DictIter
import PyProof.EnumFor
import PyProof.EnumMake
import PyProof.EnumStmt
import PyProof.Rows.SortShellK
import PyProof.Rows.SortStr
import PyProof.DictKinds
import PyProof.TupleKey
import PyProof.Rows.SortShell
import PyProof.ListRange
import PyProof.StrLawsTight
import PyProof.Rows.FactsT3
import PySem.Challenge.RW_cutmeet_k84_lean_lists
set_option Elab.async false
set_option linter.all false
set_option maxRecDepth 100000
open List renaming length_map->aaa,getElem?_eq_getElem->aad,mem_cons_of_mem->aae,mem_singleton->aaf,mem_cons->aah,size_toArray->aai,mem_append_right->aaj,mem_of_getElem?->aak,mem_cons_self->aal,getElem?_map->aan,mem_append->aas,mem_append_left->aax,length_append->aay,getElem?_eq_some_iff->aaB,take_add_one->aaC,map_cons->aaE,length_cons->aaH,mem_map->aaK,map_append->aaN,length_take->aaP,take_of_length_le->aaR,nodup_cons->aaT,lookup_cons->aaW,getElem?_append_left->aa6,take_length->abb,mem_range->abg,length_filter_le->abh,getElem?_eq_none->abl,mem_filter->abm,getElem?_append_right->abn,length_range->abo,getElem_mem->abu,append_nil->abA,getElem_of_mem->abC,map_map->abD,all_eq_true->abF,mem_filterMap->abG,length_singleton->abH,find?_cons->abI,length_nil->abJ,getElem_toArray->abL,getElem?_replicate->abP,length_reverse->abQ,pairwise_cons->abT,filter_append->abU,length_replicate->abX,foldl_cons->abY,pairwise_iff_getElem->ab3,not_mem_nil->ab4,length_pos_of_mem->ab',pairwise_lt_range->aca,eq_nil_of_length_eq_zero->acb,pairwise_map->acd,nodup_nil->acg,getElem?_set_ne->acj,filter_cons->ack,of_mem_zip->aco,all_map->acu,length_erase_of_mem->acx,getElem?_set_self->acJ,findIdx?_eq_some_iff_getElem->acM,all_cons->acP,any_cons->acQ,nodup_range->acS,replicate_succ'->ac4,filterMap_cons->ac',forIn_nil->adf,find?_eq_none->adm,perm_ext_iff_of_nodup->adq,length_eraseIdx_of_lt->adt,getD_eq_getElem?_getD->adw,foldl_append->adx,ext_getElem?->adz,findIdx?_eq_none_iff->adC,mem_of_find?_eq_some->adD,map_nil->adE,length_drop->adF,length_filterMap_le->adI,isEmpty_nil->adL,filterMap_cons_some->adN,forIn_cons->adQ,range_succ_eq_map->adX,getElem?_toArray->aea,mem_erase_of_ne->aej,mem_of_mem_take->ael,mem_of_mem_drop->aem,sum_cons->aeq,filter_eq_self->aeu,getElem_range->aeM,nodup_append->aeX,mapM_toArray->aeZ,reverse_cons->ae0,not_lt->ae5,getElem_inj->ae7,le_antisymm->afa,any_eq_true->afc,zipIdx_nil->afr,find?_some->afs,all_append->afu,take_zero->afw,any_map->af4
open PySem.Heap renaming get?_push_of_some->aab,lt_size->aag,get?_push_size->aaq,get?_update_other->aaQ,get?_update_self->aaZ,size_push->aa1,get?_update_ne->aew
open Nat renaming le_refl->aac,le_trans->aam,ne_of_lt->aar,lt_of_lt_of_le->aaD,zero_le->aaG,le_of_lt->aaU,lt_irrefl->aaV,lt_succ_of_lt->aa2,le_succ->aa7,lt_succ_self->aba,lt_of_le_of_lt->abp,zero_add->abK,ne_of_gt->abS,not_lt_zero->ab7,lt_or_ge->acy,lt_trichotomy->acI,le_of_not_lt->acR,lt_trans->ac0,mod_lt->ac6,add_sub_cancel->adl,not_lt->adB,succ_pos->adM,min_eq_left->adS,eq_zero_or_pos->aeH,lt_of_le_of_ne->aeJ,le_of_lt_succ->aeY,min_le_right->afd,max_eq_right->afe,zero_lt_one->afq,le_of_eq->af1,log2_lt->af8
open Array renaming getElem?_eq_getElem->aao,length_toList->aau,getElem?_toList->aaO,toList_inj->abR,getElem?_eq_some_iff->acn,toList_push->acH,append_assoc->adi,size_map->aec,mem_toList_iff->aeg,find?_toList->aeB,forIn_toList->aeI,append_empty->aeK
open Option renaming map_eq_some_iff->aap,toList_some->abV,isSome_iff_exists->acs,map_some->ac1,map_eq_none_iff->ad2,isSome_map->aeU,getD_none->ae'
open Option.some renaming inj->aat
open PySem renaming boot_len->aav,mem_of_lookup->aaY,wpAny_Call_Name_kw->aa8,wpAny_loadPart_at->abf,wpAny_ite_split->abB,plainId_quiet->abO,wpAny_passesOwn->abW,wpAny_getItem_str_slice->ab5,isSubtype_type->ach,plainObj_wpAny_Assign_Attribute->acW,wpAny_call->acX,sizeLine_eq->adh,wpAny_getItem_list_slice->adG,wpAny_callSpecial?_slot->adO,SetOf_store->ad1,wpAny_isTrue_Compare1->ad4,exec_Assign_Name_used->ad7,builtinLookup_eq_fast->ad',codeAny_extend_loopS->aek,evalPart_none->aen,wpAny_isSubtype_exc->aev,wpAny_handleBy_cons->aex,wpAny_pyIter_tuple->aeA,seqIndex_neg->aeD,codeAny_loop->aeE,wpAny_assign_Name->aeO,wpAny_Assign_Name->aeP,wpAny_pyIter_slot->aeW,seqIndex_of->ae2,pastItsLine_dict->ae9,wpAny_forIn_list->aff,wpAny_Try_except->afg,wpAny_Name->afh,call_meets->afk,typeLookup_type->afp,refuseLoop_ref->afx,rangeSize_one->afz,call_list_seq->afA,relayAll_perm->afC,relayAll_fits->afD
open Bool renaming false_ne_true->aaw,false_eq_true->aaz,and_eq_true->abk,eq_iff_iff->abz,not_true->ab0,true_and->ab6,and_false->acC,false_and->ad5,not_false->aed,or_false->aeo,eq_false_iff->aeV,or_eq_true->afo
open Classical renaming byContradiction->aaF
open Ne renaming symm->aaI
open PySem.W renaming mg_none_of->aaJ,kia_one->abi,looks_findIn->abw,mg_of->abE,callWith_K->acr,hideAll_get->ac9,plainGet_of->ada,looks_clsIn->adb,looks_mroIn->ade,of_hideAll->adj,isNs_of_in->adk,cellsFrom_some->adU,funFrames_hide->adY,methodCall_KW->ad6,hideAll_none->aef,findObj_own->aer,tail_of_in->aeF,set_plain->aeQ,kitx_list->aeS,kitx_dict->aeT,any_some->ae8,exm_one->aft
open PyProof.Rows renaming boot_isinstance->aaM,boot_list->aaS,callWith_type1->aa0,boot_tuple->aa4,boot_set->acf,pairsOf_size->acz,boot_sorted->acK,boot_int->acV,callWith_builtin1->acY,get?_update_seq->ac7,boot_all->adg,plain_sorted->adJ,entry_sorted->adK,KK_mirror_equal->adR,subscriptTail_builtinR->adV,boot_bool->adZ,kind_sorted->ad0,boot_repr->ad3,boot_str->ad8,Subscript_->aeh,boot_range->afi,sortedHeap_old->afv,units_in1->afy,sortedHeap_at->afB,boot_reversed->afE,tail_any->af2,boot_divmod->af5,boot_abs->aga
open PySem.PassesOwn renaming never->aaX,leaving->agt
open PySem.F renaming plainAttrs_list->aa5,called_set->abq,slot_list_append->abr,type_list_append->abt,plain_extend_loop->ab2,typeCall_set_1->ab8,entry_set_init->ab9,sub_list_frozenset->acm,slot_list_insert->acA,type_list_insert->acB,entry_list_sort->acD,attr_ValueError->acG,slot_list_sort->acL,typeOf_object_class->acU,sub_list_set->ac3,excBase_ValueError->adu,plain_list_iadd->adP,plain_set_new->ad9,slot_set_iter->aeb,slot_gs_get->aep,entry_bexc_ga->afm
open PySem.Heap.SameBut renaming update->aa',refl->acF
open PyProof.Rows.F renaming plain_set_update_loop->abd,entry_set_update_loop->abx
open Int renaming eq_ofNat_of_zero_le->abe,toNat_natCast->abN,emod_lt_of_pos->acw,emod_nonneg->ac5,fdiv_eq_ediv_of_nonneg->ado,fmod_eq_emod_of_nonneg->adp,natAbs_natCast->aeL,le_refl->ae6
open PySem.Around renaming under_plainId->abj
open PySem.Obj renaming data_mapFields->abv,isFreed_of_fields->aci,cls_mapFields->ady
open PySem.EqBoolInt renaming of_rcne->aby
open PyProof.Rows.KeyOrd renaming kle_refl->abM,kle_of_not_klt->abZ,kle_of_klt->ace,kle_trans->acT,kle_antisymm->aet
open PySem.Calls renaming call_function_entry->ab1,spliced_cons->acq,spliced_nil->acE,evalArgs_plain->acZ,Name_function_global->adn,callWith_builtin->adW
open PySem.W.Looks renaming here->acp,ld->adH
open PySem.Code renaming quiet_builtin->acv
open PySem.SetTable renaming insertAt_perm->acN
open PySem.Paired renaming length->acO,snoc->ae3
open PySem.Txt renaming slice_le->ac2
open PySem.Value renaming isStrOf_shape->ac8,isInt_shape->aeN
open PySem.SeqAt.RcNeAt renaming lists_lengths->ads,tuples->aes,lists->aeG
open PySem.Str renaming length_append->adA
open Sum.inr renaming inj->adT
open PyProof.Rows.IntsAre renaming length->aee
open PySem.Walks renaming list->aei
open PySem.SeqAt.EqAt renaming int_str->aey,str_int->aez,same->afj,none_bool->agc,bool_none->agd,bool_bool->age,none_int->agf,none_str->agg,bool_int->agh,bool_str->agi,int_none->agj,int_bool->agk,str_none->agl,str_bool->agm,int_int->ago,str_str->agp,of_refs->agq
open PySem.Heap.IsSliceOf renaming new->aeC
open PySem.Heap.Ns1 renaming of_empty->aeR
open List.Sublist renaming refl->ae1
open PySem.Moved renaming trans->ae4
open PySem.SeqAt renaming eq_tupleAt->afb,eq_listAt->afn
open PySem.Heap.DictOf renaming new->afl
open PySem.EqNone renaming eq_none_none->afF,eq_none_bool->afG,eq_bool_none->afH,ne_none_none->afK,ne_none_bool->afL,ne_bool_none->afM,eq_none_int->afP,eq_none_str->afQ,eq_int_none->afR,eq_str_none->afT,ne_none_int->afV,ne_none_str->afW,ne_int_none->afX,ne_str_none->afZ
open PySem.EqMixed renaming eq_bool_str->afI,eq_str_bool->afJ,ne_bool_str->afN,ne_str_bool->afO,eq_int_str->afS,eq_str_int->afU,ne_int_str->afY,ne_str_int->af0
open PySem.Str.mk renaming injEq->af3
open List.Perm renaming eq_of_pairwise->af6,append_left->agb
open PySem.IsRange renaming new->af7
open PySem.ItemsOf renaming nil->af9
open PySem.Sem renaming wp_mono->af'
open PyProof.Rows.IsTup renaming new->agn
open PySem.Within renaming cons->agr
open PySem.SeqAt.RcAt renaming tuples->ags,lists->agv
open PySem.IsL renaming update->agu
open Array.Perm renaming refl->agw
open List.cons renaming injEq->agx
open PySem.Value.ref renaming inj->agy
def aaA:=@decide_eq_false
def aaL:=@decide_eq_true_iff
def aa3:=@if_true
def aa9:=@if_false
namespace L2
open PySem PySem.Spec PyProof.Rows
abbrev Key:=Sum Int Str
def j8:Key->Value->Bool
 |.inl k,v=>Value.isInt k v
 |.inr x,v=>Value.isStrOf x v
def TH(w:World):Key->Int
 |.inl k=>hashInt k
 |.inr x=>hashStr w x
theorem cm:∀{k:Key} {v:Value},j8 k v=true->(∃i t,k=Sum.inl i/\v=Value.int i t)\/(∃x t,k=Sum.inr x/\v=Value.str x t)
 |.inl i,v,h=>by obtain⟨t,e⟩:=aeN (k:=i) (v:=v) h;exact .inl ⟨i,t,rfl,e⟩
 |.inr x,v,h=>by obtain⟨t,e⟩:=ac8 (x:=x) (v:=v) h;exact .inr ⟨x,t,rfl,e⟩
theorem Bw(i:Int)(t:Tok):j8 (.inl i) (.int i t)=true:=by simp[j8,Value.isInt]
theorem Bx(x:Str)(t:Tok):j8 (.inr x) (.str x t)=true:=by simp[j8,Value.isStrOf]
theorem Kd(a b:Int):decide ((Sum.inl a:Key)=Sum.inl b)=(a==b):=by
 by_cases e:a=b
 ·subst e;simp
 ·have h:¬ (Sum.inl a:Key)=Sum.inl b:=λq=>e (Sum.inl.inj q);rw[aaA h];exact(beq_eq_false_iff_ne.mpr e).symm
theorem Ke(a b:Str):decide ((Sum.inr a:Key)=Sum.inr b)=decide (a=b):=by
 by_cases e:a=b
 ·subst e;simp
 ·have h:¬ (Sum.inr a:Key)=Sum.inr b:=λq=>e (adT q);rw[aaA h,aaA e]
theorem Kf(a:Int)(b:Str):decide ((Sum.inl a:Key)=Sum.inr b)=false:=aaA (λq=>nomatch q)
theorem Kg(a:Str)(b:Int):decide ((Sum.inr a:Key)=Sum.inl b)=false:=aaA (λq=>nomatch q)
def bL(prog:Program)(w:World):PySem.KeyKind prog w Key where
 is:=j8
 hash:=TH w
 inj:=λv a b ha hb=>by
  rcases cm ha with⟨i,t,rfl,rfl⟩|⟨x,t,rfl,rfl⟩
  ·rcases cm hb with⟨j,u,rfl,e⟩|⟨y,u,rfl,e⟩
   ·injection e with e1 _;rw[e1]
   ·exact nomatch e
  ·rcases cm hb with⟨j,u,rfl,e⟩|⟨y,u,rfl,e⟩
   ·exact nomatch e
   ·injection e with e1 _;rw[e1]
 byValue:=λk v h=>by rcases cm h with⟨i,t,rfl,rfl⟩|⟨x,t,rfl,rfl⟩<;>rfl
 pyHash:=λhv h=>by
  rcases cm hv with⟨i,t,rfl,rfl⟩|⟨x,t,rfl,rfl⟩
  ·exact wpAny_pyHash_int h
  ·exact wpAny_pyHash_str h
 eqBool:=λhu hv h=>by
  rcases cm hu with⟨i,t,rfl,rfl⟩|⟨x,t,rfl,rfl⟩
  ·rcases cm hv with⟨j,u,rfl,rfl⟩|⟨y,u,rfl,rfl⟩
   ·rw[Kd] at h;exact wpAny_eqBool_int h
   ·rw[Kf] at h;exact aey i t y u _ _ _ _ h
  ·rcases cm hv with⟨j,u,rfl,rfl⟩|⟨y,u,rfl,rfl⟩
   ·rw[Kg] at h;exact aez x t j u _ _ _ _ h
   ·rw[Ke] at h;exact wpAny_eqBool_str h
 «strs»:=λk x t v h=>by
  rcases cm h with⟨i,u,rfl,e⟩|⟨y,u,rfl,e⟩
  ·exact nomatch e
  ·injection e with e1 _;subst e1;cases v<;>rfl
theorem yj(prog:Program)(w:World)(i:Int)(t:Tok):(bL prog w).is (.inl i) (.int i t)=true:=Bw i t
theorem yk(prog:Program)(w:World)(x:Str)(t:Tok):(bL prog w).is (.inr x) (.str x t)=true:=Bx x t
inductive V where
 |aN|bl (b:Bool)|int (i:Int)|str (x:Str)|jq (b:Array UInt8)|lD (b:UInt64)|ref (a:Addr)|ty (n:String)
 deriving DecidableEq
def RelV:V->Value->Prop
 |.aN,u=>u=Value.none
 |.bl b,u=>u=Value.bool b
 |.int i,u=>∃t,u=Value.int i t
 |.str x,u=>∃t,u=Value.str x t
 |.jq b,u=>∃t,u=Value.bytes b t
 |.lD b,u=>∃t,u=Value.float b t
 |.ref a,u=>u=Value.ref a
 |.ty n,u=>u=Value.type n
abbrev Vals:List V->List Value->Prop:=Paired RelV
theorem Vals.length{xs:List V}{us:List Value}(r:Vals xs us):xs.length=us.length:=acO r
theorem Vals.get:∀{xs:List V} {us:List Value} {i:Nat} {x:V},Vals xs us->xs[i]?=some x->∃u,us[i]?=some u/\RelV x u
 |_,_,_,_,.nil,e=>by simp at e
 |_,_,0,_,.cons r _,e=>by simp at e;subst e;exact⟨_,rfl,r⟩
 |_,_,i+1,x,.cons _ t,e=>by obtain⟨u,h1,h2⟩:=Vals.get (i:=i) (x:=x) t (by simpa using e);exact⟨u,by simpa using h1,h2⟩
theorem Vals.set{x:V}{u:Value}(r:RelV x u):∀{xs:List V} {us:List Value} (i:Nat),Vals xs us->Vals (xs.set i x) (us.set i u)
 |_,_,_,.nil=>.nil
 |_,_,0,.cons _ t=>.cons r t
 |_,_,i+1,.cons q t=>.cons q (Vals.set r i t)
theorem Vals.append:∀{xs ys:List V} {us ws:List Value},Vals xs us->Vals ys ws->Vals (xs++ys) (us++ws)
 |_,_,_,_,.nil,s=>s
 |_,_,_,_,.cons r t,s=>.cons r (Vals.append t s)
theorem Vals.take:∀{xs:List V} {us:List Value} (n:Nat),Vals xs us->Vals (xs.take n) (us.take n)
 |_,_,0,_=>.nil
 |_,_,_+1,.nil=>.nil
 |_,_,n+1,.cons r t=>.cons r (Vals.take n t)
theorem Vals.drop:∀{xs:List V} {us:List Value} (n:Nat),Vals xs us->Vals (xs.drop n) (us.drop n)
 |_,_,0,r=>r
 |_,_,_+1,.nil=>.nil
 |_,_,n+1,.cons _ t=>Vals.drop n t
def eJ:Option V->Option Value->Prop
 |some v,some u=>RelV v u
 |none,none=>True
 |_,_=>False
def KV{κ:Type}:List (κ×V)->List (κ×Value)->Prop:=Paired λ(p:κ×V) (q:κ×Value)=>p.1=q.1/\RelV p.2 q.2
def kV:Key->V
 |.inl i=>.int i
 |.inr x=>.str x
inductive HO where
  |lst (xs:List V)
  |tup (xs:List V)
  |dK (kvs:List (Key×V))|dT (kvs:List (List Key×V))
  |set (S:Int->Bool) (n:Nat)
  |ins (C dx:Addr) (fs:List (Str×V))
  |own (x:Addr)
  |xd (fs:List (Str×V))
  |met (f x:Addr)
  |Gs (lo hi:Int)
  |gD (o:Obj) (u:HO)
  |sG (ps:Array Value)
  |ext (φ:Heap->Prop)
abbrev Hp:=Addr->Option HO
def upd(H:Hp)(a:Addr)(o:HO):Hp:=λb=>if b=a then some o else H b
theorem af{H:Hp}{a:Addr}{o:HO}:upd H a o a=some o:=by unfold upd;rw[if_pos rfl]
theorem aq{H:Hp}{a b:Addr}{o:HO}(h:b≠a):upd H a o b=H b:=by unfold upd;rw[if_neg h]
theorem yD{H:Hp}{a:Addr}{o u:HO}:upd (upd H a o) a u=upd H a u:=by funext b;unfold upd;split<;>rfl
theorem eG{H:Hp}{a b:Addr}{o u:HO}(h:H a=some o)(h':H b=some u)(d:o≠u):a≠b:=by intro e;subst e;rw[h] at h';exact d (aat h')
theorem au{H:Hp}{a b:Addr}{o:HO}(h:H a=some o)(h':H b=none):a≠b:=by intro e;subst e;rw[h] at h';cases h'
section
variable (P:Program)(w:World)
def bc(H:Hp)(h:Heap)(a:Addr):HO->Prop
 |.lst xs=>xs.length<=sizeLine/\∃(its:List Value) (n:Nat),Vals xs its/\h.get? a=some {cls:=.type "list",data:=.seq its.toArray n}
 |.tup xs=>xs.length<=sizeLine/\∃its:List Value,Vals xs its/\IsTup h a its.toArray
 |.dK kvs=>kvs.length<=sizeLine/\(a==sysModules)=false/\∃vs,KV kvs vs/\h.DictOf (bL P w) a vs
 |.dT kvs=>kvs.length<=sizeLine/\(a==sysModules)=false/\∃xs:List (List Key×Addr×Value),
   Paired (λ(p:List Key×V) (q:List Key×Addr×Value)=>p.1=q.1/\H q.2.1=some (.tup (p.1.map kV))/\RelV p.2 q.2.2) kvs xs /\
   ∃o es ep,h.get? a=some o/\o.ExactDict/\o.data=.dict es ep/\es.toList=xs.map (entryOfKey (tupleKind (bL P w)))/\(xs.map (·.1)).Nodup
 |.set S n=>h.SetOf (intKind P w) a S n
 |.ins C dx fs=>H dx=some (.own a)/\fs.length<=1000/\dx≠a/\h.get? a=some (PySem.W.instObj C dx) /\
   ∃mA,h.Ns1 dx mA/\(∀f,eJ (fs.lookup f) (mA f))/\PySem.Within mA (fs.map (·.1))
 |.own _=>∃o,h.get? a=some o
 |.xd fs=>∃mA,h.Ns1 a mA/\∀f,eJ (fs.lookup f) (mA f)
 |.Gs lo hi=>∃t u v,h.get? a=some {cls:=.type "range",data:=.fields #[.int lo t,.int hi u,.int 1 v]}
 |.gD o u=>h.get? a=some o/\bc H h a u
 |.sG ps=>h.get? a=some {cls:=.none,data:=.fields ps}
 |.met f x=>h.get? a=some (PySem.W.methodObj (.ref f) (.ref x))
 |.ext φ=>φ h/\(∃o,h.get? a=some o)/\∀h1 h2:Heap,φ h1->(∀o,h1.get? a=some o->h2.get? a=some o)->φ h2
def cG(H:Hp)(h:Heap):Prop:=∀a o,H a=some o->bc P w H h a o
end
section
variable {P:Program}{w:World}{H H':Hp}{h h':Heap}{a:Addr}{o:HO}
theorem bc.lt(x:bc P w H h a o):a<h.objs.size:=by
 cases o with
 |lst xs=>obtain⟨_,_,_,_,e⟩:=x;exact aag e
 |tup xs=>obtain⟨_,_,_,p⟩:=x;exact p.lt
 |dK kvs=>obtain⟨_,_,_,_,o,_,_,e,_⟩:=x;exact aag e
 |dT kvs=>obtain⟨_,_,_,_,o,_,_,e,_⟩:=x;exact aag e
 |set S n=>obtain⟨o,_,_,_,e,_⟩:=x;exact aag e
 |ins C dx fs=>obtain⟨_,_,_,e,_⟩:=x;exact aag e
 |own y=>obtain⟨_,e⟩:=x;exact aag e
 |xd fs=>obtain⟨_,⟨_,_,_,e,_⟩,_⟩:=x;exact aag e
 |Gs lo hi=>obtain⟨_,_,_,e⟩:=x;exact aag e
 |gD ob u=>obtain⟨e,_⟩:=x;exact aag e
 |sG ps=>exact aag (show h.get? a=some _ from x)
 |met f y=>exact aag (show h.get? a=some _ from x)
 |ext φ=>obtain⟨_,⟨_,e⟩,_⟩:=x;exact aag e
theorem Paired.Ac{α β:Type}{F G:α->β->Prop}:∀{l₁:List α} {l₂:List β},Paired F l₁ l₂->(∀a b,F a b->G a b)->Paired G l₁ l₂
 |_,_,.nil,_=>.nil
 |_,_,.cons r t,f=>.cons (f _ _ r) (Paired.Ac t f)
theorem bc.fO(x:bc P w H h a o)(k:∀b u,(b=a\/H b=some (.own a))->h.get? b=some u->h'.get? b=some u)
  (ho:∀b,H b=some (.own a)->H' b=some (.own a)) (ht:∀b xs,H b=some (.tup xs)->H' b=some (.tup xs)):bc P w H' h' a o:=by
 induction o with
 |lst xs=>obtain⟨z,its,n,r,e⟩:=x;exact⟨z,its,n,r,k _ _ (.inl rfl) e⟩
 |tup xs=>obtain⟨z,its,r,ob,e,c⟩:=x;exact⟨z,its,r,ob,k _ _ (.inl rfl) e,c⟩
 |dK kvs=>obtain⟨z,y,vs,r,ob,es,ep,e,c⟩:=x;exact⟨z,y,vs,r,ob,es,ep,k _ _ (.inl rfl) e,c⟩
 |dT kvs =>obtain⟨z,y,xs,r,ob,es,ep,e,c⟩:=x;exact⟨z,y,xs,Paired.Ac r λp q z=>⟨z.1,ht _ _ z.2.1,z.2.2⟩,ob,es,ep,k _ _ (.inl rfl) e,c⟩
 |set S n=>obtain⟨ob,es,ep,t,e,c⟩:=x;exact⟨ob,es,ep,t,k _ _ (.inl rfl) e,c⟩
 |ins C dx fs =>obtain⟨d,z,ne,e,mA,⟨od,es,ep,e2,c⟩,r⟩:=x;exact⟨ho _ d,z,ne,k _ _ (.inl rfl) e,mA,⟨od,es,ep,k _ _ (.inr d) e2,c⟩,r⟩
 |own y=>obtain⟨ob,e⟩:=x;exact⟨ob,k _ _ (.inl rfl) e⟩
 |xd fs=>obtain⟨mA,⟨od,es,ep,e,c⟩,r⟩:=x;exact⟨mA,⟨od,es,ep,k _ _ (.inl rfl) e,c⟩,r⟩
 |Gs lo hi=>obtain⟨t,u,v,e⟩:=x;exact⟨t,u,v,k _ _ (.inl rfl) e⟩
 |gD ob u ih=>obtain⟨e,q⟩:=x;exact⟨k _ _ (.inl rfl) e,ih q⟩
 |sG ps=>
  have e:h.get? a=some {cls:=.none,data:=.fields ps}:=x;show h'.get? a=some {cls:=.none,data:=.fields ps}
  exact k a _ (.inl rfl) e
 |met f y=>
  have e:h.get? a=some (PySem.W.methodObj (.ref f) (.ref y)):=x;show h'.get? a=some (PySem.W.methodObj (.ref f) (.ref y))
  exact k a _ (.inl rfl) e
 |ext φ=>obtain⟨p,⟨o,e⟩,st⟩:=x;exact⟨st _ _ p λo q=>k _ _ (.inl rfl) q,⟨o,k _ _ (.inl rfl) e⟩,st⟩
theorem cG.lt(x:cG P w H h)(e:H a=some o):a<h.objs.size:=(x a o e).lt
theorem cG.fresh(x:cG P w H h)(e:h.objs.size<=a):H a=none:=by
 cases q:H a with
 |none=>rfl
 |some u=>exact absurd (aaD (x.lt q) e) (aaV _)
theorem cG.kept(x:cG P w H h)(k:∀b u,h.get? b=some u->h'.get? b=some u):cG P w H h':=λa o e =>(x a o e).fO (λb u _ q=>k b u q) (λ_ q=>q) λ_ _ q=>q
theorem cG.laid(x:cG P w H h)(k:∀b u,h.get? b=some u->h'.get? b=some u)(hp:h.objs.size<=a)(new:bc P w (upd H a o) h' a o):cG P w (upd H a o) h':=λb u e=>by
 have hn:=x.fresh hp;by_cases hb:b=a
 ·subst hb;rw[af] at e;cases e;exact new
 ·rw[aq hb] at e;exact(x b u e).fO (λc v _ q=>k c v q) (λc q=>by rw[aq (au q hn)];exact q) λc xs q=>by rw[aq (au q hn)];exact q
end
def Rd(H:Hp)(a:Addr)(u:HO):Prop:=H a=some u\/∃o,H a=some (.gD o u)
theorem Rd.ok{P:Program}{w:World}{H:Hp}{h:Heap}{a:Addr}{u:HO}(r:Rd H a u)(x:cG P w H h):bc P w H h a u:=by
 rcases r with r|⟨o,r⟩
 ·exact x a u r
 ·obtain⟨_,q⟩:=x a _ r;exact q
def By:Option HO->Prop
 |some (.lst _)=>True
 |some (.dK _)=>True
 |some (.dT _)=>True
 |some (.set _ _)=>True
 |some (.ins _ _ _)=>True
 |some (.ext _)=>True
 |_=>False
section
variable {P:Program}{w:World}{H:Hp}{h h':Heap}{x e:Addr}{o':HO}
theorem cG.write(ok:cG P w H h)(mu:By (H x))(he:e=x\/H e=some (.own x))(k:∀b u,b≠e->h.get? b=some u->h'.get? b=some u)(heo:∃u,h'.get? e=some u)
  (new:bc P w (upd H x o') h' x o'):cG P w (upd H x o') h':=λb u q=>by
 have nown:∀c y,H c=some (.own y)->c≠x:=λc y r z=>by subst z;rw[r] at mu;exact mu
 have ntup:∀c xs,H c=some (.tup xs)->c≠x:=λc xs r z=>by subst z;rw[r] at mu;exact mu
 by_cases hb:b=x
 ·subst hb;rw[af] at q;cases q;exact new
 ·rw[aq hb] at q;by_cases hbe:b=e
  ·have q':H b=some (.own x):=by
    rcases he with z|z
    ·exact absurd (hbe.trans z) hb
    ·rw[hbe];exact z
   rw[q] at q';cases q';obtain⟨v,hv⟩:=heo;exact⟨v,by rw[hbe];exact hv⟩
  ·refine(ok b u q).fO (λc v hc r=>k c v ?_ r) (λc r=>by rw[aq (nown c b r)];exact r) λc xs r=>by rw[aq (ntup c xs r)];exact r
   rcases hc with rfl|hc
   ·exact hbe
   ·rintro rfl;rcases he with z|z
    ·exact nown c b hc z
    ·rw[hc] at z;cases z;exact hb rfl
end
structure Un(fs ex:List Addr)(H H':Hp)(h h':Heap):Prop where
 keep:∀b o,h.get? b=some o->H b=none->b∉fs->b∉ex->h'.get? b=some o
 slot:∀b o,h.get? b=some o->H b=none->b∈fs->b∉ex->∃sl,h'.get? b=some {o with slots:=sl}
 free:∀b o,h.get? b=some o->H b=none->b∉ex->H' b=none
 there:∀b o,h.get? b=some o->b∉ex->∃o',h'.get? b=some o'
 eg:∀b xs,H b=some (.tup xs)->H' b=some (.tup xs)
 dW:∀b o u,H b=some (.gD o u)->H' b=some (.gD o u)
 eB:∀b ps,H b=some (.sG ps)->∃more,H' b=some (.sG (ps++more))
section
variable {fs VX ex Zo:List Addr}{H H1 H2:Hp}{h h1 h2 h':Heap}{a x e:Addr}{o:HO}
theorem Un.any(u:Un fs ex H H1 h h1){b:Addr}{ob:Obj}(q:h.get? b=some ob)(n:H b=none)(hx:b∉ex):∃sl,h1.get? b=some {ob with slots:=sl}:=by
 by_cases hb:b∈fs
 ·exact u.slot b ob q n hb hx
 ·exact⟨ob.slots,u.keep b ob q n hb hx⟩
theorem Un.trans(a:Un fs ex H H1 h h1)(b:Un fs ex H1 H2 h1 h2):Un fs ex H H2 h h2 where
 keep:=λc ob q n hc hx=>b.keep c ob (a.keep c ob q n hc hx) (a.free c ob q n hx) hc hx
 slot:=λc ob q n hc hx=>by obtain⟨sl,e1⟩:=a.slot c ob q n hc hx;obtain⟨Bz,e2⟩:=b.slot c _ e1 (a.free c ob q n hx) hc hx;exact⟨Bz,e2⟩
 free:=λc ob q n hx=>by obtain⟨o',e1⟩:=a.there c ob q hx;exact b.free c o' e1 (a.free c ob q n hx) hx
 there:=λc ob q hx=>by obtain⟨o',e1⟩:=a.there c ob q hx;exact b.there c o' e1 hx
 eg:=λc xs q=>b.eg c xs (a.eg c xs q)
 dW:=λc ob xs q=>b.dW c ob xs (a.dW c ob xs q)
 eB:=λc ps q=>by obtain⟨m1,e1⟩:=a.eB c ps q;obtain⟨m2,e2⟩:=b.eB c _ e1;exact⟨m1++m2,by rw[e2,adi]⟩
theorem Un.kept(k:∀b u,h.get? b=some u->h'.get? b=some u):Un fs ex H H h h':=
 ⟨λb ob q _ _ _=>k b ob q,λb ob q _ _ _=>⟨ob.slots,k b ob q⟩,λ_ _ _ n _=>n,λb ob q _=>⟨ob,k b ob q⟩,λ_ _ q=>q,λ_ _ _ q=>q,λ_ ps q=>⟨#[],by rw[q];simp⟩⟩
theorem Un.refl:Un fs ex H H h h:=Un.kept λ_ _ q=>q
theorem Un.laid(k:∀b u,h.get? b=some u->h'.get? b=some u)(hp:h.objs.size<=a)(hn:H a=none):Un fs ex H (upd H a o) h h' where
 keep:=λb u q _ _ _=>k b u q
 slot:=λb u q _ _ _=>⟨u.slots,k b u q⟩
 free:=λb u q n _=>by rw[aq (aar (aaD (aag q) hp))];exact n
 there:=λb u q _=>⟨u,k b u q⟩
 eg:=λb xs q=>by rw[aq (au q hn)];exact q
 dW:=λb u xs q=>by rw[aq (au q hn)];exact q
 eB:=λb ps q=>⟨#[],by rw[aq (au q hn),q];simp⟩
theorem Un.write(mu:By (H x))(he:e=x\/H e=some (.own x))(k:∀b u,b≠e->h.get? b=some u->h'.get? b=some u)(heo:∃u,h'.get? e=some u):Un fs ex H (upd H x o) h h':=by
 have hx:∀b,H b=none->b≠x:=λb n z=>by subst z;rw[n] at mu;exact mu
 have hb:∀b,H b=none->b≠e:=λb n z=>by
  subst z;rcases he with r|r
  ·exact hx b n r
  ·rw[n] at r;cases r
 have hm:∀b u,H b=some u->¬ By (some u)->b≠x:=λb u q nm z=>by subst z;rw[q] at mu;exact nm mu
 refine⟨λb u q n _ _=>k b u (hb b n) q,λb u q n _ _=>⟨u.slots,k b u (hb b n) q⟩,λb u q n _=>by rw[aq (hx b n)];exact n,λb u q _=>?_,
  λb xs q=>by rw[aq (hm b _ q λz=>z)];exact q,λb u xs q=>by rw[aq (hm b _ q λz=>z)];exact q,λb ps q=>⟨#[],by rw[aq (hm b _ q λz=>z),q];simp⟩⟩
 by_cases hbe:b=e
 ·subst hbe;exact heo
 ·exact⟨u,k b u hbe q⟩
end
def Gu(h:Heap)(H:Hp):List Addr:=(List.range h.objs.size).filter λa=>(H a).isSome
def j9(h:Heap)(H:Hp):Heap:=PySem.W.hideAll h (Gu h H)
theorem BA(h:Heap)(H:Hp):(j9 h H).objs.size=h.objs.size:=PySem.W.hideAll_size _ _
theorem Er{h:Heap}{H:Hp}{b:Addr}{o:Obj}(e:h.get? b=some o)(n:H b=none):(j9 h H).get? b=some o:=
 ac9 _ e λhm=>by have q:(H b).isSome=true:=(abm.mp hm).2;rw[n] at q;simp at q
theorem Ip{h:Heap}{H:Hp}{b:Addr}{o:Obj}(e:(j9 h H).get? b=some o):h.get? b=some o/\H b=none:=by
 have e':h.get? b=some o:=adj (Gu h H) e;refine⟨e',?_⟩;cases q:H b with
 |none=>rfl
 |some x =>have hm:b∈Gu h H:=abm.mpr ⟨abg.mpr (aag e'),by simp[q]⟩;have z:(j9 h H).get? b=none:=aef (Gu h H) hm;rw[z] at e;cases e
def Iq(g h:Heap)(L:Addr):List (Addr×Obj):=(List.range h.objs.size).filterMap λa=>if a=L\/(g.get? a).isSome=true then none else (h.get? a).map λo=>(a,o)
def rest(g h:Heap)(L d:Addr):List (Addr×Obj):=(Iq g h L).filter λp=>decide (p.1≠d)
structure Mod(K:PySem.W.Frag)(mg:Str->Option Value)(base:Heap):Prop where
 sI:K.In base
 glob:base.Ns mainGlobals mg
 blt:∃mb,base.Ns builtinsNs mb/\∀x:Str,x≠"__name__" -> mb x=bootBuiltins x
 nolimit:base.NoLimit
structure Cx where
 prog:Program
 w:World
 K:PySem.W.Frag
 mg:Str->Option Value
 base:Heap
 A:Around
 N:List Str
 s₀:Shared
 H₀:Hp
 env:Env
 outer:List Env
 stack:List Env
 ex:List Addr
 fn:Str->Bool
 calm:Bool
 pn:List (Addr×Obj)
 xe:Value->Shared->Prop
def cj(l:List Env):List Addr:=l.filterMap (·.frame)
abbrev Cx.fs(X:Cx):List Addr:=cj X.outer
def Gv(sc:Scope)(x:Str):Prop:=sc.names.lookup x=some .local\/sc.names.lookup x=some .cell\/sc.names.lookup x=some .free
def Loc(sc:Scope)(x:Str):Prop:=sc.names.lookup x=some .local\/sc.names.lookup x=some .cell
def Look(env:Env)(h:Heap)(m:Str->Option Value)(x:Str)(u:Value):Prop:=
 (env.kindOf x=some .local/\m x=some u)\/((env.kindOf x=some .cell\/env.kindOf x=some .free)/\∃c,env.cells.lookup x=some c/\h.IsCell c (some u))
structure Cx.Ok(X:Cx):Prop where
 mod:Mod X.K X.mg X.base
 kind:X.env.scope.kind=.function
 glob:X.env.globals=mainGlobals
 blt:X.env.builtins=builtinsNs
 above:X.s₀.heap.objs.size<=X.env.locals
 inj:∀x y c,X.env.cells.lookup x=some c->X.env.cells.lookup y=some c->x=y
 has:∀x,(X.env.kindOf x=some .cell\/X.env.kindOf x=some .free)->∃c,X.env.cells.lookup x=some c
 yE:∀x c,X.fn x=true->X.env.cells.lookup x=some c->X.s₀.heap.objs.size<=c
 hd:X.calm=true->X.A.handled=none
 frames:X.A.frames=some X.stack
 BB:X.stack=X.outer\/(X.stack=X.env::X.outer/\X.env.frame=some X.env.locals)
 yF:∀b∈X.ex,b≠X.env.locals/\∀x c,X.env.cells.lookup x=some c->c≠b
 bs:∀b o,X.base.get? b=some o->X.s₀.heap.get? b=some o/\X.H₀ b=none
 nH:X.base.objs.size<=X.s₀.heap.objs.size
 qR:∀b o,X.base.get? b=some o->b∉X.ex
 va:∀b∈X.ex,b∉X.fs
 g0:X.s₀.heap.FunFrames X.base X.outer
 sJ:∀b∈X.fs,X.H₀ b=none
structure Inv(X:Cx)(pins:List (Addr×Obj))(σ:List (Option V))(H:Hp)(s:Shared):Prop where
 ok:X.Ok
 os:s.os=X.s₀.os
 bare:AllBare s.gens
 base:Un X.fs X.ex X.H₀ H X.s₀.heap s.heap
 loc:∃m,s.heap.Ns X.env.locals m/\∀(i:Nat) (x:Str) (v:V),X.N[i]?=some x->σ[i]?=some (some v)->Gv X.env.scope x->∃u,RelV v u/\Look X.env s.heap m x u
 cell:∀x c,X.env.cells.lookup x=some c->∃v,s.heap.IsCell c v
 free:H X.env.locals=none
 dX:∀x c,X.env.cells.lookup x=some c->H c=none
 pin:∀p∈X.pn++pins,s.heap.get? p.1=some p.2/\H p.1=none/\p.1≠X.env.locals/\p.1∉X.fs/\∀v,p.2.data≠.cell v
 aG:cG X.prog X.w H s.heap
 len:σ.length=X.N.length
section
variable {X:Cx}{pins:List (Addr×Obj)}{σ:List (Option V)}{H H':Hp}{s:Shared}{h':Heap}
theorem Cx.Ok.TJ(ok:X.Ok){b:Addr}{o:Obj}(e:X.base.get? b=some o):b∉X.fs:=λhb=>by
 have:=(ok.g0.mem hb).1
 rw[e] at this;cases this
theorem Inv.bs(I:Inv X pins σ H s):∀b o,X.base.get? b=some o->s.heap.get? b=some o/\H b=none:=λb o e =>⟨I.base.keep b o (I.ok.bs b o e).1 (I.ok.bs b o e).2 (I.ok.TJ e) (I.ok.qR b o e),I.base.free b o (I.ok.bs b o e).1 (I.ok.bs b o e).2 (I.ok.qR b o e)⟩
theorem Inv.bk(I:Inv X pins σ H s):∀b o,X.base.get? b=some o->s.heap.get? b=some o:=λb o e=>(I.bs b o e).1
theorem Inv.mod(I:Inv X pins σ H s):Mod X.K X.mg X.base:=I.ok.mod
theorem Inv.cD(I:Inv X pins σ H s):X.K.In s.heap:=I.ok.mod.sI.keeps I.bk
theorem Inv.lt(I:Inv X pins σ H s):X.env.locals<s.heap.objs.size:=let ⟨_,hn,_⟩:=I.loc;hn.lt
theorem Inv.sz(I:Inv X pins σ H s):X.s₀.heap.objs.size<=s.heap.objs.size:=aam I.ok.above (aaU I.lt)
theorem Inv.Ad(I:Inv X pins σ H s){a:Addr}(h:s.heap.objs.size<=a):a∉X.fs:=λhb=>by obtain⟨_,o,ho,_⟩:=I.ok.g0.mem hb;exact absurd (aaD (aag ho) (aam I.sz h)) (aaV _)
theorem Inv.lE(I:Inv X pins σ H s):∀x c,X.env.cells.lookup x=some c->c≠X.env.locals:=λx c e z=>by obtain⟨v,o,ho,hd⟩:=I.cell x c e;obtain⟨m,⟨o',es,ep,ho',nJ,_⟩,_⟩:=I.loc;rw[z,ho'] at ho;cases ho;rw[nJ] at hd;cases hd
theorem Inv.g0(I:Inv X pins σ H s):s.heap.FunFrames X.base X.outer:=by
 have all:∀(l:List Env),(∀b∈cj l,b∈X.fs)->X.s₀.heap.FunFrames X.base l->s.heap.FunFrames X.base l:=by
  intro l;induction l with
  |nil=>intro _ _;trivial
  |cons env r ih =>rintro hs ⟨hk,⟨L,o,hf,hn,ho,hd⟩,hr⟩;have hL:L∈X.fs:=hs L (by unfold cj;rw[ac',hf];exact aal);obtain⟨sl,e⟩:=I.base.slot L o ho (I.ok.sJ L hL) hL λz=>I.ok.va L z hL;exact⟨hk,⟨L,_,hf,hn,e,hd⟩,ih (λb hb=>hs b (by unfold cj;rw[ac',hf];exact aae _ hb)) hr⟩
 exact all X.outer (λ_ hb=>hb) I.ok.g0
theorem Inv.stack(I:Inv X pins σ H s):s.heap.FunFrames X.base X.stack:=by
 rcases I.ok.BB with e|⟨e,hf⟩
 ·rw[e];exact I.g0
 ·rw[e];obtain⟨m,hn,_⟩:=I.loc;refine .cons (by rw[I.ok.kind];decide) hf hn ?_ I.g0;exact Heap.get?_none_of_le (aam I.ok.nH I.ok.above)
theorem Inv.gE(I:Inv X pins σ H s):∀b∈cj X.stack,b∈X.env.locals::X.fs:=λb hb=>by
 rcases I.ok.BB with e|⟨e,hf⟩
 ·rw[e] at hb;exact aae _ hb
 ·rw[e] at hb;unfold cj at hb;rw[ac',hf] at hb;exact hb
theorem Inv.mU(I:Inv X pins σ H s):∀b∈cj X.stack,H b=none:=λb hb=>by
 rcases aah.mp (I.gE b hb) with e|hb
 ·rw[e];exact I.free
 ·obtain⟨_,o,ho,_⟩:=I.ok.g0.mem hb;exact I.base.free b o ho (I.ok.sJ b hb) λz=>I.ok.va b z hb
theorem Inv.step{g':Array GenState}{t':Nat}{d':Drawn}{ch:List Addr}(I:Inv X pins σ H s)
  (hch:∀b∈ch,(b∈X.ex\/X.s₀.heap.objs.size<=b)/\b≠X.env.locals/\(∀x c,X.env.cells.lookup x=some c->c≠b)/\∀p∈X.pn++pins,p.1≠b)
  (keep:∀b o,b≠X.env.locals->b∉X.fs->b∉ch->s.heap.get? b=some o->H b=none->h'.get? b=some o)
  (slot:∀b o,b≠X.env.locals->b∈X.fs->b∉ch->s.heap.get? b=some o->H b=none->∃sl,h'.get? b=some {o with slots:=sl}) (free:∀b o,b∉ch->s.heap.get? b=some o->H b=none->H' b=none)
  (there:∀b o,b∉ch->s.heap.get? b=some o->∃o',h'.get? b=some o')
  (eg:∀b xs,H b=some (.tup xs)->H' b=some (.tup xs)) (dW:∀b o u,H b=some (.gD o u)->H' b=some (.gD o u)) (eB:∀b ps,H b=some (.sG ps)->∃more,H' b=some (.sG (ps++more)))
  (ns:∀m,s.heap.Ns X.env.locals m->h'.Ns X.env.locals m) (aG:cG X.prog X.w H' h') (hg:AllBare g') :
  Inv X pins σ H' {s with heap:=h',gens:=g',drawn:=d',toks:=t' }:=by
 have neL:∀b o,X.s₀.heap.get? b=some o->b≠X.env.locals:=λb o e=>aar (aaD (aag e) I.ok.above);have neC:∀b o,X.s₀.heap.get? b=some o->b∉X.ex->b∉ch:=λb o e hx hb=>by
  rcases(hch b hb).1 with z|z
  ·exact hx z
  ·exact absurd (aaD (aag e) z) (aaV _)
 have cellK:∀x c,X.env.cells.lookup x=some c->∀v,s.heap.IsCell c v->h'.IsCell c v:=λx c e v ⟨o,ho,hd⟩=>by
  have BC:c∉ch:=λz=>(hch c z).2.2.1 x c e rfl;by_cases hc:c∈X.fs
  ·obtain⟨sl,q⟩:=slot c o (I.lE x c e) hc BC ho (I.dX x c e);exact⟨_,q,hd⟩
  ·exact⟨o,keep c o (I.lE x c e) hc BC ho (I.dX x c e),hd⟩
 refine⟨I.ok,I.os,hg,⟨λb o e n hb hx=>?_,λb o e n hb hx=>?_,λb o e n hx=>?_,λb o e hx=>?_,λb xs e=>eg b xs (I.base.eg b xs e),λb o xs e=>dW b o xs (I.base.dW b o xs e),λb ps e=>?_⟩,?_,λx c e=>?_,?_,λx c e=>?_,λp hp=>?_,aG,I.len⟩
 ·exact keep b o (neL b o e) hb (neC b o e hx) (I.base.keep b o e n hb hx) (I.base.free b o e n hx)
 ·obtain⟨sl,e1⟩:=I.base.slot b o e n hb hx;obtain⟨Bz,e2⟩:=slot b _ (neL b o e) hb (neC b o e hx) e1 (I.base.free b o e n hx);exact⟨Bz,e2⟩
 ·obtain⟨o',e1⟩:=I.base.there b o e hx;exact free b o' (neC b o e hx) e1 (I.base.free b o e n hx)
 ·obtain⟨o',e1⟩:=I.base.there b o e hx;exact there b o' (neC b o e hx) e1
 ·obtain⟨m1,e1⟩:=I.base.eB b ps e;obtain⟨m2,e2⟩:=eB b _ e1;exact⟨m1++m2,by rw[e2,adi]⟩
 ·obtain⟨m,hn,hl⟩:=I.loc;refine⟨m,ns m hn,λi x v e1 e2 e3=>?_⟩;obtain⟨u,r,l⟩:=hl i x v e1 e2 e3;refine⟨u,r,?_⟩;rcases l with l|⟨k,c,e,z⟩
  ·exact .inl l
  ·exact .inr ⟨k,c,e,cellK x c e _ z⟩
 ·obtain⟨v,z⟩:=I.cell x c e;exact⟨v,cellK x c e v z⟩
 ·obtain⟨m,⟨o,_,_,ho,_⟩,_⟩:=I.loc;exact free _ o (λz=>(hch _ z).2.1 rfl) ho I.free
 ·obtain⟨v,o,ho,hd⟩:=I.cell x c e;exact free c o (λz=>(hch c z).2.2.1 x c e rfl) ho (I.dX x c e)
 ·obtain⟨e,n,ne,nf,d⟩:=I.pin p hp;have BC:p.1∉ch:=λz=>(hch p.1 z).2.2.2 p hp rfl;exact⟨keep p.1 p.2 ne nf BC e n,free p.1 p.2 BC e n,ne,nf,d⟩
theorem Inv.un{t':Nat}(I:Inv X pins σ H s)(u:Un X.fs [] H H' s.heap h')(aG:cG X.prog X.w H' h'):Inv X pins σ H' {s with heap:=h',toks:=t' }:=by obtain⟨m,⟨o,es,ep,ho,r⟩,_⟩:=id I.loc;obtain⟨sl,hL⟩:=u.any ho I.free (by simp);exact I.step (g':=s.gens) (d':=s.drawn) (ch:=[]) (λ_ z=>nomatch z) (λb o _ hb _ e n=>u.keep b o e n hb (by simp)) (λb o _ hb _ e n=>u.slot b o e n hb (by simp)) (λb o _ e n=>u.free b o e n (by simp)) (λb o _ e=>u.there b o e (by simp)) u.eg u.dW u.eB (λm' hm=>by obtain⟨o',es',gS,ho',r'⟩:=hm;rw[ho] at ho';cases ho';exact⟨_,es',gS,hL,r'⟩) aG I.bare
theorem Inv.call{g':Array GenState}{t':Nat}{d':Drawn}{ch:List Addr}(I:Inv X pins σ H s)(u:Un (cj X.stack) ch H H' s.heap h')(aG:cG X.prog X.w H' h')(hg:AllBare g')
  (hch:∀b∈ch,(b∈X.ex\/X.s₀.heap.objs.size<=b)/\b≠X.env.locals/\(∀x c,X.env.cells.lookup x=some c->c≠b)/\∀p∈X.pn++pins,p.1≠b) :
  Inv X pins σ H' {s with heap:=h',gens:=g',drawn:=d',toks:=t' }:=by
 obtain⟨m,⟨o,es,ep,ho,r⟩,_⟩:=id I.loc;obtain⟨sl,hL⟩:=u.any ho I.free λz=>(hch _ z).2.1 rfl;exact I.step (ch:=ch) hch (λb o hL hb hc e n=>u.keep b o e n (λz=>(aah.mp (I.gE b z)).elim hL hb) hc) (λb o _ _ hc e n=>u.any e n hc) (λb o hc e n=>u.free b o e n hc) (λb o hc e=>u.there b o e hc) u.eg u.dW u.eB (λm' hm=>by obtain⟨o',es',gS,ho',r'⟩:=hm;rw[ho] at ho';cases ho';exact⟨_,es',gS,hL,r'⟩) aG hg
theorem Inv.turned{t':Nat}{it:Addr}(I:Inv X pins σ H s)(k:∀b o,b≠it->s.heap.get? b=some o->h'.get? b=some o)(hn:H it=none)(hL:it≠X.env.locals)
  (h1:it∈X.ex\/X.s₀.heap.objs.size<=it) (h2:∀x c,X.env.cells.lookup x=some c->c≠it) (h3:∀p∈X.pn++pins,p.1≠it):Inv X pins σ H {s with heap:=h',toks:=t' }:=by
 have QG:∀b u,H b=some u->b≠it:=λb u e z=>by rw[z,hn] at e;cases e
 refine I.step (g':=s.gens) (d':=s.drawn) (ch:=[it]) (λb hb=>?_) (λb o _ _ hc e _=>k b o (λz=>hc (by simp[z])) e) (λb o _ _ hc e _=>⟨o.slots,k b o (λz=>hc (by simp[z])) e⟩) (λ_ _ _ _ n=>n)
  (λb o hc e=>⟨o,k b o (λz=>hc (by simp[z])) e⟩) (λ_ _ e=>e) (λ_ _ _ e=>e) (λb ps e=>⟨#[],by rw[e];simp⟩) (λm hm=>?_) (λb u e=>?_) I.bare
 ·have e:b=it:=by simpa using hb
  subst e;exact⟨h1,hL,h2,h3⟩
 ·obtain⟨o,es,ep,ho,r⟩:=hm;exact⟨o,es,ep,k _ o (aaI hL) ho,r⟩
 ·refine(I.aG b u e).fO (λc v hc q=>k c v ?_ q) (λ_ q=>q) λ_ _ q=>q;rcases hc with z|z
  ·rw[z];exact QG b u e
  ·exact QG c _ z
theorem Inv.tok(I:Inv X pins σ H s)(t:Nat):Inv X pins σ H {s with toks:=t}:=I.un (h':=s.heap) (t':=t) Un.refl I.aG
theorem Inv.kept{t':Nat}(I:Inv X pins σ H s)(k:∀b u,s.heap.get? b=some u->h'.get? b=some u):Inv X pins σ H {s with heap:=h',toks:=t' }:=I.un (Un.kept k) (I.aG.kept k)
theorem Inv.laid{a:Addr}{o:HO}{t':Nat}(I:Inv X pins σ H s)(k:∀b u,s.heap.get? b=some u->h'.get? b=some u)(hp:s.heap.objs.size<=a)(new:bc X.prog X.w (upd H a o) h' a o) :
  Inv X pins σ (upd H a o) {s with heap:=h',toks:=t' }:=I.un (Un.laid k hp (I.aG.fresh hp)) (I.aG.laid k hp new)
theorem Inv.write{x e:Addr}{o:HO}{t':Nat}(I:Inv X pins σ H s)(mu:By (H x))(he:e=x\/H e=some (.own x))(k:∀b u,b≠e->s.heap.get? b=some u->h'.get? b=some u)(heo:∃u,h'.get? e=some u)
  (new:bc X.prog X.w (upd H x o) h' x o):Inv X pins σ (upd H x o) {s with heap:=h',toks:=t' }:=I.un (Un.write mu he k heo) (I.aG.write mu he k heo new)
theorem Inv.weak{σ':List (Option V)}(I:Inv X pins σ H s)(hl:σ'.length=σ.length)(w:∀(i:Nat) v,σ'[i]?=some (some v)->σ[i]?=some (some v)):Inv X pins σ' H s:=
 ⟨I.ok,I.os,I.bare,I.base,let ⟨m,hn,hl'⟩:=I.loc;⟨m,hn,λi x v e1 e2 e3=>hl' i x v e1 (w i v e2) e3⟩,I.cell,I.free,I.dX,I.pin,I.aG,hl.trans I.len⟩
theorem Inv.dI{Gw:List (Addr×Obj)}(I:Inv X pins σ H s)(h:∀p∈Gw,s.heap.get? p.1=some p.2/\H p.1=none/\p.1≠X.env.locals/\p.1∉X.fs/\∀v,p.2.data≠.cell v):Inv X Gw σ H s:=
 ⟨I.ok,I.os,I.bare,I.base,I.loc,I.cell,I.free,I.dX,λp hp=>(aas.mp hp).elim (λz=>I.pin p (aax _ z)) (h p),I.aG,I.len⟩
theorem oE{N:List Str}(hN:N.Nodup){i j:Nat}{x:Str}(a:N[i]?=some x)(b:N[j]?=some x):i=j:=by obtain⟨h1,e1⟩:=aaB.mp a;obtain⟨h2,e2⟩:=aaB.mp b;exact(ae7 hN).mp (e1.trans e2.symm)
theorem sL{M:Model}{A:Around}{E:Value->Shared->Prop}{i:Nat}{x:Str}{v:V}{u:Value}{Q:Unit->Shared->Prop}(I:Inv X pins σ H s)(hN:X.N.Nodup)(hi:X.N[i]?=some x)(hx:Loc X.env.scope x)(r:RelV v u)
  (h:∀s',Inv X pins (σ.set i (some v)) H s'->(∃a,Heap.SameBut a s.heap s'.heap/\(a=X.env.locals\/X.env.cells.lookup x=some a))->Q () s') (hf:X.fn x=true\/X.env.scope.names.lookup x=some .local:=by first|exact .inl rfl|exact .inr rfl|assumption):wpAny M A (storeName X.env x u) Q E s:=by
 obtain⟨m,hn,hl⟩:=id I.loc;have Es:(X.env.scope.kind==.class||(X.env.scope.kind==.module&&X.env.locals !=X.env.globals))=false:=by rw[I.ok.kind];rfl
 have Gx:i<σ.length:=by rw[I.len];exact(aaB.mp hi).1
 have lE:=I.lE;have tracked:∀{a:Addr} {h':Heap},(∃o,s.heap.get? a=some o/\H a=none)->Heap.SameBut a s.heap h'->cG X.prog X.w H h':=λ{a h'} ha hs b ob e=>by
  obtain⟨_,_,pI⟩:=ha;refine(I.aG b ob e).fO (λc w' hc q=>(hs.2 c ?_).trans q) (λ_ q=>q) λ_ _ q=>q;rintro rfl;rcases hc with rfl|hc
  ·rw[pI] at e;cases e
  ·rw[pI] at hc;cases hc
 rcases hx with hk|hk
 ·refine wpAny_storeName_local hk hn (λh' yG hs=>?_) Es;obtain⟨oL,_,_,QH,_⟩:=id hn;refine h _ ⟨I.ok,I.os,I.bare,⟨λb o e n hb hx=>?_,λb o e n hb hx=>?_,I.base.free,λb o e hx=>?_,I.base.eg,I.base.dW,I.base.eB⟩,⟨_,yG,λj y v' e1 e2 e3=>?_⟩,λy c e=>?_,I.free,I.dX,λp hp=>?_,tracked ⟨oL,QH,I.free⟩ hs,by simpa using I.len⟩ ⟨_,hs,.inl rfl⟩
  ·exact(hs.2 b (aar (aaD (aag e) I.ok.above))).trans (I.base.keep b o e n hb hx)
  ·obtain⟨sl,e1⟩:=I.base.slot b o e n hb hx;exact⟨sl,(hs.2 b (aar (aaD (aag e) I.ok.above))).trans e1⟩
  ·obtain⟨o',e1⟩:=I.base.there b o e hx;exact⟨o',(hs.2 b (aar (aaD (aag e) I.ok.above))).trans e1⟩
  ·by_cases hj:j=i
   ·subst hj;rw[hi] at e1;cases e1;rw[acJ Gx] at e2;cases e2;exact⟨u,r,.inl ⟨hk,by simp⟩⟩
   ·rw[acj (aaI hj)] at e2;obtain⟨u',r',q⟩:=hl j y v' e1 e2 e3;refine⟨u',r',?_⟩;rcases q with⟨k,e⟩|⟨k,c,e,z⟩
    ·refine .inl ⟨k,?_⟩
     have:y≠x:=λe=>hj (oE hN e1 (e▸hi))
     simp[this,e]
    ·exact .inr ⟨k,c,e,z.sameBut hs (lE y c e)⟩
  ·obtain⟨w',z⟩:=I.cell y c e;exact⟨w',z.sameBut hs (lE y c e)⟩
  ·obtain⟨e,n,ne,nf,d⟩:=I.pin p hp;exact⟨(hs.2 p.1 ne).trans e,n,ne,nf,d⟩
 ·have BD:X.fn x=true:=by
   rcases hf with z|z
   ·exact z
   ·rw[z] at hk;cases hk
  obtain⟨c,hc⟩:=I.ok.has x (.inl hk);obtain⟨w',z⟩:=I.cell x c hc;refine wpAny_storeName_cell I.ok.kind hk hc z (λh' BE hs=>?_);obtain⟨oc,QI,TK⟩:=id z;refine h {s with heap:=h' } ⟨I.ok,I.os,I.bare,⟨λb o e n hb hx=>?_,λb o e n hb hx=>?_,I.base.free,λb o e hx=>?_,I.base.eg,I.base.dW,I.base.eB⟩,⟨m,hn.sameBut hs (aaI (lE x c hc)),λj y v' e1 e2 e3=>?_⟩,λy c' e=>?_,I.free,I.dX,λp hp=>?_,tracked ⟨oc,QI,I.dX x c hc⟩ hs,by simpa using I.len⟩ ⟨c,hs,.inr hc⟩
  ·exact(hs.2 b (aar (aaD (aag e) (I.ok.yE x c BD hc)))).trans (I.base.keep b o e n hb hx)
  ·obtain⟨sl,e1⟩:=I.base.slot b o e n hb hx;exact⟨sl,(hs.2 b (aar (aaD (aag e) (I.ok.yE x c BD hc)))).trans e1⟩
  ·obtain⟨o',e1⟩:=I.base.there b o e hx;exact⟨o',(hs.2 b (aar (aaD (aag e) (I.ok.yE x c BD hc)))).trans e1⟩
  ·by_cases hj:j=i
   ·subst hj;rw[hi] at e1;cases e1;rw[acJ Gx] at e2;cases e2;exact⟨u,r,.inr ⟨.inl hk,c,hc,BE⟩⟩
   ·rw[acj (aaI hj)] at e2;obtain⟨u',r',q⟩:=hl j y v' e1 e2 e3;refine⟨u',r',?_⟩;rcases q with q|⟨k,c',e,z'⟩
    ·exact .inl q
    ·refine .inr ⟨k,c',e,z'.sameBut hs ?_⟩;rintro rfl;exact hj (oE hN e1 (I.ok.inj _ _ _ e hc▸hi))
  ·by_cases QJ:c'=c
   ·subst QJ;exact⟨_,BE⟩
   ·obtain⟨w2,z2⟩:=I.cell y c' e;exact⟨w2,z2.sameBut hs QJ⟩
  ·obtain⟨e,n,ne,nf,d⟩:=I.pin p hp;refine⟨(hs.2 p.1 ?_).trans e,n,ne,nf,d⟩;intro q;rw[q,QI] at e;have q':oc=p.2:=aat e;exact d w' (by rw[<-q'];exact TK)
theorem g4{M:Model}{A:Around}{E:Value->Shared->Prop}{i:Nat}{x:Str}{v:V}{u:Value}{Q:Unit->Shared->Prop}(I:Inv X pins σ H s)(hN:X.N.Nodup)(hi:X.N[i]?=some x)(hx:Loc X.env.scope x)(r:RelV v u)
  (h:∀s',Inv X pins (σ.set i (some v)) H s'->Q () s') (hf:X.fn x=true\/X.env.scope.names.lookup x=some .local:=by first|exact .inl rfl|exact .inr rfl|assumption):wpAny M A (storeName X.env x u) Q E s:=
 sL I hN hi hx r (λs' I' _=>h s' I') hf
theorem Inv.pJ{s':Shared}{ch:List Addr}(I:Inv X pins σ H s)(ho:s'.os=s.os)(u:Un (cj X.stack) ch H H' s.heap s'.heap)(aG:cG X.prog X.w H' s'.heap)(hg:AllBare s'.gens)
  (hch:∀b∈ch,(b∈X.ex\/X.s₀.heap.objs.size<=b)/\b≠X.env.locals/\(∀x c,X.env.cells.lookup x=some c->c≠b)/\∀p∈X.pn++pins,p.1≠b):Inv X pins σ H' s':=by
 obtain⟨h',g',d',t',o'⟩:=s';have e:o'=s.os:=ho;subst e;exact I.call (g':=g') (t':=t') (d':=d') u aG hg hch
end
abbrev XK:=Value->Option Addr->Hp->Prop
abbrev St:=List (Option V)
abbrev VK:=V->Hp->Prop
abbrev TE:=St->Hp->VK->Prop
abbrev TT:=St->Hp->(Bool->Hp->Prop)->Prop
abbrev TA:=St->Hp->(List V->Hp->Prop)->Prop
structure Ends where
 nx:St->Hp->Prop
 rt:VK
 bk:St->Hp->Prop:=λ_ _=>False
 ct:St->Hp->Prop:=λ_ _=>False
abbrev TS:=Ends->St->Hp->Prop
def EP(X:Cx)(pins:List (Addr×Obj))(σ:St)(Q:VK)(u:Value)(s':Shared):Prop:=∃v H',Inv X pins σ H' s'/\RelV v u/\Q v H'
def TP(X:Cx)(pins:List (Addr×Obj))(σ:St)(Q:Bool->Hp->Prop)(b:Bool)(s':Shared):Prop:=∃H',Inv X pins σ H' s'/\Q b H'
def AP(X:Cx)(pins:List (Addr×Obj))(σ:St)(Q:List V->Hp->Prop)(us:List Value)(s':Shared):Prop:=∃vs H',Inv X pins σ H' s'/\Vals vs us/\Q vs H'
def SP(X:Cx)(pins:List (Addr×Obj))(D:Ends)(f:Flow)(s':Shared):Prop:=
 match f with
 |.next=>∃σ' H',Inv X pins σ' H' s'/\D.nx σ' H'
 |.brk=>∃σ' H',Inv X pins σ' H' s'/\D.bk σ' H'
 |.cont=>∃σ' H',Inv X pins σ' H' s'/\D.ct σ' H'
 |.ret u=>∃v σ' H',Inv X pins σ' H' s'/\RelV v u/\D.rt v H'
def PE(X:Cx)(e:Expr)(t:TE):Prop:=
 ∀(pins:List (Addr×Obj)) (s:Shared) (σ:St) (H:Hp) (Q:VK),Inv X pins σ H s->t σ H Q->wpAny (model X.prog X.w) X.A (eval e X.env) (EP X pins σ Q) X.xe s
def PT(X:Cx)(e:Expr)(t:TT):Prop:=
 ∀(pins:List (Addr×Obj)) (s:Shared) (σ:St) (H:Hp) (Q:Bool->Hp->Prop),Inv X pins σ H s->t σ H Q->wpAny (model X.prog X.w) X.A (isTrue e X.env (eval e X.env)) (TP X pins σ Q) X.xe s
def PW(X:Cx)(e:Expr)(t:TT):Prop:=
 ∀(whole:Sem Value) (pins:List (Addr×Obj)) (s:Shared) (σ:St) (H:Hp) (Q:Bool->Hp->Prop),Inv X pins σ H s->t σ H Q->wpAny (model X.prog X.w) X.A (isTrue e X.env whole) (TP X pins σ Q) X.xe s
theorem PW.pt{X:Cx}{e:Expr}{t:TT}(h:PW X e t):PT X e t:=h _
def PA(X:Cx)(es:List Expr)(t:TA):Prop:=
 ∀(pos:Pos) (pins:List (Addr×Obj)) (s:Shared) (σ:St) (H:Hp) (Q:List V->Hp->Prop),Inv X pins σ H s->t σ H Q->wpAny (model X.prog X.w) X.A (spliced (backTo pos (starEach es X.env))) (AP X pins σ Q) X.xe s
def PS(X:Cx)(st:Stmt)(t:TS):Prop:=
 ∀(pins:List (Addr×Obj)) (s:Shared) (σ:St) (H:Hp) (D:Ends),Inv X pins σ H s->t D σ H->wpAny (model X.prog X.w) X.A (exec st X.env) (SP X pins D) X.xe s
def iq(X:Cx)(st:List Stmt)(t:TS):Prop:=
 ∀(pins:List (Addr×Obj)) (s:Shared) (σ:St) (H:Hp) (D:Ends),Inv X pins σ H s->t D σ H->wpAny (model X.prog X.w) X.A (execs st X.env) (SP X pins D) X.xe s
theorem aH{α:Type}{t:Sem α}{Q Q':α->Shared->Prop}{M:Model}{A:Around}{E:Value->Shared->Prop}{s:Shared}(h:wpAny M A t Q E s)(hQ:∀a s,Q a s->Q' a s):wpAny M A t Q' E s:=wpAny_mono h hQ λ_ _ x=>x
section
variable {X:Cx}
def Ae(i:Nat):TE:=λσ H Q=>∃v,σ[i]?=some (some v)/\Q v H
def tC(v:V):TE:=λ_ H Q=>Q v H
theorem Kh{i:Nat}{x:Str}{pos:Pos}(hN:X.N[i]?=some x)(hv:Gv X.env.scope x)(hd:(x==("__debug__" : Str))=false:=by decide)(hcd:(x==("__classdict__" : Str))=false:=by decide):PE X (.Name x pos) (Ae i):=by
 rintro pins s σ H Q I ⟨v,e,h⟩;obtain⟨m,hn,hl⟩:=I.loc;obtain⟨u,r,l⟩:=hl i x v hN e hv;have fin:EP X pins σ Q u s:=⟨v,H,I,r,h⟩
 rcases l with⟨hk,hm⟩|⟨hk,c,hc,iQ⟩
 ·exact afh (wpAny_loadName_local I.ok.kind hk hn hm fin) hd
 ·rcases hk with hk|hk
  ·exact afh (wpAny_loadName_cell I.ok.kind hk hc iQ fin) hd
  ·exact afh (wpAny_loadName_free I.ok.kind hk hc iQ fin hcd) hd
theorem ax{i j pos}:PE X (.Constant (.int i) j pos) (tC (.int i)):=λ_ _ _ H _ I h=>wpAny_Constant_int ⟨.int i,H,I.tok _,⟨_,rfl⟩,h⟩
theorem bS{b j pos}:PE X (.Constant (.bool b) j pos) (tC (.bl b)):=λ_ _ _ H _ I h=>Constant_bool ⟨.bl b,H,I,rfl,h⟩
theorem d6{j pos}:PE X (.Constant .none j pos) (tC .aN):=λ_ _ _ H _ I h=>Constant_none ⟨.aN,H,I,rfl,h⟩
theorem dc{x j pos}:PE X (.Constant (.str x) j pos) (tC (.str x)):=λ_ _ _ H _ I h=>Calls.Constant_str ⟨.str x,H,I.tok _,⟨_,rfl⟩,h⟩
def Gl(X:Cx)(x:Str):Prop:=X.env.kindOf x=some .globalImplicit
theorem gc{E:Value->Shared->Prop}{pins:List (Addr×Obj)}{s:Shared}{σ:St}{H:Hp}{x:Str}{u:Value}{pos:Pos}{Q:Value->Shared->Prop}(I:Inv X pins σ H s)(hg:Gl X x)(hm:X.mg x=some u)(h:Q u s)
  (hd:(x==("__debug__" : Str))=false:=by decide):wpAny (model X.prog X.w) X.A (eval (.Name x pos) X.env) Q E s:=
 adn I.ok.kind hg (Calls.loadGlobal_global (by rw[I.ok.glob];exact I.mod.glob.keeps I.bk) hm h) hd
theorem d7{E:Value->Shared->Prop}{pins:List (Addr×Obj)}{s:Shared}{σ:St}{H:Hp}{x:Str}{u:Value}{pos:Pos}{Q:Value->Shared->Prop}(I:Inv X pins σ H s)(hg:Gl X x)(hm:X.mg x=none)(hv:bootBuiltins x=some u)(h:Q u s)
  (hn:x≠"__name__" := by decide) (hd:(x==("__debug__" : Str))=false:=by decide):wpAny (model X.prog X.w) X.A (eval (.Name x pos) X.env) Q E s:=by
 obtain⟨mb,h1,h2⟩:=I.mod.blt;exact adn I.ok.kind hg (Calls.loadGlobal_builtin (by rw[I.ok.glob];exact I.mod.glob.keeps I.bk) hm (by rw[I.ok.blt];exact h1.keeps I.bk) ((h2 x hn).trans hv) h) hd
theorem g5{x:Str}{v:V}{u:Value}{pos:Pos}(hg:Gl X x)(hm:X.mg x=some u)(r:RelV v u)(hd:(x==("__debug__" : Str))=false:=by decide):PE X (.Name x pos) (tC v):=
 λ_ _ _ H _ I h=>gc I hg hm ⟨v,H,I,r,h⟩ hd
theorem cq{x:Str}{v:V}{u:Value}{pos:Pos}(hg:Gl X x)(hm:X.mg x=none)(hv:bootBuiltins x=some u)(r:RelV v u)(hn:x≠"__name__" := by decide)(hd:(x==("__debug__" : Str))=false:=by decide):PE X (.Name x pos) (tC v):=
 λ_ _ _ H _ I h=>d7 I hg hm hv ⟨v,H,I,r,h⟩ hn hd
variable {a b:Expr}{ta tb:TE}{pos:Pos}
def PC(X:Cx)(op:CmpOp)(a b:Expr)(t:TE):Prop:=
 ∀(pins:List (Addr×Obj)) (s:Shared) (σ:St) (H:Hp) (Q:VK),Inv X pins σ H s->t σ H Q ->
  wpAny (model X.prog X.w) X.A (eval a X.env) (λv s₁=>wpAny (model X.prog X.w) X.A (eval b X.env) (λu s₂=>wpAny (model X.prog X.w) X.A (compareOp op v u) (EP X pins σ Q) X.xe s₂) X.xe s₁) X.xe s
theorem Et(b:Expr){op:CmpOp}(h:op≠.In)(h2:op≠.NotIn):behindInMarks op b=false:=by
 have e1:(op==CmpOp.In)=false:=by cases op<;>first|rfl|exact absurd rfl h
 have e2:(op==CmpOp.NotIn)=false:=by cases op<;>first|rfl|exact absurd rfl h2
 cases b<;>simp[behindInMarks,e1,e2]
def tB(t:TE):TT:=λσ H Q=>t σ H λx H1=>∃c,x=.bl c/\Q c H1
theorem Ki{op:CmpOp}{t:TE}(h:PC X op a b t)(h1:behindInMarks op b=false:=by first|exact Et _ (by decide) (by decide)|rfl):PT X (.Compare a [op] [b] pos) (tB t):=by intro pins s σ H Q I hw;refine ad4 (aH (h pins s σ H _ I hw) λv s1 h1=>aH h1 λu s2 h2=>aH h2 λc s3 ⟨x,H1,I1,r1,q1⟩=>?_) h1;obtain⟨d,rfl,q⟩:=q1;cases r1;exact wpAny_truthy_bool ⟨H1,I1,q⟩
theorem bg{e:Expr}{t:TE}(h:PE X e t)(he:∀whole,isTrue e X.env whole=(do let v <-whole;standAt e.pos;holding [v] (truthy v)):=by intro _;rfl):PT X e (tB t):=by intro pins s σ H Q I hw;refine isTrue_plain (aH (h pins s σ H _ I hw) λv s1 ⟨x,H1,I1,r1,q1⟩=>?_) (he _);obtain⟨d,rfl,q⟩:=q1;cases r1;exact wpAny_truthy_bool ⟨H1,I1,q⟩
variable {tA Gy:TT}{rest:List Expr}
def TL(t u:TT):TT:=λσ H Q=>t σ H λc H1=>if c=true then u σ H1 Q else Q false H1
def VY(t u:TT):TT:=λσ H Q=>t σ H λc H1=>if c=true then Q true H1 else u σ H1 Q
def TM(t:TT):TT:=λσ H Q=>t σ H λc H1=>Q (!c) H1
theorem iT(ha:PT X a tA):PW X (.BoolOp .And [a] pos) tA:=by
 intro wh pins s σ H Q I h;refine isTrue_and (aH (ha pins s σ H Q I h) λc s1 e=>?_);cases c with
 |true=>exact isTrue_and_nil e
 |false=>exact e
theorem de(ha:PT X a tA):PW X (.BoolOp .Or [a] pos) tA:=by
 intro wh pins s σ H Q I h;refine isTrue_or (aH (ha pins s σ H Q I h) λc s1 e=>?_);cases c with
 |false=>exact isTrue_or_nil e
 |true=>exact e
theorem iW(ha:PT X a tA)(hb:PW X (.BoolOp .And (b::rest) pos) Gy):PW X (.BoolOp .And (a::b::rest) pos) (TL tA Gy):=by
 intro wh pins s σ H Q I h;refine isTrue_and (aH (ha pins s σ H _ I h) λc s1 ⟨H1,I1,q1⟩=>?_);cases c with
 |true=>exact hb wh pins s1 σ H1 Q I1 q1
 |false=>exact⟨H1,I1,q1⟩
theorem dA(ha:PT X a tA)(hb:PW X (.BoolOp .Or (b::rest) pos) Gy):PW X (.BoolOp .Or (a::b::rest) pos) (VY tA Gy):=by
 intro wh pins s σ H Q I h;refine isTrue_or (aH (ha pins s σ H _ I h) λc s1 ⟨H1,I1,q1⟩=>?_);cases c with
 |true=>exact⟨H1,I1,q1⟩
 |false=>exact hb wh pins s1 σ H1 Q I1 q1
theorem bp(ha:PT X a tA):PT X (.UnaryOp .Not a pos) (TM tA):=by intro pins s σ H Q I h;exact isTrue_not (ha pins s σ H (λc H1=>Q (!c) H1) I h)
def OS(ta tb:TE):TE:=λσ H Q=>ta σ H λx H1=>∃c,x=.bl c/\if c=true then tb σ H1 Q else Q (.bl false) H1
def OT(ta:TE):TE:=λσ H Q=>ta σ H λx H1=>∃c,x=.bl c/\Q (.bl (!c)) H1
theorem fk{op}{t:TE}(h:PE X a t):PE X (.BoolOp op [a] pos) t:=λpins s σ H Q I hw=>BoolOp_one (h pins s σ H Q I hw)
theorem eM(ha:PE X a ta)(hb:PE X (.BoolOp .And (b::rest) pos) tb):PE X (.BoolOp .And (a::b::rest) pos) (OS ta tb):=by
 intro pins s σ H Q I h;refine BoolOp_and (aH (ha pins s σ H _ I h) λv s1 ⟨x,H1,I1,r1,q1⟩=>?_);obtain⟨c,rfl,q1⟩:=q1;cases r1;refine wpAny_truthy_bool ?_;cases c with
 |true=>exact hb pins s1 σ H1 Q I1 q1
 |false=>exact⟨.bl false,H1,I1,rfl,q1⟩
theorem BF(ha:PE X a ta):PE X (.UnaryOp .Not a pos) (OT ta):=by intro pins s σ H Q I h;refine UnaryOp_ (aH (ha pins s σ H _ I h) λv s1 ⟨x,H1,I1,r1,q1⟩=>?_);obtain⟨c,rfl,q1⟩:=q1;cases r1;exact not_of (wpAny_truthy_bool ⟨.bl (!c),H1,I1,rfl,q1⟩)
def VZ(t:TT)(ta tb:TE):TE:=λσ H Q=>t σ H λc H1=>if c=true then ta σ H1 Q else tb σ H1 Q
theorem Eu{c:Expr}(hc:PT X c tA)(ha:PE X a ta)(hb:PE X b tb):PE X (.IfExp c a b pos) (VZ tA ta tb):=by
 intro pins s σ H Q I h;refine wpAny_IfExp (aH (hc pins s σ H _ I h) λd s1 ⟨H1,I1,q1⟩=>?_);cases d with
 |true=>exact ha pins s1 σ H1 Q I1 q1
 |false=>exact hb pins s1 σ H1 Q I1 q1
end
def ar(K:PySem.W.Frag)(H:Hp)(a:Addr)(xs:List V):Prop:=
 Rd H a (.lst xs) \/
  ∃(o:Obj) (its:Array Value) (n:Nat),K.lookup a=some o/\o.cls=.type "list" /\ o.dict=none/\o.data=.seq its n/\its.size<=sizeLine/\Vals xs its.toList
def aZ(K:PySem.W.Frag)(H:Hp)(a:Addr)(xs:List V):Prop:=
 Rd H a (.tup xs) \/
  ∃(o:Obj) (its:Array Value) (n:Nat),K.lookup a=some o/\o.cls=.type "tuple" /\ o.data=.seq its n/\its.size<=sizeLine/\Vals xs its.toList
def TN:Value->Option V
 |.none=>some .aN
 |.bool b=>some (.bl b)
 |.int i _=>some (.int i)
 |.str x _=>some (.str x)
 |.bytes b _=>some (.jq b)
 |.float b _=>some (.lD b)
 |.ref a=>some (.ref a)
 |.type n=>some (.ty n)
 |_=>none
theorem RelV.abs{x:V}{u:Value}(r:RelV x u):TN u=some x:=by
 cases x with
 |aN=>cases r;rfl
 |bl _=>cases r;rfl
 |int _=>obtain⟨t,rfl⟩:=r;rfl
 |str _=>obtain⟨t,rfl⟩:=r;rfl
 |jq _=>obtain⟨t,rfl⟩:=r;rfl
 |lD _=>obtain⟨t,rfl⟩:=r;rfl
 |ref _=>cases r;rfl
 |ty _=>cases r;rfl
theorem RelV.inj{x y:V}{u:Value}(r:RelV x u)(q:RelV y u):x=y:=aat (r.abs.symm.trans q.abs)
theorem Vals.inj:∀{xs ys:List V} {us:List Value},Vals xs us->Vals ys us->xs=ys
 |_,_,_,.nil,.nil=>rfl
 |_,_,_,.cons r t,.cons r' t'=>by rw[r.inj r',Vals.inj t t']
section
variable {X:Cx}{pins:List (Addr×Obj)}{σ:St}{H:Hp}{s:Shared}{a:Addr}{xs ys:List V}
theorem ar.of{K:PySem.W.Frag}(h:H a=some (.lst xs)):ar K H a xs:=.inl (.inl h)
theorem aZ.of{K:PySem.W.Frag}(h:H a=some (.tup xs)):aZ K H a xs:=.inl (.inl h)
theorem Inv.list(I:Inv X pins σ H s)(h:ar X.K H a xs):∃its:List Value,Vals xs its/\PlainL s.heap a its.toArray/\xs.length<=sizeLine:=by
 rcases h with h|⟨o,its,n,hk,hc,hd,hs,hz,r⟩
 ·obtain⟨z,its,n,r,e⟩:=h.ok I.aG;exact⟨its,r,⟨_,n,e,rfl,rfl,rfl⟩,z⟩
 ·refine⟨its.toList,r,⟨o,n,I.cD a o hk,hc,hd,by simpa using hs⟩,?_⟩;have e:=r.length;simp only[aau] at e;omega
theorem Inv.tuple(I:Inv X pins σ H s)(h:aZ X.K H a xs):∃its:List Value,Vals xs its/\IsTup s.heap a its.toArray/\xs.length<=sizeLine:=by
 rcases h with h|⟨o,its,n,hk,hc,hs,hz,r⟩
 ·obtain⟨z,its,r,p⟩:=h.ok I.aG;exact⟨its,r,p,z⟩
 ·refine⟨its.toList,r,⟨o,I.cD a o hk,hc,n,by simpa using hs⟩,?_⟩;have e:=r.length;simp only[aau] at e;omega
theorem Inv.vb(I:Inv X pins σ H s)(h:ar X.K H a xs)(h':ar X.K H a ys):xs=ys:=by
 obtain⟨its,r,⟨o,n,e,_,_,d⟩,_⟩:=I.list h;obtain⟨its',r',⟨o',n',e',_,_,d'⟩,_⟩:=I.list h';rw[e] at e';cases e';rw[d] at d';injection d' with d1 _
 have:its=its':=by simpa using congrArg Array.toList d1
 subst this;exact r.inj r'
theorem Inv.BG(I:Inv X pins σ H s)(h:aZ X.K H a xs)(h':aZ X.K H a ys):xs=ys:=by
 obtain⟨its,r,⟨o,e,_,n,d⟩,_⟩:=I.tuple h;obtain⟨its',r',⟨o',e',_,n',d'⟩,_⟩:=I.tuple h';rw[e] at e';cases e';rw[d] at d';injection d' with d1 _
 have:its=its':=by simpa using congrArg Array.toList d1
 subst this;exact r.inj r'
end
abbrev Cx.fQ(X:Cx)(E:Value->Shared->Prop):Cx:={X with xe:=E}
abbrev Cx.nM(X:Cx):Cx:=X.fQ λ_ _=>False
theorem Cx.Ok.fQ{X:Cx}(ok:X.Ok)(E:Value->Shared->Prop):(X.fQ E).Ok:=
 ⟨ok.mod,ok.kind,ok.glob,ok.blt,ok.above,ok.inj,ok.has,ok.yE,ok.hd,ok.frames,ok.BB,ok.yF,ok.bs,ok.nH,ok.qR,ok.va,ok.g0,ok.sJ⟩
theorem Cx.Ok.dJ{X:Cx}{E:Value->Shared->Prop}(ok:(X.fQ E).Ok):X.Ok:=
 ⟨ok.mod,ok.kind,ok.glob,ok.blt,ok.above,ok.inj,ok.has,ok.yE,ok.hd,ok.frames,ok.BB,ok.yF,ok.bs,ok.nH,ok.qR,ok.va,ok.g0,ok.sJ⟩
section
variable {X:Cx}{pins:List (Addr×Obj)}{σ:St}{H:Hp}{s:Shared}{E:Value->Shared->Prop}
theorem Inv.fQ(I:Inv X pins σ H s)(E:Value->Shared->Prop):Inv (X.fQ E) pins σ H s:=⟨I.ok.fQ E,I.os,I.bare,I.base,I.loc,I.cell,I.free,I.dX,I.pin,I.aG,I.len⟩
theorem Inv.dJ(I:Inv (X.fQ E) pins σ H s):Inv X pins σ H s:=⟨I.ok.dJ,I.os,I.bare,I.base,I.loc,I.cell,I.free,I.dX,I.pin,I.aG,I.len⟩
theorem SP.dJ{D:Ends}{f:Flow}{s':Shared}(h:SP (X.fQ E) pins D f s'):SP X pins D f s':=by
 cases f with
 |next=>obtain⟨σ',H',I,q⟩:=h;exact⟨σ',H',I.dJ,q⟩
 |brk=>obtain⟨σ',H',I,q⟩:=h;exact⟨σ',H',I.dJ,q⟩
 |cont=>obtain⟨σ',H',I,q⟩:=h;exact⟨σ',H',I.dJ,q⟩
 |ret u=>obtain⟨v,σ',H',I,r,q⟩:=h;exact⟨v,σ',H',I.dJ,r,q⟩
theorem iq.nM{st:List Stmt}{t:TS}(h:iq X.nM st t):iq X st t:=λpins s σ H D I hw =>wpAny_mono (h pins s σ H D (I.fQ _) hw) (λ_ _ q=>q.dJ) λ_ _ z=>False.elim z
end
section
variable {X:Cx}{st:Stmt}{rest:List Stmt}{t u:TS}{e:Expr}{te:TE}{pos:Pos}
def OU:TS:=λD σ H=>D.nx σ H
def Kj(t u:TS):TS:=λD σ H=>t {D with nx:=u D} σ H
theorem aR:iq X [] OU:=λ_ _ σ H _ I h=>wpAny_execs_nil ⟨σ,H,I,h⟩
theorem aj(h1:PS X st t)(h2:iq X rest u):iq X (st::rest) (Kj t u):=by
 intro pins s σ H D I h;refine wpAny_execs_cons (aH (h1 pins s σ H {D with nx:=u D} I h) λf s1 q=>?_);cases f with
 |next =>obtain⟨σ',H',I',q⟩:=q;exact h2 pins s1 σ' H' D I' q
 |ret v=>exact q
 |brk=>exact q
 |cont=>exact q
theorem ai(h1:PS X st t):iq X [st] t:=by
 intro pins s σ H D I h;refine wpAny_execs_cons (aH (h1 pins s σ H D I h) λf s1 q=>?_);cases f with
 |next=>exact wpAny_execs_nil q
 |ret v=>exact q
 |brk=>exact q
 |cont=>exact q
theorem Inv.quiet{pins:List (Addr×Obj)}{σ:St}{H:Hp}{s:Shared}(I:Inv X pins σ H s):interactive X.env=false:=by simp[interactive,I.ok.kind]
def OV(te:TE):TS:=λD σ H=>te σ H λ_ H1=>D.nx σ H1
theorem cb(he:PE X e te)(hs:swapsWith e none pos.line X.env=pure false:=by rfl):PS X (.Expr e pos) (OV te):=by intro pins s σ H D I h;exact wpAny_Expr_any (aH (he pins s σ H _ I h) λv s1 ⟨x,H1,I1,r1,q1⟩=>⟨σ,H1,I1,q1⟩) I.quiet hs
def TQ(te:TE):TS:=λD σ H=>te σ H D.rt
theorem aB(he:PE X e te):PS X (.Return (some e) pos) (TQ te):=by intro pins s σ H D I h;exact wpAny_Return_some (aH (he pins s σ H _ I h) λv s1 ⟨x,H1,I1,r1,q1⟩=>⟨x,σ,H1,I1,r1,q1⟩)
def TU(c:TT)(t u:TS):TS:=λD σ H=>c σ H λb H1=>if b=true then t D σ H1 else u D σ H1
theorem ba{c:Expr}{a b:List Stmt}{tc:TT}(hc:PT X c tc)(ha:iq X a t)(hb:iq X b u):PS X (.If c a b pos) (TU tc t u):=by
 intro pins s σ H D I h;refine wpAny_If (aH (hc pins s σ H _ I h) λd s1 ⟨H1,I1,q1⟩=>?_);cases d with
 |true=>exact ha pins s1 σ H1 D I1 q1
 |false=>exact hb pins s1 σ H1 D I1 q1
def Kk:TS:=λ_ _ _=>False
theorem iX:PS X st Kk:=λ_ _ _ _ _ _ h=>h.elim
end
abbrev TG:=V->St->Hp->(St->Hp->Prop)->Prop
abbrev lF:=List V->St->Hp->(St->Hp->Prop)->Prop
def PG(X:Cx)(target:Expr)(t:TG):Prop:=
 ∀(pins:List (Addr×Obj)) (s:Shared) (σ:St) (H:Hp) (v:V) (u:Value) (Q:St->Hp->Prop),Inv X pins σ H s->RelV v u->t v σ H Q ->
  wpAny (model X.prog X.w) X.A (assign target X.env u) (λ_ s'=>∃σ' H',Inv X pins σ' H' s'/\Q σ' H') X.xe s
def Gz(X:Cx)(ts:List Expr)(t:lF):Prop:=
 ∀(pins:List (Addr×Obj)) (s:Shared) (σ:St) (H:Hp) (vs:List V) (us:List Value) (Q:St->Hp->Prop),Inv X pins σ H s->Vals vs us->t vs σ H Q ->
  wpAny (model X.prog X.w) X.A (assignInOrder ((assignEach ts X.env).map (·.2)) us) (λ_ s'=>∃σ' H',Inv X pins σ' H' s'/\Q σ' H') X.xe s
abbrev Ew:=V->V->V->Hp->(Hp->Prop)->Prop
def Kl(X:Cx)(t:Ew):Prop:=
 ∀(pins:List (Addr×Obj)) (s:Shared) (σ:St) (H:Hp) (o i v:V) (ov iv u:Value) (Q:Hp->Prop),Inv X pins σ H s->RelV o ov->RelV i iv->RelV v u->t o i v H Q ->
  wpAny (model X.prog X.w) X.A (setItem ov iv u) (λ_ s'=>∃H',Inv X pins σ H' s'/\Q H') X.xe s
abbrev GD:=V->V->Hp->VK->Prop
def QK(X:Cx)(op:Operator)(t:GD):Prop:=
 ∀(pins:List (Addr×Obj)) (s:Shared) (σ:St) (H:Hp) (x y:V) (v u:Value) (Q:VK),Inv X pins σ H s->RelV x v->RelV y u->t x y H Q ->
  wpAny (model X.prog X.w) X.A (inplaceOp op v u) (EP X pins σ Q) X.xe s
section
variable {X:Cx}{pos:Pos}
def bF(i:Nat):TG:=λv σ H Q=>Q (σ.set i (some v)) H
theorem aI{i:Nat}{x:Str}(hN:X.N.Nodup)(hi:X.N[i]?=some x)(hx:Loc X.env.scope x)(hf:X.fn x=true\/X.env.scope.names.lookup x=some .local:=by first|exact .inl rfl|exact .inr rfl|assumption):PG X (.Name x pos) (bF i):=by intro pins s σ H v u Q I r h;exact aeO (g4 I hN hi hx r (λs' I'=>⟨_,H,I',h⟩) hf)
def qS:lF:=λvs σ H Q=>vs=[]/\Q σ H
def jr(t:TG)(u:lF):lF:=λvs σ H Q=>∃v r,vs=v::r/\t v σ H λσ' H'=>u r σ' H' Q
theorem gf:Gz X [] qS:=by rintro pins s σ H vs us Q I r ⟨e,h⟩;subst e;cases r;exact assignInOrder_nil ⟨σ,H,I,h⟩
theorem bU{e:Expr}{es:List Expr}{t:TG}{u:lF}(h1:PG X e t)(h2:Gz X es u)
  (hs:(assignEach (e::es) X.env).map (·.2)=assign e X.env::(assignEach es X.env).map (·.2):=by rfl):Gz X (e::es) (jr t u):=by
 rintro pins s σ H vs us Q I r ⟨v,vr,e1,h⟩;subst e1;cases r with
 |cons r rr =>rw[hs];refine assignInOrder_cons (aH (h1 pins s σ H _ _ _ I r h) λ_ s1 ⟨σ1,H1,I1,q1⟩=>?_);exact h2 pins s1 σ1 H1 _ _ Q I1 rr q1
def Af(K:PySem.W.Frag)(n:Nat)(t:lF):TG:=λv σ H Q=>∃a xs,v=.ref a/\aZ K H a xs/\xs.length=n/\t xs σ H Q
theorem ir{es:List Expr}{k:Nat}{t:lF}{n:Nat}(hc:X.calm=true)(h:Gz X es t)
  (hn:(assignEach es X.env).length=n:=by rfl) (hst:(assignEach es X.env).findIdx? (·.1)=none:=by rfl):PG X (.Tuple es k pos) (Af X.K n t):=by
 rintro pins s σ H v u Q I r ⟨a,xs,e1,hq,hl,hw⟩;subst e1;cases r;obtain⟨its,rv,ht,hz⟩:=I.tuple hq;refine assign_Tuple_tuple (I.ok.hd hc) ht (by simp[hn,<-hl,rv.length]) hst λh' hx=>?_;have I1:Inv X pins σ H {s with heap:=h' }:=I.kept (t':=s.toks) λb o e=>hx b o (aar (aag e)) e;exact h pins _ σ H xs _ Q I1 (by simpa using rv) hw
def TV(to ti:TE)(t:Ew):TG:=λv σ H Q=>to σ H λo H1=>ti σ H1 λi H2=>t o i v H2 λH3=>Q σ H3
theorem BH{o i:Expr}{to ti:TE}{t:Ew}(ho:PE X o to)(hi:PE X i ti)(hs:Kl X t)
  (ha:∀v,assign (.Subscript o i pos) X.env v=(do
   let ov <-holding [v] (eval o X.env)
   let iv <-holding [v,ov] (eval i X.env)
   standAt pos
   holding [v,ov,iv] (setItem ov iv v)
   release [v,ov,iv] []):=by intro _;rfl):PG X (.Subscript o i pos) (TV to ti t):=by
 intro pins s σ H v u Q I r h;rw[ha];refine wpAny_bind (wpAny_holding (aH (ho pins s σ H _ I h) λov s1 ⟨x,H1,I1,r1,q1⟩=>?_));refine wpAny_bind (wpAny_holding (aH (hi pins s1 σ H1 _ I1 q1) λiv s2 ⟨y,H2,I2,r2,q2⟩=>?_));refine wpAny_bind (wpAny_standAt (wpAny_bind (wpAny_holding (aH (hs pins s2 σ H2 x y v ov iv u _ I2 r1 r2 r q2) λ_ s3 ⟨H3,I3,q3⟩=>?_))));exact wpAny_release ⟨σ,H3,I3,q3⟩
def Ag(te:TE)(g:TG):TS:=λD σ H=>te σ H λx H1=>g x σ H1 D.nx
theorem vc{tg e:Expr}{te:TE}{g:TG}(he:PE X e te)(hg:PG X tg g)(hs:swapsWithSole [tg] e pos.line X.env=pure false:=by rfl)(hw:swappedStores [tg] e X.env=pure none:=by rfl)
  (h1:(assignEach [tg] X.env).map (·.2)=[assign tg X.env]:=by rfl):PS X (.Assign [tg] e pos) (Ag te g):=by
 intro pins s σ H D I h;refine wpAny_Assign_stores (aH (he pins s σ H _ I h) λv s1 ⟨x,H1,I1,r1,q1⟩=>?_) hs hw;rw[h1];exact aH (hg pins s1 σ H1 x v _ I1 r1 q1) λ_ s2 q=>q
theorem aM{i:Nat}{x:Str}{e:Expr}{te:TE}{pos':Pos}(hN:X.N.Nodup)(hi:X.N[i]?=some x)(hx:Loc X.env.scope x)(he:PE X e te)(hs:swapsWith e (some (.Name x pos')) pos.line X.env=pure false:=by rfl)(hf:X.fn x=true\/X.env.scope.names.lookup x=some .local:=by first|exact .inl rfl|exact .inr rfl|assumption) :
  PS X (.Assign [.Name x pos'] e pos) (Ag te (bF i)):=by
 intro pins s σ H D I h;refine aeP (aH (he pins s σ H _ I h) λv s1 ⟨y,H1,I1,r1,q1⟩=>?_) hs;exact g4 I1 hN hi hx r1 (λs2 I2=>⟨_,H1,I2,q1⟩) hf
def TY(i j:Nat)(ta:TA):TS:=λD σ H=>ta σ H λvs H1=>∃v w,vs=[v,w]/\D.nx ((σ.set i (some v)).set j (some w)) H1
theorem Km{i j:Nat}{x y:Str}{a b:Expr}{ta:TA}{px py pt:Pos}{kt k2 GG}(hc:X.calm=true)(hN:X.N.Nodup)(hi:X.N[i]?=some x)(hj:X.N[j]?=some y)(hij:i≠j)
  (hx:X.env.scope.names.lookup x=some .local) (hy:X.env.scope.names.lookup y=some .local) (ha:PA X [a,b] ta)
  (hw:swappedStores [.Tuple [.Name x px,.Name y py] kt pt] (.Tuple [a,b] k2 GG) X.env=pure (some [x,y]))
  (hs:swapsWithSole [.Tuple [.Name x px,.Name y py] kt pt] (.Tuple [a,b] k2 GG) pos.line X.env=pure false:=by rfl) :
  PS X (.Assign [.Tuple [.Name x px,.Name y py] kt pt] (.Tuple [a,b] k2 GG) pos) (TY i j ta):=by
 intro pins s σ H D I h;rw[exec_Assign_arm];refine wpAny_bind (wpAny_standAt ?_);rw[hs];refine wpAny_bind (wpAny_pure ?_);rw[if_neg (by decide)];refine wpAny_bind (Tuple_ (aH (ha _ pins s σ H _ I h) λus s1 ⟨vs,H1,I1,r1,q1⟩=>?_));obtain⟨v,w,e1,q1⟩:=q1;subst e1;obtain⟨u1,u2,rfl,rv,lG⟩:∃u1 u2,us=[u1,u2]/\RelV v u1/\RelV w u2:=by
  cases r1 with
  |cons p q=>
   cases q with
   |cons p' q' =>cases q';exact⟨_,_,rfl,p,p'⟩
 refine wpAny_newObj_type ?_ (by show 2<=sizeLine;decide);have I2:Inv X pins σ H1 {s1 with heap:=s1.heap.push {cls:=.type "tuple",data:=.seq [u1,u2].toArray} }:=I1.kept (t':=s1.toks) λb o e=>aab _ e;rw[hw];refine wpAny_bind (wpAny_pure ?_);show wpAny (model X.prog X.w) X.A (do rule "assign.swapped-stores";let items <-unpackItems (.ref s1.heap.objs.size) 2 none;assignInOrder [λv=>bindName X.env y v,λv=>bindName X.env x v] items.reverse;pure Flow.next) _ _ _
 refine wpAny_bind (wpAny_rule (wpAny_bind (unpackItems_tuple (items:=#[u1,u2]) (I.ok.hd hc) (agn s1.heap _) λh' hx'=>?_)));have I3:=I2.kept (h':=h') (t':=s1.toks) λb o e=>hx' b o (aar (aag e)) e;show wpAny _ _ (assignInOrder [λv=>bindName X.env y v,λv=>bindName X.env x v] [u2,u1]>>=λ_=>pure Flow.next) _ _ _
 refine wpAny_bind (assignInOrder_cons (wpAny_bindName (g4 I3 hN hj (.inl hy) lG (λs2 I4=>?_) (.inr hy))));refine assignInOrder_cons (wpAny_bindName (g4 I4 hN hi (.inl hx) rv (λs3 I5=>assignInOrder_nil (wpAny_pure ?_)) (.inr hx)));rw[List.set_comm _ _ (aaI hij)] at I5;exact⟨_,H1,I5,q1⟩
def TZ(i:Nat)(te:TE)(ti:GD):TS:=λD σ H=>∃x,σ[i]?=some (some x)/\te σ H λy H1=>ti x y H1 λz H2=>D.nx (σ.set i (some z)) H2
theorem Kn{i:Nat}{x:Str}{e:Expr}{te:TE}{op:Operator}{ti:GD}{pos':Pos}(hN:X.N.Nodup)(hi:X.N[i]?=some x)(hx:Loc X.env.scope x)(he:PE X e te)(ho:QK X op ti)(hf:X.fn x=true\/X.env.scope.names.lookup x=some .local:=by first|exact .inl rfl|exact .inr rfl|assumption) :
  PS X (.AugAssign (.Name x pos') op e pos) (TZ i te ti):=by
 rintro pins s σ H D I ⟨v,e1,h⟩;obtain⟨m,hn,hl⟩:=I.loc;have V0:Gv X.env.scope x:=by rcases hx with k|k;exact .inl k;exact .inr (.inl k)
 obtain⟨u,r,l⟩:=hl i x v hi e1 V0;refine wpAny_AugAssign_Name ?_;have go:wpAny (model X.prog X.w) X.A (eval e X.env) (λw s₂=>wpAny (model X.prog X.w) X.A (inplaceOp op u w) (λr s₃=>wpAny (model X.prog X.w) X.A (storeName X.env x r) (λ_=>SP X pins D .next) X.xe s₃) X.xe s₂) X.xe s:=by refine aH (he pins s σ H _ I h) λw s1 ⟨y,H1,I1,r1,q1⟩=>?_;refine aH (ho pins s1 σ H1 v y u w _ I1 r r1 q1) λz s2 ⟨zv,H2,I2,r2,q2⟩=>?_;exact g4 I2 hN hi hx r2 (λs3 I3=>⟨_,H2,I3,q2⟩) hf
 rcases l with⟨hk,hm⟩|⟨hk,c,hc,iQ⟩
 ·exact wpAny_loadName_local I.ok.kind hk hn hm go
 ·rcases hk with hk|hk
  ·exact wpAny_loadName_cell I.ok.kind hk hc iQ go
  ·rcases hx with k|k
   ·have:X.env.scope.names.lookup x=some .free:=hk
    rw[k] at this;cases this
   ·have:X.env.scope.names.lookup x=some .free:=hk
    rw[k] at this;cases this
def V1(f:Int->Int->Int):GD:=λx y H Q=>∃i j,x=.int i/\y=.int j/\Q (.int (f i j)) H
theorem Ko:QK X .Add (V1 λi j=>i+j):=by rintro pins s σ H x y v u Q I r1 r2 ⟨i,j,e1,e2,q⟩;subst e1;subst e2;obtain⟨t,rfl⟩:=r1;obtain⟨t',rfl⟩:=r2;exact iadd_int ⟨.int _,H,I.tok _,⟨_,rfl⟩,q⟩
def Kp(c:TT)(tb:TS):TS:=λD σ H=>∃W:Nat->St->Hp->Prop,(∃m,W m σ H)/\∀m σ H,W m σ H ->
 c σ H λb H1=>if b=true then ∃N:St->Hp->Prop,(∀σ' H',N σ' H'->∃m',m'<m/\W m' σ' H')/\tb {D with nx:=N,ct:=N,bk:=D.nx} σ H1 else D.nx σ H1
theorem vd{c:Expr}{body:List Stmt}{tc:TT}{tb:TS}(hp:PassesOwn (model X.prog X.w) X.A X.env X.xe)(hc:PT X c tc)(hb:iq X body tb):PS X (.While c body [] pos) (Kp tc tb):=by
 rintro pins s σ H D I ⟨W,⟨m0,w0⟩,turn⟩;refine wpAny_While (codeAny_whileLoop (λn s'=>∃σ' H',Inv X pins σ' H' s'/\W n σ' H') ?_ m0 ⟨σ,H,I,w0⟩);rintro n s1 ⟨σ1,H1,I1,w1⟩;refine abW hp (aH (hc pins s1 σ1 H1 _ I1 (turn n σ1 H1 w1)) λb s2 ⟨H2,I2,q2⟩=>?_);cases b with
 |true=>
  obtain⟨N,hN,q2⟩:=q2;rw[if_pos rfl];refine abW hp (aH (hb pins s2 σ1 H2 _ I2 q2) λf s3 q3=>?_);cases f with
  |next =>obtain⟨σ3,H3,I3,n3⟩:=q3;obtain⟨m',hm,w3⟩:=hN σ3 H3 n3;exact⟨m',hm,σ3,H3,I3,w3⟩
  |cont =>obtain⟨σ3,H3,I3,n3⟩:=q3;obtain⟨m',hm,w3⟩:=hN σ3 H3 n3;exact⟨m',hm,σ3,H3,I3,w3⟩
  |brk=>exact q3
  |ret v=>exact q3
 |false =>rw[if_neg aaw];exact wpAny_execs_nil ⟨σ1,H2,I2,q2⟩
end
structure It where
 go:Nat->Hp->Prop
 sN:Nat->Hp->V->Hp->Prop
 stop:Nat->Hp->Prop
def gF(X:Cx)(pins:List (Addr×Obj))(H:Hp)(b:Addr):Prop:=
 H b=none/\b≠X.env.locals/\b∉X.fs/\(b∈X.ex\/X.s₀.heap.objs.size<=b)/\(∀x c,X.env.cells.lookup x=some c->c≠b)/\∀p∈X.pn++pins,p.1≠b
theorem Inv.vf{X:Cx}{pins:List (Addr×Obj)}{σ:St}{H H':Hp}{s:Shared}{b:Addr}(I:Inv X pins σ H s)(hb:s.heap.objs.size<=b)(hn:H' b=none):gF X pins H' b:=by
 refine⟨hn,abS (aaD I.lt hb),I.Ad hb,.inr (aam I.sz hb),λx c e z=>?_,λp hp z=>?_⟩
 ·obtain⟨v,q⟩:=I.cell x c e;exact absurd (aaD q.lt (by rw[z];exact hb)) (aaV _)
 ·exact absurd (aaD (aag (I.pin p hp).1) (by rw[z];exact hb)) (aaV _)
structure Turn(P:Program)(w:World)(K:PySem.W.Frag)(tg:Expr)(J:It)(fp:List Addr)(it:Addr)(tn:Nat->Heap->Prop):Prop where
 mem:it∈fp
 obj:∀i h,tn i h->∀b∈fp,∃o,h.get? b=some o/\∀v,o.data≠.cell v
 keep:∀i h h',tn i h->(∀b∈fp,∀o,h.get? b=some o->h'.get? b=some o)->tn i h'
 item:∀(X:Cx),X.prog=P->X.w=w->X.K=K->X.calm=true->∀(i:Nat) (pins:List (Addr×Obj)) (s:Shared) (σ:St) (H:Hp) (E:Value->Shared->Prop),Inv X pins σ H s->(∀b∈fp,gF X pins H b)->tn i s.heap->J.go i H ->
  wpAny (model P w) X.A (pyNext (.ref it)) (λr s1=>∃u,r=some u /\
   wpAny (model P w) X.A (letOwnedTupleGo tg (.ref it) u) (λ_ s2=>∃x H',Inv X pins σ H' s2/\RelV x u/\J.sN i H x H'/\tn (i+1) s2.heap/\∀b∈fp,H' b=none) E s1) E s
 done:∀(X:Cx),X.prog=P->X.w=w->X.K=K->X.calm=true->∀(i:Nat) (pins:List (Addr×Obj)) (s:Shared) (σ:St) (H:Hp) (E:Value->Shared->Prop),Inv X pins σ H s->(∀b∈fp,gF X pins H b)->tn i s.heap->J.stop i H ->
  wpAny (model P w) X.A (pyNext (.ref it)) (λr s1=>r=none/\Inv X pins σ H s1) E s
 self:∀(A:Around) (i:Nat) (s:Shared) (Q:Value->Shared->Prop) (E:Value->Shared->Prop),tn i s.heap->Q (.ref it) s->wpAny (model P w) A (pyIter (.ref it)) Q E s
abbrev TI:=St->Hp->(It->Hp->Prop)->Prop
def Kq(X:Cx)(pins:List (Addr×Obj))(σ:St)(tg:Expr)(R:It->Hp->Prop)(itv:Value)(s2:Shared):Prop:=
 ∃(it:Addr) (fp:List Addr) (tn:Nat->Heap->Prop) (J:It) (H':Hp),itv=.ref it/\Inv X pins σ H' s2/\Turn X.prog X.w X.K tg J fp it tn/\tn 0 s2.heap/\(∀b∈fp,gF X pins H' b)/\R J H'
def PI(X:Cx)(tg iter:Expr)(wi:TI):Prop:=
 ∀(pins:List (Addr×Obj)) (s:Shared) (σ:St) (H:Hp) (R:It->Hp->Prop),Inv X pins σ H s->wi σ H R ->
  wpAny (model X.prog X.w) X.A (eval iter X.env) (λv s1=>wpAny (model X.prog X.w) X.A (pyIter v) (Kq X pins σ tg R) X.xe s1) X.xe s
theorem Ah{M:Model}{A:Around}{E:Value->Shared->Prop}{s:Shared}{tg:Expr}{it:Addr}{u:Value}{o:Obj}{n:String}{vs:Array Value}{Q:Unit->Shared->Prop}(ho:s.heap.get? it=some o)(hc:o.cls=.type n)(hd:o.data=.fields vs)
  (hn:["enumerate","zip","dict_itemiterator","dict_reverseitemiterator","odict_iterator","itertools.zip_longest","itertools.pairwise"].contains n=false) (hQ:Q () s):wpAny M A (letOwnedTupleGo tg (.ref it) u) Q E s:=by
 unfold letOwnedTupleGo;cases tg<;>first
  |exact wpAny_pure hQ
  |(cases u<;>first
    |exact wpAny_pure hQ
    |(refine wpAny_bind (wpAny_load ho ?_);rw[hc,hd];show wpAny M A (if (["enumerate","zip","dict_itemiterator","dict_reverseitemiterator","odict_iterator","itertools.zip_longest","itertools.pairwise"].contains n&&vs[0]?==some (rawInt _))=true then _ else _) Q E s;rw[if_neg (by intro h;rw[hn,ad5] at h;cases h)];exact wpAny_pure hQ))
def pK(K:PySem.W.Frag)(a:Addr):It:=
 ⟨λi H=>∃xs x,ar K H a xs/\xs[i]?=some x,λi H x H'=>H'=H/\∀xs,ar K H a xs->xs[i]?=some x,λi H=>∃xs,ar K H a xs/\xs.length<=i⟩
def Kr(K:PySem.W.Frag)(a:Addr):It:=
 ⟨λi H=>∃xs x,aZ K H a xs/\xs[i]?=some x,λi H x H'=>H'=H/\∀xs,aZ K H a xs->xs[i]?=some x,λi H=>∃xs,aZ K H a xs/\xs.length<=i⟩
def sO(lo:Int)(n:Nat):It:=⟨λi _=>i<n,λi H x H'=>H'=H/\x=.int (lo+i),λi _=>n<=i⟩
theorem BI{P:Program}{w:World}{K:PySem.W.Frag}{tg:Expr}(a it:Addr):Turn P w K tg (pK K a) [it] it (λi h=>h.IsListIter it a i) where
 mem:=by simp
 obj:=λi h st b hb=>by
  have e:b=it:=by simpa using hb
  subst e;obtain⟨o,e,c,d⟩:=st;exact⟨o,e,λv z=>by rw[d] at z;cases z⟩
 keep:=λi h h' st k=>st.at λo e=>k it (by simp) o e
 item:=by intro X hP hw hK hc i pins s σ H E I hf st hg;subst hP hw hK;obtain⟨xs,x,hq,hx⟩:=hg;obtain⟨its,rv,p,hz⟩:=I.list hq;obtain⟨u,hu,ru⟩:=rv.get hx;obtain⟨f0,f1,f2,f3,f4,f5⟩:=hf it (by simp);refine wpAny_pyNext_list_item st p.isList (x:=u) (by simpa using hu) λh' gG sb=>?_;have I1:Inv X pins σ H {s with heap:=h' }:=I.turned (t':=s.toks) (λb o hb e=>(sb.2 b hb).trans e) f0 f1 f3 f4 f5;obtain⟨o,e,c,d⟩:=id gG;exact⟨u,rfl,Ah (s:={s with heap:=h' }) e c d (by decide) ⟨x,H,I1,ru,⟨rfl,λys hy=>by rw[I.vb hy hq];exact hx⟩,gG,λb hb=>(hf b hb).1⟩⟩
 done:=by intro X hP hw hK hc i pins s σ H E I hf st hg;subst hP hw hK;obtain⟨xs,hq,hx⟩:=hg;obtain⟨its,rv,p,hz⟩:=I.list hq;obtain⟨f0,f1,f2,f3,f4,f5⟩:=hf it (by simp);have hl:=rv.length;exact wpAny_pyNext_list_end (I.ok.hd hc) st p.isList (by simp;omega) λh' eb=>⟨rfl,I.turned (t':=s.toks) (λb o hb e=>eb b o hb e) f0 f1 f3 f4 f5⟩
 self:=λ_ _ _ _ _ st h=>wpAny_pyIter_listiter st h
theorem Ai{P:Program}{w:World}{K:PySem.W.Frag}{tg:Expr}(a it:Addr):Turn P w K tg (Kr K a) [it] it (λi h=>h.IsTupleIter it a i) where
 mem:=by simp
 obj:=λi h st b hb=>by
  have e:b=it:=by simpa using hb
  subst e;obtain⟨o,e,c,d⟩:=st;exact⟨o,e,λv z=>by rw[d] at z;cases z⟩
 keep:=λi h h' st k=>st.at λo e=>k it (by simp) o e
 item:=by intro X hP hw hK hc i pins s σ H E I hf st hg;subst hP hw hK;obtain⟨xs,x,hq,hx⟩:=hg;obtain⟨its,rv,p,hz⟩:=I.tuple hq;obtain⟨u,hu,ru⟩:=rv.get hx;obtain⟨f0,f1,f2,f3,f4,f5⟩:=hf it (by simp);refine wpAny_pyNext_tuple_item st (show s.heap.IsTuple a its.toArray from p) (x:=u) (by simpa using hu) λh' gG sb=>?_;have I1:Inv X pins σ H {s with heap:=h' }:=I.turned (t':=s.toks) (λb o hb e=>(sb.2 b hb).trans e) f0 f1 f3 f4 f5;obtain⟨o,e,c,d⟩:=id gG;exact⟨u,rfl,Ah (s:={s with heap:=h' }) e c d (by decide) ⟨x,H,I1,ru,⟨rfl,λys hy=>by rw[I.BG hy hq];exact hx⟩,gG,λb hb=>(hf b hb).1⟩⟩
 done:=by intro X hP hw hK hc i pins s σ H E I hf st hg;subst hP hw hK;obtain⟨xs,hq,hx⟩:=hg;obtain⟨its,rv,p,hz⟩:=I.tuple hq;obtain⟨f0,f1,f2,f3,f4,f5⟩:=hf it (by simp);have hl:=rv.length;exact wpAny_pyNext_tuple_end (I.ok.hd hc) st (show s.heap.IsTuple a its.toArray from p) (by simp;omega) λh' eb=>⟨rfl,I.turned (t':=s.toks) (λb o hb e=>eb b o hb e) f0 f1 f3 f4 f5⟩
 self:=λ_ _ _ _ _ st h=>wpAny_pyIter_tupleiter st h
theorem Aj{P:Program}{w:World}{K:PySem.W.Frag}{tg:Expr}(it:Addr)(lo:Int)(n:Nat):Turn P w K tg (sO lo n) [it] it (λi h=>IsRangeIter h it (lo+(i:Nat)*1) ((n:Int)-(i:Nat)) 1) where
 mem:=by simp
 obj:=λi h st b hb=>by
  have e:b=it:=by simpa using hb
  subst e;exact⟨_,st,λv z=>by have z':Data.fields _=Data.cell v:=z;cases z'⟩
 keep:=λi h h' st k=>k it (by simp) _ st
 item:=by intro X hP hw hK hc i pins s σ H E I hf st hg;subst hP hw hK;obtain⟨f0,f1,f2,f3,f4,f5⟩:=hf it (by simp);have W:=Walks.range (prog:=X.prog) (w:=X.w) (I.ok.hd hc) it lo 1 n;refine W.item i s _ _ hg st λv h' tk hv gG kk=>?_;obtain⟨t,rfl⟩:=hv;have I1:Inv X pins σ H {s with heap:=h',toks:=tk}:=I.turned (λb o hb e=>kk b o (by simpa using hb) e) f0 f1 f3 f4 f5;refine⟨_,rfl,Ah (s:={s with heap:=h',toks:=tk}) (n:="range_iterator") gG rfl rfl (by decide) ⟨.int (lo+i),H,I1,⟨t,?_⟩,⟨rfl,rfl⟩,gG,λb hb=>(hf b hb).1⟩⟩;rw[Int.mul_one]
 done:=by intro X hP hw hK hc i pins s σ H E I hf st hg;subst hP hw hK;obtain⟨f0,f1,f2,f3,f4,f5⟩:=hf it (by simp);exact wpAny_pyNext_range_end (I.ok.hd hc) st (by have:n<=i:=hg;omega) λh' eb=>⟨rfl,I.turned (t':=s.toks) (λb o hb e=>eb b o hb e) f0 f1 f3 f4 f5⟩
 self:=λ_ _ _ _ _ st h=>wpAny_pyIter_rangeiter st h
section
variable {X:Cx}{tg:Expr}
def OW(K:PySem.W.Frag)(tl:TE):TI:=λσ H R=>tl σ H λx H1=>∃a,x=.ref a/\(∃xs,ar K H1 a xs)/\R (pK K a) H1
def T4(K:PySem.W.Frag)(tl:TE):TI:=λσ H R=>tl σ H λx H1=>∃a,x=.ref a/\(∃xs,aZ K H1 a xs)/\R (Kr K a) H1
theorem bh{l:Expr}{tl:TE}(hl:PE X l tl):PI X tg l (OW X.K tl):=by
 intro pins s σ H R I h;refine aH (hl pins s σ H _ I h) λv s1 ⟨x,H1,I1,r1,q1⟩=>?_;obtain⟨a,e,⟨xs,hq⟩,q⟩:=q1;subst e;cases r1;obtain⟨its,rv,p,hz⟩:=I1.list hq;refine wpAny_pyIter_list p.isList ?_;refine⟨s1.heap.objs.size,[s1.heap.objs.size],_,_,H1,rfl,I1.kept (t':=s1.toks) λb o e=>aab _ e,BI a _,⟨_,aaq _ rfl,rfl,rfl⟩,λb hb=>?_,q⟩;have e:b=s1.heap.objs.size:=by simpa using hb
 subst e;exact I1.vf (aac _) (I1.aG.fresh (aac _))
theorem Ks{l:Expr}{tl:TE}(hl:PE X l tl):PI X tg l (T4 X.K tl):=by
 intro pins s σ H R I h;refine aH (hl pins s σ H _ I h) λv s1 ⟨x,H1,I1,r1,q1⟩=>?_;obtain⟨a,e,⟨xs,hq⟩,q⟩:=q1;subst e;cases r1;obtain⟨its,rv,p,hz⟩:=I1.tuple hq;refine aeA (show s1.heap.IsTuple a its.toArray from p) ?_;refine⟨s1.heap.objs.size,[s1.heap.objs.size],_,_,H1,rfl,I1.kept (t':=s1.toks) λb o e=>aab _ e,Ai a _,⟨_,aaq _ rfl,rfl,rfl⟩,λb hb=>?_,q⟩;have e:b=s1.heap.objs.size:=by simpa using hb
 subst e;exact I1.vf (aac _) (I1.aG.fresh (aac _))
theorem vg{pins:List (Addr×Obj)}{σ:St}{H:Hp}{s:Shared}{R:It->Hp->Prop}{E:Value->Shared->Prop}{lo hi:Int}{t u v:Tok}{tk:Nat}(I:Inv X pins σ H s)(h1:-(2 ^ 62)<=lo)(h2:lo<2 ^ 62)(h3:-(2 ^ 62)<=hi)(h4:hi<2 ^ 62)
  (q:R (sO lo (hi-lo).toNat) H):wpAny (model X.prog X.w) X.A (pyIter (.ref s.heap.objs.size)) (Kq X pins σ tg R) E {s with heap:=s.heap.push {cls:=.type "range",data:=.fields #[.int lo t,.int hi u,.int 1 v]},toks:=tk}:=by
 refine wpAny_pyIter_range (af7 ..) (small_one h1 h2 h3 h4) ?_;have I1:Inv X pins σ H {s with heap:=s.heap.push {cls:=.type "range",data:=.fields #[.int lo t,.int hi u,.int 1 v]},toks:=tk}:=I.kept λb o e=>aab _ e;refine⟨(s.heap.push {cls:=.type "range",data:=.fields #[.int lo t,.int hi u,.int 1 v]}).objs.size,[(s.heap.push {cls:=.type "range",data:=.fields #[.int lo t,.int hi u,.int 1 v]}).objs.size],_,_,H,rfl,
  I1.kept (t':=tk) λb o e=>aab _ e,Aj _ lo (hi-lo).toNat,?_,λb hb=>?_,q⟩
 ·have e1:lo+((0:Nat):Int)*1=lo:=by simp
  have e2:(((hi-lo).toNat:Nat):Int)-((0:Nat):Int)=Builtin.Range.rangeSize lo hi 1:=by rw[afz];split<;>omega
  show IsRangeIter _ _ (lo+((0:Nat):Int)*1) ((((hi-lo).toNat:Nat):Int)-((0:Nat):Int)) 1
  rw[e1,e2];exact aaq _ rfl
 ·have e:b=(s.heap.push {cls:=.type "range",data:=.fields #[.int lo t,.int hi u,.int 1 v]}).objs.size:=by simpa using hb
  subst e;exact I1.vf (aac _) (I1.aG.fresh (aac _))
def OX(ta:TA):TI:=λσ H R=>ta σ H λvs H1=>∃j:Int,vs=[.int j]/\-(2 ^ 62)<=j/\j<2 ^ 62/\R (sO 0 j.toNat) H1
def OY(ta:TA):TI:=λσ H R=>ta σ H λvs H1=>∃i j:Int,vs=[.int i,.int j]/\(-(2 ^ 62)<=i/\i<2 ^ 62/\-(2 ^ 62)<=j/\j<2 ^ 62)/\R (sO i (j-i).toNat) H1
theorem dB{a:Expr}{ta:TA}{p pos:Pos}(hg:Gl X "range")(hm:X.mg "range" = none)(ha:PA X [a] ta)(hs:starEach [a] X.env=[(false,eval a X.env)]:=by rfl):PI X tg (.Call (.Name "range" p) [a] [] pos) (OX ta):=by
 intro pins s σ H R I h;refine Call_ (d7 I hg hm afi (aa0 (aH (ha pos pins s σ H _ I h) λus s1 ⟨vs,H1,I1,r1,q1⟩=>?_) hs rfl));obtain⟨j,e,q1,q2,q⟩:=q1;subst e;cases r1 with
 |cons r rr =>cases rr;obtain⟨t,rfl⟩:=r;exact call_range_1 (vg I1 (by omega) (by omega) q1 q2 (by simpa using q))
theorem BJ{a b:Expr}{ta:TA}{p pos:Pos}(hg:Gl X "range")(hm:X.mg "range" = none)(ha:PA X [a,b] ta)(hs:starEach [a,b] X.env=[(false,eval a X.env),(false,eval b X.env)]:=by rfl)(hs2:starEach [b] X.env=[(false,eval b X.env)]:=by rfl) :
  PI X tg (.Call (.Name "range" p) [a,b] [] pos) (OY ta):=by
 intro pins s σ H R I h;refine Call_ (d7 I hg hm afi (aa0 (aH (ha pos pins s σ H _ I h) λus s1 ⟨vs,H1,I1,r1,q1⟩=>?_) (by rw[hs,hs2]) (by rw[hs2];rfl)));obtain⟨i,j,e,⟨q1,q2,q3,q4⟩,q⟩:=q1;subst e;cases r1 with
 |cons r rr=>
  cases rr with
  |cons r' rr =>cases rr;obtain⟨t,rfl⟩:=r;obtain⟨t',rfl⟩:=r';exact call_range_2 (vg I1 q1 q2 q3 q4 q)
def T5(wi:TI)(g:TG)(tb:TS):TS:=λD σ H=>wi σ H λJ H1=>∃W:Nat->Nat->St->Hp->Prop,(∃m,W 0 m σ H1)/\∀i m σ H,W i m σ H ->
 (J.stop i H/\D.nx σ H)\/(J.go i H/\∃N:St->Hp->Prop,(∀σ' H',N σ' H'->∃m',m'<m/\W (i+1) m' σ' H')/\∀x H',J.sN i H x H'->g x σ H' λσ2 H2=>tb {D with nx:=N,ct:=N,bk:=D.nx} σ2 H2)
def fm(fp:List Addr)(h:Heap):List (Addr×Obj):=fp.filterMap λb=>(h.get? b).map λo=>(b,o)
theorem dD{fp:List Addr}{h:Heap}{b:Addr}{o:Obj}(hb:b∈fp)(e:h.get? b=some o):(b,o)∈fm fp h:=abG.mpr ⟨b,hb,by rw[e];rfl⟩
theorem BK{fp:List Addr}{h:Heap}{p:Addr×Obj}(hp:p∈fm fp h):p.1∈fp/\h.get? p.1=some p.2:=by
 obtain⟨b,hb,e⟩:=abG.mp hp;cases q:h.get? b with
 |none=>rw[q] at e;cases e
 |some o =>rw[q] at e;have e':(b,o)=p:=aat e;subst e';exact⟨hb,q⟩
theorem Inv.pinned{pins:List (Addr×Obj)}{σ:St}{H:Hp}{s:Shared}{fp:List Addr}(I:Inv X pins σ H s)(hf:∀b∈fp,gF X pins H b)(ho:∀b∈fp,∃o,s.heap.get? b=some o/\∀v,o.data≠.cell v):Inv X (pins++fm fp s.heap) σ H s:=
 I.dI λp hp=>(aas.mp hp).elim (λz=>I.pin p (aaj _ z)) λz=>by obtain⟨hb,e⟩:=BK z;obtain⟨f0,f1,f2,_⟩:=hf p.1 hb;obtain⟨o,e',d⟩:=ho p.1 hb;rw[e] at e';cases e';exact⟨e,f0,f1,f2,d⟩
theorem Inv.oF{pins pl:List (Addr×Obj)}{σ:St}{H:Hp}{s:Shared}(I:Inv X (pins++pl) σ H s):Inv X pins σ H s:=I.dI λp hp=>I.pin p (aaj _ (aax _ hp))
theorem cI{iter:Expr}{body:List Stmt}{wi:TI}{g:TG}{tb:TS}{pos:Pos}(hp:PassesOwn (model X.prog X.w) X.A X.env X.xe)(hc:X.calm=true)(hi:PI X tg iter wi)(hg:PG X tg g)(hb:iq X body tb)
  (hs:∀x,foldedSetIterable iter X.env x=pure x:=by intro _;rfl):PS X (.For tg iter body [] pos) (T5 wi g tb):=by
 intro pins s σ H D I h;refine wpAny_For (aH (hi pins s σ H _ I h) λv s1 h1=>aH h1 λitv s2 h2=>?_) hs;obtain⟨it,fp,tn,J,H2,e,I2,T,st2,f2,W,⟨m0,w0⟩,turn⟩:=h2;subst e;have stat:∀{H':Hp},(∀b∈fp,H' b=none)->∀b∈fp,gF X pins H' b:=λhn b hb=>⟨hn b hb,(f2 b hb).2⟩
 refine codeAny_forLoop_any (λn s'=>∃i σ' H',Inv X pins σ' H' s'/\tn i s'.heap/\(∀b∈fp,H' b=none)/\W i n σ' H') ?_ m0 ⟨0,σ,H2,I2,st2,λb hb=>(f2 b hb).1,w0⟩;rintro n s3 ⟨i,σ3,H3,I3,lH,QL,w3⟩;rcases turn i n σ3 H3 w3 with⟨stop,qn⟩|⟨go,N,hN,step⟩
 ·refine abW hp (aH (T.done X rfl rfl rfl hc i pins s3 σ3 H3 X.xe I3 (stat QL) lH stop) λr s4 ⟨hr,I4⟩=>?_);subst hr;exact wpAny_execs_nil ⟨σ3,H3,I4,qn⟩
 ·refine abW hp (aH (T.item X rfl rfl rfl hc i pins s3 σ3 H3 X.xe I3 (stat QL) lH go) λr s4 ⟨u,hr,h4⟩=>?_);subst hr;refine abW hp (aH h4 λ_ s5 ⟨x,H5,I5,r5,y5,iY,vh⟩=>?_);have V2:=I5.pinned (stat vh) (T.obj _ _ iY);refine abW hp (aH (hg _ s5 σ3 H5 x u _ V2 r5 (step x H5 y5)) λ_ s6 ⟨σ6,H6,I6,q6⟩=>?_);refine abW hp (aH (hb _ s6 σ6 H6 _ I6 q6) λf s7 q7=>?_);have again:∀{σ7:St} {H7:Hp},Inv X (pins++fm fp s5.heap) σ7 H7 s7->N σ7 H7->∃m,m<n/\∃i σ' H',Inv X pins σ' H' s7/\tn i s7.heap/\(∀b∈fp,H' b=none)/\W i m σ' H':=λ{σ7 H7} I7 n7=>by obtain⟨m',hm,w7⟩:=hN σ7 H7 n7;refine⟨m',hm,i+1,σ7,H7,I7.oF,T.keep _ _ _ iY λb hb o e=>(I7.pin (b,o) (aaj _ (aaj _ (dD hb e)))).1,λb hb=>?_,w7⟩;obtain⟨o,e,d⟩:=T.obj _ _ iY b hb;exact(I7.pin (b,o) (aaj _ (aaj _ (dD hb e)))).2.1
  cases f with
  |next=>obtain⟨σ7,H7,I7,n7⟩:=q7;exact again I7 n7
  |cont=>obtain⟨σ7,H7,I7,n7⟩:=q7;exact again I7 n7
  |brk=>obtain⟨σ7,H7,I7,q7⟩:=q7;exact⟨σ7,H7,I7.oF,q7⟩
  |ret v=>obtain⟨x7,σ7,H7,I7,r7,q7⟩:=q7;exact⟨x7,σ7,H7,I7.oF,r7,q7⟩
end
theorem dY{K:PySem.W.Frag}{a:Addr}{xs:List V}{g:TG}{tb:TS}{D:Ends}{σ:St}{H:Hp}(Pv:Nat->St->Hp->Prop)(h0:Pv 0 σ H)(hl:∀i σ H,i<=xs.length->Pv i σ H->ar K H a xs)
  (hs:∀i x σ H,xs[i]?=some x->Pv i σ H->g x σ H λσ2 H2=>tb {D with nx:=Pv (i+1),ct:=Pv (i+1),bk:=D.nx} σ2 H2) (hd:∀σ H,Pv xs.length σ H->D.nx σ H) :
  ∃W:Nat->Nat->St->Hp->Prop,(∃m,W 0 m σ H)/\∀i m σ H,W i m σ H ->
   ((pK K a).stop i H/\D.nx σ H)\/((pK K a).go i H/\∃N:St->Hp->Prop,(∀σ' H',N σ' H'->∃m',m'<m/\W (i+1) m' σ' H')/\∀x H',(pK K a).sN i H x H'->g x σ H' λσ2 H2=>tb {D with nx:=N,ct:=N,bk:=D.nx} σ2 H2):=by
 refine⟨λi m σ H=>m=xs.length-i/\i<=xs.length/\Pv i σ H,⟨xs.length,by simp,aaG _,h0⟩,?_⟩;rintro i m σ H ⟨rfl,hi,p⟩;have q:=hl i σ H hi p;by_cases hlt:i<xs.length
 ·refine .inr ⟨⟨xs,xs[i],q,by simp[hlt]⟩,Pv (i+1),λσ' H' p'=>⟨xs.length-(i+1),by omega,rfl,hlt,p'⟩,λx H' y=>?_⟩;obtain⟨e,y⟩:=y;subst e;exact hs i x σ _ (y xs q) p
 ·have e:i=xs.length:=by omega
  subst e;exact .inl ⟨⟨xs,q,aac _⟩,hd σ H p⟩
theorem dR{lo:Int}{n:Nat}{g:TG}{tb:TS}{D:Ends}{σ:St}{H:Hp}(Pv:Nat->St->Hp->Prop)(h0:Pv 0 σ H)
  (hs:∀i σ H,i<n->Pv i σ H->g (.int (lo+i)) σ H λσ2 H2=>tb {D with nx:=Pv (i+1),ct:=Pv (i+1),bk:=D.nx} σ2 H2) (hd:∀σ H,Pv n σ H->D.nx σ H) :
  ∃W:Nat->Nat->St->Hp->Prop,(∃m,W 0 m σ H)/\∀i m σ H,W i m σ H ->
   ((sO lo n).stop i H/\D.nx σ H)\/((sO lo n).go i H/\∃N:St->Hp->Prop,(∀σ' H',N σ' H'->∃m',m'<m/\W (i+1) m' σ' H')/\∀x H',(sO lo n).sN i H x H'->g x σ H' λσ2 H2=>tb {D with nx:=N,ct:=N,bk:=D.nx} σ2 H2):=by
 refine⟨λi m σ H=>m=n-i/\i<=n/\Pv i σ H,⟨n,by simp,aaG _,h0⟩,?_⟩;rintro i m σ H ⟨rfl,hi,p⟩;by_cases hlt:i<n
 ·refine .inr ⟨hlt,Pv (i+1),λσ' H' p'=>⟨n-(i+1),by omega,rfl,hlt,p'⟩,λx H' y=>?_⟩;obtain⟨e,y⟩:=y;subst e y;exact hs i σ _ hlt p
 ·have e:i=n:=by omega
  subst e;exact .inl ⟨aac _,hd σ H p⟩
abbrev R2:=V->V->Hp->VK->Prop
def cJ(X:Cx)(f:Value->Value->Sem Value)(r:R2):Prop:=
 ∀(pins:List (Addr×Obj)) (s:Shared) (σ:St) (H:Hp) (x y:V) (v u:Value) (Q:VK),Inv X pins σ H s->RelV x v->RelV y u->r x y H Q ->
  wpAny (model X.prog X.w) X.A (f v u) (EP X pins σ Q) X.xe s
def Kt(X:Cx)(f:Value->Sem Value)(r:V->Hp->VK->Prop):Prop:=
 ∀(pins:List (Addr×Obj)) (s:Shared) (σ:St) (H:Hp) (x:V) (v:Value) (Q:VK),Inv X pins σ H s->RelV x v->r x H Q ->
  wpAny (model X.prog X.w) X.A (f v) (EP X pins σ Q) X.xe s
def bV(X:Cx)(f:Value)(r:List V->Hp->VK->Prop):Prop:=
 ∀(pins:List (Addr×Obj)) (s:Shared) (σ:St) (H:Hp) (xs:List V) (us:List Value) (Q:VK),Inv X pins σ H s->Vals xs us->r xs H Q ->
  wpAny (model X.prog X.w) X.A (call f us) (EP X pins σ Q) X.xe s
def T6(X:Cx)(r:V->Hp->(Bool->Hp->Prop)->Prop):Prop:=
 ∀(pins:List (Addr×Obj)) (s:Shared) (σ:St) (H:Hp) (x:V) (v:Value) (Q:Bool->Hp->Prop),Inv X pins σ H s->RelV x v->r x H Q ->
  wpAny (model X.prog X.w) X.A (truthy v) (TP X pins σ Q) X.xe s
def GH(r:R2)(ta tb:TE):TE:=λσ H Q=>ta σ H λx H1=>tb σ H1 λy H2=>r x y H2 Q
def V3(r:V->Hp->VK->Prop)(ta:TE):TE:=λσ H Q=>ta σ H λx H1=>r x H1 Q
def rI(C:Int->Int->Prop)(g:Int->Int->V):R2:=λx y H Q=>∃i j,x=.int i/\y=.int j/\C i j/\Q (g i j) H
def vi(g:Int->Int->V):R2:=λx y H Q=>∃i j,x=.int i/\y=.int j/\Q (g i j) H
def rU(g:Int->V):V->Hp->VK->Prop:=λx H Q=>∃i,x=.int i/\Q (g i) H
section
variable {X:Cx}{a b c:Expr}{ta tb tc:TE}{pos:Pos}
theorem Ey(ha:PE X a ta)(hb:PE X b tb){pins:List (Addr×Obj)}{s:Shared}{σ:St}{H:Hp}{R:V->V->Hp->Prop}(I:Inv X pins σ H s)
  (h:ta σ H λx H1=>tb σ H1 λy H2=>R x y H2) {Q:Value->Shared->Prop} {f:Value->Value->Sem Value}
  (hf:∀v u s2 x y H2,Inv X pins σ H2 s2->RelV x v->RelV y u->R x y H2->wpAny (model X.prog X.w) X.A (f v u) Q X.xe s2) :
  wpAny (model X.prog X.w) X.A (eval a X.env) (λv s₁=>wpAny (model X.prog X.w) X.A (eval b X.env) (λu s₂=>wpAny (model X.prog X.w) X.A (f v u) Q X.xe s₂) X.xe s₁) X.xe s:=by
 refine aH (ha pins s σ H _ I h) λv s1 ⟨x,H1,I1,r1,q1⟩=>?_;refine aH (hb pins s1 σ H1 _ I1 q1) λu s2 ⟨y,H2,I2,r2,q2⟩=>?_;exact hf v u s2 x y H2 I2 r1 r2 q2
theorem bo{op:Operator}{r:R2}(ho:cJ X (binaryOp op) r)(ha:PE X a ta)(hb:PE X b tb):PE X (.BinOp a op b pos) (GH r ta tb):=by intro pins s σ H Q I h;exact wpAny_BinOp (Ey ha hb I h λv u s2 x y H2 I2 rx ry q=>ho pins s2 σ H2 x y v u Q I2 rx ry q)
theorem Ak{op:UnaryOp}{r:V->Hp->VK->Prop}(ho:Kt X (unaryOp op) r)(ha:PE X a ta):PE X (.UnaryOp op a pos) (V3 r ta):=by intro pins s σ H Q I h;exact UnaryOp_ (aH (ha pins s σ H _ I h) λv s1 ⟨x,H1,I1,r1,q1⟩=>ho pins s1 σ H1 x v Q I1 r1 q1)
theorem GJ{f:Value->Value->Sem Value}{C:Int->Int->Prop}{g:Int->Int->Int}
  (rule:∀(i j:Int) (t u:Tok) (s:Shared) (Q:Value->Shared->Prop) (E:Value->Shared->Prop),C i j->Q (.int (g i j) s.toks) {s with toks:=s.toks+1}->wpAny (model X.prog X.w) X.A (f (.int i t) (.int j u)) Q E s) :
  cJ X f (rI C λi j=>.int (g i j)):=by
 rintro pins s σ H x y v u Q I rx ry ⟨i,j,rfl,rfl,hc,q⟩;obtain⟨t,rfl⟩:=rx;obtain⟨t',rfl⟩:=ry;exact rule i j t t' s _ _ hc ⟨.int (g i j),H,I.tok _,⟨_,rfl⟩,q⟩
theorem Ku{f:Value->Value->Sem Value}{g:Int->Int->Int}
  (rule:∀(i j:Int) (t u:Tok) (s:Shared) (Q:Value->Shared->Prop) (E:Value->Shared->Prop),Q (.int (g i j) s.toks) {s with toks:=s.toks+1}->wpAny (model X.prog X.w) X.A (f (.int i t) (.int j u)) Q E s) :
  cJ X f (vi λi j=>.int (g i j)):=by
 rintro pins s σ H x y v u Q I rx ry ⟨i,j,rfl,rfl,q⟩;obtain⟨t,rfl⟩:=rx;obtain⟨t',rfl⟩:=ry;exact rule i j t t' s _ _ ⟨.int (g i j),H,I.tok _,⟨_,rfl⟩,q⟩
theorem Ez{f:Value->Value->Sem Value}{g:Int->Int->Bool}
  (rule:∀(i j:Int) (t u:Tok) (s:Shared) (Q:Value->Shared->Prop) (E:Value->Shared->Prop),Q (.bool (g i j)) s->wpAny (model X.prog X.w) X.A (f (.int i t) (.int j u)) Q E s) :
  cJ X f (vi λi j=>.bl (g i j)):=by
 rintro pins s σ H x y v u Q I rx ry ⟨i,j,rfl,rfl,q⟩;obtain⟨t,rfl⟩:=rx;obtain⟨t',rfl⟩:=ry;exact rule i j t t' s _ _ ⟨.bl (g i j),H,I,rfl,q⟩
def T7(i j:Int):Prop:=0<j/\j<1073741824
def T8(i j:Int):Prop:=0<=j/\j<=1000000/\i.natAbs<2 ^ 64
def EA(i j:Int):Prop:=(-(2 ^ 64)<i/\i<2 ^ 64)\/(-(2 ^ 64)<j/\j<2 ^ 64)
theorem EA.ok{i j:Int}(h:EA i j):IntMulOk i j:=by
 rcases h with⟨h1,h2⟩|⟨h1,h2⟩
 ·exact .of_left (intBits_le_64 h1 h2)
 ·exact .of_right (intBits_le_64 h1 h2)
theorem eO:cJ X (binaryOp .Add) (vi λi j=>.int (i+j)):=Ku λ_ _ _ _ _ _ _ q=>add_int q
theorem vj:cJ X (binaryOp .Sub) (vi λi j=>.int (i-j)):=Ku λ_ _ _ _ _ _ _ q=>sub_int q
theorem pL:cJ X (binaryOp .Mult) (rI EA λi j=>.int (i*j)):=GJ λ_ _ _ _ _ _ _ hc q=>mul_int q hc.ok
theorem Ir:cJ X (binaryOp .FloorDiv) (rI T7 λi j=>.int (i / j)):=GJ λi j _ _ _ _ _ hc q=>by have h1:(0:Int)<j:=hc.1;have h2:j<1073741824:=hc.2;exact floordiv_int (by omega) (by rw[ado i (by omega)];exact q) (.inl (PyProof.noPylong_small (by omega)))
theorem lI:cJ X (binaryOp .Mod) (rI (λ_ j=>0<j) λi j=>.int (i % j)):=GJ λi j _ _ _ _ _ hc q=>by have h1:(0:Int)<j:=hc;exact mod_int' (by omega) (by rw[adp i (by omega)];exact q)
theorem Kv:cJ X (binaryOp .Pow) (rI T8 λi j=>.int (i ^ j.toNat)):=GJ λ_ _ _ _ _ _ _ hc q=>pow_int_small hc.1 hc.2.1 hc.2.2 q
theorem V4{f:Value->Sem Value}{g:Int->Int}
  (rule:∀(i:Int) (t:Tok) (s:Shared) (Q:Value->Shared->Prop) (E:Value->Shared->Prop),Q (.int (g i) s.toks) {s with toks:=s.toks+1}->wpAny (model X.prog X.w) X.A (f (.int i t)) Q E s) :
  Kt X f (rU λi=>.int (g i)):=by
 rintro pins s σ H x v Q I rx ⟨i,rfl,q⟩;obtain⟨t,rfl⟩:=rx;exact rule i t s _ _ ⟨.int (g i),H,I.tok _,⟨_,rfl⟩,q⟩
theorem vk:Kt X (unaryOp .USub) (rU λi=>.int (-i)):=V4 λ_ _ _ _ _ q=>neg_int q
end
def Kw:V->V->Bool
 |.aN,.aN=>true|.aN,.int _=>true|.int _,.aN=>true|.aN,.bl _=>true|.bl _,.aN=>true|.aN,.str _=>true|.str _,.aN=>true
 |.int _,.int _=>true|.bl _,.bl _=>true|.str _,.str _=>true|.jq _,.jq _=>true
 |.int _,.str _=>true|.str _,.int _=>true|.bl _,.str _=>true|.str _,.bl _=>true
 |_,_=>false
def V5:R2:=λx y H Q=>Kw x y=true/\Q (.bl (decide (x=y))) H
def V6:R2:=λx y H Q=>Kw x y=true/\Q (.bl (!decide (x=y))) H
theorem yH{i j:Int}:decide (V.int i=V.int j)=(i==j):=by rw[abz];simp
theorem BL{i j:Bool}:decide (V.bl i=V.bl j)=(i==j):=by rw[abz];simp
theorem yI{i j:Str}:decide (V.str i=V.str j)=(i==j):=by rw[abz];simp
theorem yJ{i j:Array UInt8}:decide (V.jq i=V.jq j)=(i.toList==j.toList):=by rw[abz];cases i;cases j;simp
section
variable {X:Cx}{a b c:Expr}{ta tb tc:TE}{pos:Pos}
theorem aT{pins:List (Addr×Obj)}{σ:St}{H:Hp}{s:Shared}{Q:VK}{k k':Bool}(I:Inv X pins σ H s)(q:Q (.bl k) H)(e:k=k'):EP X pins σ Q (.bool k') s:=by subst e;exact⟨.bl k,H,I,rfl,q⟩
theorem fF:cJ X (compareOp .Eq) V5:=by
 rintro pins s σ H x y v u Q I rx ry ⟨hs,q⟩;cases x with
 |aN=>
  cases rx;cases y with
  |aN=>cases ry;exact afF (aT I q (by simp))
  |bl j=>cases ry;exact afG (aT I q (by simp))
  |int j=>obtain⟨t',rfl⟩:=ry;exact afP (aT I q (by simp))
  |str j=>obtain⟨t',rfl⟩:=ry;exact afQ (aT I q (by simp))
  |_=>exact absurd (show false=true from hs) aaw
 |bl i=>
  cases rx;cases y with
  |aN=>cases ry;exact afH (aT I q (by simp))
  |bl j=>cases ry;exact eq_bool (aT I q BL)
  |str j=>obtain⟨t',rfl⟩:=ry;exact afI (aT I q (by simp))
  |_=>exact absurd (show false=true from hs) aaw
 |int i=>
  obtain⟨t,rfl⟩:=rx;cases y with
  |aN=>cases ry;exact afR (aT I q (by simp))
  |int j=>obtain⟨t',rfl⟩:=ry;exact eq_int (aT I q yH)
  |str j=>obtain⟨t',rfl⟩:=ry;exact afS (aT I q (by simp))
  |_=>exact absurd (show false=true from hs) aaw
 |str i=>
  obtain⟨t,rfl⟩:=rx;cases y with
  |aN=>cases ry;exact afT (aT I q (by simp))
  |bl j=>cases ry;exact afJ (aT I q (by simp))
  |int j=>obtain⟨t',rfl⟩:=ry;exact afU (aT I q (by simp))
  |str j=>obtain⟨t',rfl⟩:=ry;exact eq_str (aT I q yI)
  |_=>exact absurd (show false=true from hs) aaw
 |jq i=>
  obtain⟨t,rfl⟩:=rx;cases y with
  |jq j=>obtain⟨t',rfl⟩:=ry;exact PySem.W.eq_bytes (aT I q yJ)
  |_=>exact absurd (show false=true from hs) aaw
 |_=>cases y<;>exact absurd (show false=true from hs) aaw
theorem kc:cJ X (compareOp .NotEq) V6:=by
 rintro pins s σ H x y v u Q I rx ry ⟨hs,q⟩;cases x with
 |aN=>
  cases rx;cases y with
  |aN=>cases ry;exact afK (aT I q (by simp))
  |bl j=>cases ry;exact afL (aT I q (by simp))
  |int j=>obtain⟨t',rfl⟩:=ry;exact afV (aT I q (by simp))
  |str j=>obtain⟨t',rfl⟩:=ry;exact afW (aT I q (by simp))
  |_=>exact absurd (show false=true from hs) aaw
 |bl i=>
  cases rx;cases y with
  |aN=>cases ry;exact afM (aT I q (by simp))
  |bl j=>cases ry;exact ne_bool (aT I q (congrArg not BL))
  |str j=>obtain⟨t',rfl⟩:=ry;exact afN (aT I q (by simp))
  |_=>exact absurd (show false=true from hs) aaw
 |int i=>
  obtain⟨t,rfl⟩:=rx;cases y with
  |aN=>cases ry;exact afX (aT I q (by simp))
  |int j=>obtain⟨t',rfl⟩:=ry;exact ne_int (aT I q (congrArg not yH))
  |str j=>obtain⟨t',rfl⟩:=ry;exact afY (aT I q (by simp))
  |_=>exact absurd (show false=true from hs) aaw
 |str i=>
  obtain⟨t,rfl⟩:=rx;cases y with
  |aN=>cases ry;exact afZ (aT I q (by simp))
  |bl j=>cases ry;exact afO (aT I q (by simp))
  |int j=>obtain⟨t',rfl⟩:=ry;exact af0 (aT I q (by simp))
  |str j=>obtain⟨t',rfl⟩:=ry;exact ne_str (aT I q (congrArg not yI))
  |_=>exact absurd (show false=true from hs) aaw
 |jq i=>
  obtain⟨t,rfl⟩:=rx;cases y with
  |jq j=>obtain⟨t',rfl⟩:=ry;exact PySem.W.ne_bytes (aT I q (congrArg not yJ))
  |_=>exact absurd (show false=true from hs) aaw
 |_=>cases y<;>exact absurd (show false=true from hs) aaw
theorem ic:cJ X (compareOp .Lt) (vi λi j=>.bl (decide (i<j))):=Ez λ_ _ _ _ _ _ _ q=>lt_int q
theorem kf:cJ X (compareOp .LtE) (vi λi j=>.bl (decide (i<=j))):=Ez λ_ _ _ _ _ _ _ q=>le_int q
theorem mV:cJ X (compareOp .Gt) (vi λi j=>.bl (decide (j<i))):=Ez λ_ _ _ _ _ _ _ q=>gt_int q
theorem BM:cJ X (compareOp .Is) (λx y H Q=>y=.aN/\Q (.bl (decide (x=.aN))) H):=by
 rintro pins s σ H x y v u Q I rx ry ⟨rfl,q⟩;cases ry;refine is_none_gen (aT I q ?_);cases x<;>first
  |(cases rx;rfl)
  |(obtain⟨t,rfl⟩:=rx;rfl)
theorem yK:cJ X (compareOp .IsNot) (λx y H Q=>y=.aN/\Q (.bl (!decide (x=.aN))) H):=by
 rintro pins s σ H x y v u Q I rx ry ⟨rfl,q⟩;cases ry;refine isnot_none_gen (aT I q ?_);cases x<;>first
  |(cases rx;rfl)
  |(obtain⟨t,rfl⟩:=rx;rfl)
theorem aU(b:Expr){op:CmpOp}(h:op≠.In:=by decide)(h2:op≠.NotIn:=by decide):behindInMarks op b=false:=by
 have e1:(op==CmpOp.In)=false:=by cases op<;>first|rfl|exact absurd rfl h
 have e2:(op==CmpOp.NotIn)=false:=by cases op<;>first|rfl|exact absurd rfl h2
 cases b<;>simp[behindInMarks,e1,e2]
theorem cP{op:CmpOp}{r:R2}(ho:cJ X (compareOp op) r)(ha:PE X a ta)(hb:PE X b tb)(hm:behindInMarks op b=false):PE X (.Compare a [op] [b] pos) (GH r ta tb):=by intro pins s σ H Q I h;exact wpAny_Compare1 (Ey ha hb I h λv u s2 x y H2 I2 rx ry q=>ho pins s2 σ H2 x y v u Q I2 rx ry q) hm
def GQ(t:TE):TT:=λσ H Q=>t σ H λx H'=>∃k,x=.bl k/\Q k H'
theorem aS{op:CmpOp}{r:R2}(ho:cJ X (compareOp op) r)(ha:PE X a ta)(hb:PE X b tb)(hm:behindInMarks op b=false):PT X (.Compare a [op] [b] pos) (GQ (GH r ta tb)):=by
 intro pins s σ H Q I h;refine ad4 (aH (ha pins s σ H _ I h) λv s1 ⟨x,H1,I1,r1,q1⟩=>aH (hb pins s1 σ H1 _ I1 q1) λu s2 ⟨y,H2,I2,r2,q2⟩ =>aH (ho pins s2 σ H2 x y v u _ I2 r1 r2 q2) λc s3 ⟨z,H3,I3,r3,k,e,q3⟩=>?_) hm
 subst e;cases r3;exact wpAny_truthy_bool ⟨H3,I3,q3⟩
def BN(r r':R2)(ta tb tc:TE):TE:=λσ H Q=>ta σ H λx H1=>tb σ H1 λy H2=>r x y H2 λz H3=>∃k,z=.bl k /\
 (if k=true then tc σ H3 λw' H4=>r' y w' H4 Q else Q (.bl false) H3)
theorem oG{op vm:CmpOp}{r r':R2}(ho:cJ X (compareOp op) r)(ho':cJ X (compareOp vm) r')(ha:PE X a ta)(hb:PE X b tb)(hc:PE X c tc)
  (hm:lastMarks [op,vm] [b,c]=false:=by with_unfolding_all rfl):PE X (.Compare a [op,vm] [b,c] pos) (BN r r' ta tb tc):=by
 intro pins s σ H Q I h;refine Compare_chain (aH (ha pins s σ H _ I h) λv s1 ⟨x,H1,I1,r1,q1⟩=>chain_link (aH (hb pins s1 σ H1 _ I1 q1) λu s2 ⟨y,H2,I2,r2,q2⟩ =>aH (ho pins s2 σ H2 x y v u _ I2 r1 r2 q2) λd s3 ⟨z,H3,I3,r3,k,e,q3⟩=>?_)) hm
 subst e;cases r3;refine wpAny_truthy_bool ?_;cases k with
 |false=>exact ite_ff ⟨.bl false,H3,I3,rfl,q3⟩
 |true=>exact ite_tt (chain_last (aH (hc pins s3 σ H3 _ I3 q3) λw' s4 ⟨z',H4,I4,r4,q4⟩=>ho' pins s4 σ H4 y z' u w' Q I4 r2 r4 q4))
theorem kg{op vm:CmpOp}{r r':R2}(ho:cJ X (compareOp op) r)(ho':cJ X (compareOp vm) r')(ha:PE X a ta)(hb:PE X b tb)(hc:PE X c tc)
  (hm:lastMarks [op,vm] [b,c]=false:=by with_unfolding_all rfl):PT X (.Compare a [op,vm] [b,c] pos) (GQ (BN r r' ta tb tc)):=by
 intro pins s σ H Q I h;refine isTrue_chain (aH (ha pins s σ H _ I h) λv s1 ⟨x,H1,I1,r1,q1⟩=>test_link (aH (hb pins s1 σ H1 _ I1 q1) λu s2 ⟨y,H2,I2,r2,q2⟩ =>aH (ho pins s2 σ H2 x y v u _ I2 r1 r2 q2) λd s3 ⟨z,H3,I3,r3,k,e,q3⟩=>?_)) hm
 subst e;cases r3;refine wpAny_truthy_bool ?_;cases k with
 |false =>obtain⟨k',e',q'⟩:=q3;cases e';exact ite_ff ⟨H3,I3,q'⟩
 |true =>refine ite_tt (test_last (aH (hc pins s3 σ H3 _ I3 q3) λw' s4 ⟨z',H4,I4,r4,q4⟩=>aH (ho' pins s4 σ H4 y z' u w' _ I4 r2 r4 q4) λd' s5 ⟨z2,H5,I5,r5,k2,e2,q5⟩=>?_));subst e2;cases r5;exact wpAny_truthy_bool ⟨H5,I5,q5⟩
def Kx(K:PySem.W.Frag)(x:V)(H:Hp)(k:Bool):Prop:=
 match x with
 |.aN=>k=false
 |.bl b=>k=b
 |.int i=>k=(i !=0)
 |.str y=>y.length<=sizeLine/\k=((y.length:Int) !=0)
 |.jq y=>y.size<=sizeLine/\k=((y.size:Int) !=0)
 |.ref p=>(∃xs,ar K H p xs/\k=!xs.isEmpty)\/(∃xs,aZ K H p xs/\k=!xs.isEmpty)\/∃kvs,H p=some (.dK kvs)/\k=!kvs.isEmpty
 |_=>False
theorem Am{κ:Type}{kvs:List (κ×V)}{vs:List (κ×Value)}(r:KV kvs vs):(!vs.isEmpty)=!kvs.isEmpty:=by cases r<;>rfl
theorem pN{xs:List V}{its:List Value}(r:Vals xs its):(!its.toArray.isEmpty)=!xs.isEmpty:=by cases r<;>simp
theorem iu:(sizeLine:Nat)<2 ^ 63:=by rw[adh];decide
theorem Ky:T6 X (λx H Q=>∃k,Kx X.K x H k/\Q k H):=by
 rintro pins s σ H x v Q I rx ⟨k,e,q⟩;have hl:=iu;have hs:sizeLine=16777216:=adh;cases x with
 |aN =>cases rx;have e':k=false:=e;subst e';exact truthy_none ⟨H,I,q⟩
 |bl b =>cases rx;have e':k=b:=e;subst e';exact wpAny_truthy_bool ⟨H,I,q⟩
 |int i =>obtain⟨t,rfl⟩:=rx;have e':k=(i !=0):=e;subst e';exact PySem.P.truthy_int ⟨H,I,q⟩
 |str y =>obtain⟨t,rfl⟩:=rx;obtain⟨hy,e'⟩:y.length<=sizeLine/\k=((y.length:Int) !=0):=e;subst e';exact PySem.P.truthy_str (by omega) ⟨H,I.tok _,q⟩
 |jq y =>obtain⟨t,rfl⟩:=rx;obtain⟨hy,e'⟩:y.size<=sizeLine/\k=((y.size:Int) !=0):=e;subst e';exact PySem.W.truthy_bytes (by omega) ⟨H,I.tok _,q⟩
 |ref p=>
  cases rx;have e':(∃xs,ar X.K H p xs/\k=!xs.isEmpty)\/(∃xs,aZ X.K H p xs/\k=!xs.isEmpty)\/∃kvs,H p=some (.dK kvs)/\k=!kvs.isEmpty:=e;rcases e' with⟨xs,hx,e'⟩|⟨xs,hx,e'⟩|⟨kvs,hx,e'⟩
  ·subst e';obtain⟨its,r,pl,hz⟩:=I.list hx;have hlen:=r.length;exact wpAny_truthy_list pl.isList (by simp only[aai];omega) ⟨H,I.tok _,by rw[pN r];exact q⟩
  ·subst e';obtain⟨its,r,pl,hz⟩:=I.tuple hx;have hlen:=r.length;exact truthy_tuple pl (by simp only[aai];omega) ⟨H,I.tok _,by rw[pN r];exact q⟩
  ·subst e';obtain⟨hz,hS,vs,r,m⟩:kvs.length<=sizeLine/\(p==sysModules)=false/\∃vs,KV kvs vs/\s.heap.DictOf (bL X.prog X.w) p vs:=I.aG p _ hx;have hlen:kvs.length=vs.length:=acO r;exact wpAny_truthy_dict hS m (by omega) ⟨H,I.tok _,by rw[Am r];exact q⟩
 |_=>exact(show False from e).elim
theorem EB(ha:PE X a ta)(he:∀whole,isTrue a X.env whole=(do let v <-whole;standAt a.pos;holding [v] (truthy v))) :
  PT X a (λσ H Q=>ta σ H λx H'=>∃k,Kx X.K x H' k/\Q k H'):=by
 intro pins s σ H Q I h;exact isTrue_plain (aH (ha pins s σ H _ I h) λv s1 ⟨x,H1,I1,r1,q1⟩=>Ky pins s1 σ H1 x v Q I1 r1 q1) (he _)
theorem pO:cJ X (binaryOp .Add) (λx y H Q=>∃i j,x=.str i/\y=.str j/\i.length+j.length<=sizeLine/\Q (.str (i++j)) H):=by rintro pins s σ H x y v u Q I rx ry ⟨i,j,rfl,rfl,hz,q⟩;obtain⟨t,rfl⟩:=rx;obtain⟨t',rfl⟩:=ry;exact add_str (λt' tk=>⟨.str (i++j),H,I.tok _,⟨_,rfl⟩,q⟩) hz
theorem vals1{x:V}{us:List Value}(r:Vals [x] us):∃u,us=[u]/\RelV x u:=by
 cases r with
 |cons r1 r2=>cases r2;exact⟨_,rfl,r1⟩
theorem vals2{x y:V}{us:List Value}(r:Vals [x,y] us):∃u w',us=[u,w']/\RelV x u/\RelV y w':=by
 cases r with
 |cons r1 r2=>
  cases r2 with
  |cons r3 r4=>cases r4;exact⟨_,_,rfl,r1,r3⟩
theorem EC:bV X (.builtin "abs") (λxs H Q=>∃i,xs=[.int i]/\Q (.int (if i<0 then -i else i)) H):=by rintro pins s σ H xs us Q I r ⟨i,rfl,q⟩;obtain⟨u,rfl,t,rfl⟩:=vals1 r;exact call_abs_int λu tk=>⟨.int (if i<0 then -i else i),H,I.tok _,⟨_,rfl⟩,q⟩
theorem sP(hc:X.calm=true):bV X (.builtin "max") (λxs H Q=>∃i j,xs=[.int i,.int j]/\Q (.int (if j > i then j else i)) H):=by
 rintro pins s σ H xs us Q I r ⟨i,j,rfl,q⟩;obtain⟨u,w',rfl,⟨t,rfl⟩,⟨t',rfl⟩⟩:=vals2 r;refine max_two_ints (I.ok.hd hc) λh' tk k=>⟨_,H,I.kept k,?_,q⟩
 by_cases hj:j > i
 ·rw[if_pos hj,if_pos hj];exact⟨_,rfl⟩
 ·rw[if_neg hj,if_neg hj];exact⟨_,rfl⟩
theorem BP(hc:X.calm=true):bV X (.builtin "min") (λxs H Q=>∃i j,xs=[.int i,.int j]/\Q (.int (if j<i then j else i)) H):=by
 rintro pins s σ H xs us Q I r ⟨i,j,rfl,q⟩;obtain⟨u,w',rfl,⟨t,rfl⟩,⟨t',rfl⟩⟩:=vals2 r;refine min_two_ints (I.ok.hd hc) λh' tk k=>⟨_,H,I.kept k,?_,q⟩
 by_cases hj:j<i
 ·rw[if_pos hj,if_pos hj];exact⟨_,rfl⟩
 ·rw[if_neg hj,if_neg hj];exact⟨_,rfl⟩
theorem sQ:bV X (.type "int") (λxs H Q=>(∃i,xs=[.int i]/\Q (.int i) H)\/∃k,xs=[.bl k]/\Q (.int (if k then 1 else 0)) H):=by
 intro pins s σ H xs us Q I r h;rcases h with⟨i,rfl,q⟩|⟨k,rfl,q⟩
 ·obtain⟨u,rfl,t,rfl⟩:=vals1 r;exact call_int_int ⟨.int i,H,I,⟨_,rfl⟩,q⟩
 ·obtain⟨u,rfl,r1⟩:=vals1 r;cases r1;exact call_int_bool ⟨.int (if k then 1 else 0),H,I.tok _,⟨_,rfl⟩,q⟩
end
structure oH(h:Heap)(x dx C:Addr)(mA:Str->Option Value):Prop where
 obj:h.get? x=some (PySem.W.instObj C dx)
 ns:h.Ns1 dx mA
 ne:dx≠x
theorem sR{h:Heap}{dx:Addr}{mA:Str->Option Value}(n:h.Ns1 dx mA):∃od,h.get? dx=some od/\∀name,PySem.W.lookIn name od=some (mA name):=by
 obtain⟨o,es,ep,ho,hd,hk,_,hm⟩:=n;refine⟨o,ho,λname=>?_⟩;have e:=hm name;unfold nsFind findBy at e;rw[<-aeB] at e;unfold PySem.W.lookIn;rw[hd];dsimp only;split
 ·rename_i y q
  rw[q] at e;exact congrArg some e
 ·rename_i q
  rw[q] at e;have a:es.toList.any (·.refKey)=false:=by rw[List.any_eq_false];intro y hy;obtain⟨z,t,T9⟩:=hk y (aeg.mp hy);simp[DictEntry.refKey,T9]
  have a':¬ es.toList.any (·.refKey)=true:=by rw[a];exact aaw
  rw[if_neg a'];exact congrArg some e
theorem oH.look{h:Heap}{x dx C:Addr}{mA:Str->Option Value}(I:oH h x dx C mA):∃od,PySem.W.InstAt h x (PySem.W.instObj C dx) C (some od)/\∀name,PySem.W.lookIn name od=some (mA name):=
 let ⟨od,ho,hl⟩:=sR I.ns
 ⟨od,⟨I.obj,rfl,rfl,ho⟩,hl⟩
section
variable {prog:Program}{w:World}{A:Around}{E:Value->Shared->Prop}{s:Shared}{K:PySem.W.Frag}{x dx C f:Addr}{mA:Str->Option Value}{name:Str}{v:Value}
theorem get_map{expr:Bool}{Q:Value->Shared->Prop}(X:K.In s.heap)(I:oH s.heap x dx C mA)(hg:PySem.W.plainGet K C name=true)(hh:PySem.W.hasDictIn K C=true)
  (ha:W.findIn K (.ref C) name=some none) (hv:mA name=some v) (hv':W.handedIn v=true) (h:Q v {s with toks:=s.toks+1}) :
  wpAny (model prog w) A (getAttr (.ref x) name expr) Q E s:=by
 obtain⟨od,J,hl⟩:=I.look;exact PySem.W.get_value X J (ada hg).1 (aer hh ha rfl (by rw[hl,hv])) hv' h
theorem ED{pl:Sem Bool}{Q:Value×List Value->Shared->Prop}(X:K.In s.heap)(I:oH s.heap x dx C mA)(hg:PySem.W.plainGet K C name=true)
  (hf:W.findIn K (.ref C) name=some (some (.ref f))) (ht:W.isFn K (.ref f)=true) (hv:mA name=none) (h:Q (.ref f,[.ref x]) s) :
  wpAny (model prog w) A (getMethod (.ref x) name pl) Q E s:=by
 obtain⟨od,J,hl⟩:=I.look;exact PySem.W.method_fn X J (ada hg).1 (ada hg).2 hf (beq_iff_eq.mp ht) (by show(PySem.W.lookIn name od).map (·.isSome)=some false;rw[hl,hv];rfl) h
theorem Iu{ns:List Str}{Q:Unit->Shared->Prop}(X:K.In s.heap)(I:oH s.heap x dx C mA)
  (hs:W.findIn K (.ref C) "__setattr__" = some (some (.builtin "object.__setattr__"))) (hp:W.plainOver K C=true) (ht:W.takerIn K C name=some none) (hh:W.hasDictIn K C=true)
  (hw:PySem.Within mA ns) (hsz:ns.length<=sizeLine)
  (h:∀h',oH h' x dx C (λy=>if y=name then some v else mA y)->Heap.SameBut dx s.heap h'->Q () {s with heap:=h',toks:=s.toks+2}) :
  wpAny (model prog w) A (setAttr (.ref x) name v) Q E s:=by
 obtain⟨od,J,hl⟩:=I.look;refine aeQ X J hs (PySem.W.osa_open (s:={s with toks:=s.toks+1}) (r:=none) X J hp ht λb=>?_);obtain⟨cd,hc,nJ⟩:=ae8 hh;have hx:s.heap.get? x=some ⟨.ref C,some dx,.plain,#[]⟩:=I.obj;refine wpAny_bind (wpAny_pure (wpAny_bind (wpAny_bind (wpAny_loadPart hx (wpAny_bind (acp (s:={s with toks:=s.toks+1}) (adb X hc) ?_))))));rw[nJ];refine wpAny_pure (a:=some dx) (wpAny_bind (wpAny_pure (wpAny_bind ?_)));refine wpAny_nsSet1 (s:={s with toks:=s.toks+1}) I.ns λh' hn2 hs2=>?_;obtain⟨oD,V7,V8,Kz,KA,lJ⟩:=hn2.count (agr name v hw);refine wpAny_bind (wpAny_lookBehind Kz (by rw[KA];exact ae9 (aam lJ (by rw[aaH];omega))) ?_);exact wpAny_pure (h _ ⟨(hs2.2 _ (aaI I.ne)).trans I.obj,hn2,I.ne⟩ hs2)
theorem EE{R:Result->Shared->Prop}{vs:List Value}{kw:List (Str×Value)}(X:K.In s.heap)(hm:PySem.W.makesIn K C=true)
  (hi:W.findIn K (.ref C) "__init__" = some (some (.ref f))) (hf:W.typeIn K (.ref f)=some (.type "function"))
  (h:codeAny (model prog w) (A.under (.builtin "type.__call__" ⟨.ref C::vs,kw⟩)) (.call (.ref f) ⟨.ref (s.heap.objs.size+1)::vs,kw⟩) (PySem.W.InitBack (s.heap.objs.size+1) R)
   {s with heap:=(s.heap.push PySem.W.emptyDict).push (PySem.W.instObj C s.heap.objs.size)}) :
  codeAny (model prog w) A (.call (.ref C) ⟨vs,kw⟩) R s:=by
 obtain⟨hh,g,d,t,os⟩:=s;exact PySem.W.make_core (PySem.W.makes_of X hm) (abw X hi) (λself=>PySem.W.bind_fn X self hf) (.inl rfl) h
end
def df(f:Str)(v:V):List (Str×V)->List (Str×V)
 |[]=>[(f,v)]
 |(g,x)::r=>if g=f then (g,v)::r else (g,x)::df f v r
theorem nN(f g:Str)(v:V):∀fs:List (Str×V),(df f v fs).lookup g=if g=f then some v else fs.lookup g
 |[]=>by
  show List.lookup g [(f,v)]=_
  by_cases h:g=f
  ·have hb:(g==f)=true:=beq_iff_eq.mpr h;simp only[List.lookup,hb,if_pos h]
  ·have hb:(g==f)=false:=beq_eq_false_iff_ne.mpr h;simp only[List.lookup,hb,if_neg h]
 |(k,x)::r=>by
  have ih:=nN f g v r;rw[show df f v ((k,x)::r)=(if k=f then (k,v)::r else (k,x)::df f v r) from rfl];by_cases hk:k=f
  ·rw[if_pos hk];by_cases h:g=k
   ·have hb:(g==k)=true:=beq_iff_eq.mpr h;simp only[List.lookup,hb,if_pos (h.trans hk)]
   ·have hb:(g==k)=false:=beq_eq_false_iff_ne.mpr h;simp only[List.lookup,hb,if_neg (λe:g=f=>h (e.trans hk.symm))]
  ·rw[if_neg hk];by_cases h:g=k
   ·have hb:(g==k)=true:=beq_iff_eq.mpr h;simp only[List.lookup,hb,if_neg (λe:g=f=>hk (h.symm.trans e))]
   ·have hb:(g==k)=false:=beq_eq_false_iff_ne.mpr h;simp only[List.lookup,hb];exact ih
theorem lK(f:Str)(v:V):∀fs:List (Str×V),f∈(df f v fs).map (·.1)/\∀g,g∈fs.map (·.1)->g∈(df f v fs).map (·.1)
 |[]=>⟨by simp[df],λg h=>by simp at h⟩
 |(k,x)::r=>by
  obtain⟨i1,i2⟩:=lK f v r;rw[show df f v ((k,x)::r)=(if k=f then (k,v)::r else (k,x)::df f v r) from rfl];by_cases hk:k=f
  ·rw[if_pos hk];subst hk;exact⟨by simp,λg h=>by simpa using h⟩
  ·rw[if_neg hk];refine⟨?_,λg h=>?_⟩
   ·rw[aaE];exact aae _ i1
   ·rw[aaE] at h⊢;rcases aah.mp h with e|e
    ·exact aah.mpr (.inl e)
    ·exact aae _ (i2 g e)
theorem nO(f:Str)(v:V):∀fs:List (Str×V),(df f v fs).length<=fs.length+1
 |[]=>by simp[df]
 |(k,x)::r=>by
  have ih:=nO f v r;rw[show df f v ((k,x)::r)=(if k=f then (k,v)::r else (k,x)::df f v r) from rfl];by_cases hk:k=f
  ·rw[if_pos hk,aaH,aaH];omega
  ·rw[if_neg hk,aaH,aaH];omega
theorem eJ.some_of{v:V}{o:Option Value}(r:eJ (some v) o):∃u,o=some u/\RelV v u:=by
 cases o with
 |none=>exact(show False from r).elim
 |some u=>exact⟨u,rfl,r⟩
theorem eJ.none_of{o:Option Value}(r:eJ none o):o=none:=by
 cases o with
 |none=>rfl
 |some u=>exact(show False from r).elim
theorem sT{v:V}{u:Value}(r:RelV v u):PySem.W.handedIn u=true:=by
 cases v with
 |aN=>cases (show u=Value.none from r);rfl
 |bl b=>cases (show u=Value.bool b from r);rfl
 |int i=>obtain⟨t,e⟩:=(show ∃t,u=Value.int i t from r);cases e;rfl
 |str x=>obtain⟨t,e⟩:=(show ∃t,u=Value.str x t from r);cases e;rfl
 |jq b=>obtain⟨t,e⟩:=(show ∃t,u=Value.bytes b t from r);cases e;rfl
 |lD b=>obtain⟨t,e⟩:=(show ∃t,u=Value.float b t from r);cases e;rfl
 |ref a=>cases (show u=Value.ref a from r);rfl
 |ty n=>cases (show u=Value.type n from r);rfl
section
variable {P:Program}{w:World}{H H':Hp}{h h':Heap}{a C dx:Addr}{fs VX:List (Str×V)}
theorem gg(aG:cG P w H h)(e:H a=some (.ins C dx fs)):∃mA,oH h a dx C mA/\(∀f,eJ (fs.lookup f) (mA f))/\PySem.Within mA (fs.map (·.1))/\fs.length<=1000/\H dx=some (.own a):=by
 obtain⟨d,z,ne,ob,mA,n,r,q⟩:=(show bc P w H h a (.ins C dx fs) from aG a _ e)
 exact⟨mA,⟨ob,n,ne⟩,r,q,z,d⟩
end
structure lL(K:PySem.W.Frag)(C:Addr):Prop where
 pg:PySem.W.plainGet K C Str.empty=true
 hd:PySem.W.hasDictIn K C=true
 po:PySem.W.plainOver K C=true
 sa:PySem.W.findIn K (.ref C) "__setattr__" = some (some (.builtin "object.__setattr__"))
theorem lL.get{K:PySem.W.Frag}{C:Addr}(c:lL K C)(f:Str):PySem.W.plainGet K C f=true:=c.pg
def dE(K:PySem.W.Frag)(C:Addr)(f:Str):Prop:=PySem.W.findIn K (.ref C) f=some none
theorem dE.OZ{K:PySem.W.Frag}{C:Addr}{f:Str}(n:dE K C f):PySem.W.takerIn K C f=some none:=by unfold PySem.W.takerIn;rw[show PySem.W.findIn K (.ref C) f=some none from n];rfl
structure Meth(K:PySem.W.Frag)(C:Addr)(m:Str)(f:Addr):Prop where
 at_:PySem.W.findIn K (.ref C) m=some (some (.ref f))
 fn:PySem.W.isFn K (.ref f)=true
 kp:PySem.W.keepIn K (.ref f)=true
section
variable {X:Cx}{pins:List (Addr×Obj)}{σ:St}{H:Hp}{s:Shared}{a C dx:Addr}{fs:List (Str×V)}{f:Str}{v:V}{A:Around}{E:Value->Shared->Prop}
theorem An{b:Bool}{Q:Value->Shared->Prop}(I:Inv X pins σ H s)(e:H a=some (.ins C dx fs))(c:lL X.K C)(n:dE X.K C f)(l:fs.lookup f=some v)
  (h:∀u s',Inv X pins σ H s'->RelV v u->Q u s'):wpAny (model X.prog X.w) A (getAttr (.ref a) f b) Q E s:=by
 obtain⟨mA,O,r,_,_,_⟩:=gg I.aG e;obtain⟨u,hu,ru⟩:=eJ.some_of (v:=v) (o:=mA f) (by rw[<-l];exact r f);exact get_map I.cD O (c.get f) c.hd n hu (sT ru) (h u _ (I.tok _) ru)
theorem pP{m:Str}{g:Addr}{pl:Sem Bool}{Q:Value×List Value->Shared->Prop}(I:Inv X pins σ H s)(e:H a=some (.ins C dx fs))(c:lL X.K C)(k:Meth X.K C m g)(l:fs.lookup m=none)
  (h:Q (.ref g,[.ref a]) s):wpAny (model X.prog X.w) A (getMethod (.ref a) m pl) Q E s:=by
 obtain⟨mA,O,r,_,_,_⟩:=gg I.aG e;have hn:mA m=none:=eJ.none_of (by rw[<-l];exact r m);exact ED I.cD O (c.get m) k.at_ k.fn hn h
theorem Ao{y:V}{u:Value}{Q:Unit->Shared->Prop}(I:Inv X pins σ H s)(e:H a=some (.ins C dx fs))(c:lL X.K C)(n:dE X.K C f)(hl:fs.length<1000)(ry:RelV y u)
  (h:∀s',Inv X pins σ (upd H a (.ins C dx (df f y fs))) s'->Q () s'):wpAny (model X.prog X.w) A (setAttr (.ref a) f u) Q E s:=by
 obtain⟨mA,O,r,wi,_,ho⟩:=gg I.aG e;have hz:(fs.map (·.1)).length<=sizeLine:=by rw[aaa,adh];omega
 refine Iu I.cD O c.sa c.po n.OZ c.hd wi hz λh' O' sb=>h _ ?_;have hd:∃o,h'.get? dx=some o:=let ⟨o,_,_,e',_⟩:=O'.ns;⟨o,e'⟩
 refine I.write (x:=a) (e:=dx) (by rw[e];exact True.intro) (.inr ho) (λb q hb z=>(sb.2 b hb).trans z) hd ?_;refine⟨by rw[aq O.ne];exact ho,?_,O.ne,O'.obj,_,O'.ns,λg=>?_,λg hg=>?_⟩
 ·have:=nO f y fs;omega
 ·show eJ ((df f y fs).lookup g) (if g=f then some u else mA g)
  rw[nN];by_cases q:g=f
  ·rw[if_pos q,if_pos q];exact ry
  ·rw[if_neg q,if_neg q];exact r g
 ·by_cases q:g=f
  ·rw[q];exact(lK f y fs).1
  ·refine(lK f y fs).2 g (wi g λz=>hg ?_);show(if g=f then some u else mA g)=none
   rw[if_neg q];exact z
theorem Inv.made(I:Inv X pins σ H s):Inv X pins σ (upd (upd H s.heap.objs.size (.own (s.heap.objs.size+1))) (s.heap.objs.size+1) (.ins C s.heap.objs.size []))
  {s with heap:=(s.heap.push PySem.W.emptyDict).push (PySem.W.instObj C s.heap.objs.size)}:=by
 have e1:(s.heap.push PySem.W.emptyDict).get? s.heap.objs.size=some PySem.W.emptyDict:=aaq s.heap rfl;have e2:((s.heap.push PySem.W.emptyDict).push (PySem.W.instObj C s.heap.objs.size)).get? (s.heap.objs.size+1)=some (PySem.W.instObj C s.heap.objs.size):=by
  have:=aaq (s.heap.push PySem.W.emptyDict) (o:=PySem.W.instObj C s.heap.objs.size) rfl
  rwa [aa1] at this
 have e3:(s.heap.push PySem.W.emptyDict).Ns s.heap.objs.size (λ_=>none):=⟨PySem.W.emptyDict,#[],_,e1,rfl,(λe he=>absurd he (by simp)),λ_=>rfl⟩
 have I1:=I.laid (a:=s.heap.objs.size) (o:=.own (s.heap.objs.size+1)) (h':=s.heap.push PySem.W.emptyDict) (t':=s.toks) (λb u q=>aab _ q) (aac _) ⟨_,e1⟩;refine I1.laid (a:=s.heap.objs.size+1) (o:=.ins C s.heap.objs.size []) (t':=s.toks) (λb u q=>aab _ q) (af1 (aa1 _ _)) ?_;have ne:s.heap.objs.size≠s.heap.objs.size+1:=aar (aba _);refine⟨by rw[aq ne,af],aaG _,ne,e2,λ_=>none,(aeR e3).at λo q=>aab _ q,λ_=>True.intro,λy hy=>absurd rfl hy⟩
theorem yL{prog:Program}{w:World}{env:Env}{e:Expr}{f:Str}{pos:Pos}{s:Shared}{Q:Value->Shared->Prop}(hb:attributeBase e f env (eval e env)=eval e env)
  (h:wpAny (model prog w) A (eval e env) (λo s₁=>wpAny (model prog w) A (getAttr o f true) Q E s₁) E s):wpAny (model prog w) A (eval (.Attribute e f pos) env) Q E s:=
 Attribute_any_ h (by rw[arm_eval_Attribute,hb])
end
def Ua(K:PySem.W.Frag)(ta:TE)(f:Str):TE:=λσ H Q=>ta σ H λx H1=>∃a C dx fs v,x=.ref a/\H1 a=some (.ins C dx fs)/\lL K C/\dE K C f/\fs.lookup f=some v/\Q v H1
def Ub(K:PySem.W.Frag)(ta tv:TE)(f:Str):TS:=λD σ H=>tv σ H λy H1=>ta σ H1 λx H2=>∃a C dx fs,x=.ref a/\H2 a=some (.ins C dx fs)/\lL K C/\dE K C f/\fs.length<1000 /\
 D.nx σ (upd H2 a (.ins C dx (df f y fs)))
section
variable {X:Cx}{o e value:Expr}{f:Str}{pos pos' Uc:Pos}{ta tv:TE}
theorem lM(he:PE X e ta)(hb:attributeBase e f X.env (eval e X.env)=eval e X.env):PE X (.Attribute e f pos) (Ua X.K ta f):=by intro pins s σ H Q I h;refine yL hb (aH (he pins s σ H _ I h) λu s1 ⟨x,H1,I1,rx,a,C,dx,fs,v,ex,ea,c,n,l,q⟩=>?_);subst ex;obtain rfl:u=Value.ref a:=rx;exact An I1 ea c n l λu' s2 I2 ru=>⟨v,H1,I2,ru,q⟩
theorem BQ(ha:PE X o ta)(hv:PE X value tv)(hs:swapsWith value (some (.Attribute o f pos')) pos.line X.env=pure false):PS X (.Assign [.Attribute o f pos'] value pos) (Ub X.K ta tv f):=by intro pins s σ H D I h;refine acW (aH (hv pins s σ H _ I h) λu s1 ⟨y,H1,I1,ry,q⟩=>aH (ha pins s1 σ H1 _ I1 q) λov s2 ⟨x,H2,I2,rx,a,C,dx,fs,ex,ea,c,n,l,q2⟩=>?_) hs;subst ex;obtain rfl:ov=Value.ref a:=rx;exact Ao I2 ea c n l ry λs3 I3=>⟨σ,_,I3,q2⟩
end
section
variable {X:Cx}{pins:List (Addr×Obj)}{σ:St}{H:Hp}{s:Shared}{A:Around}{E:Value->Shared->Prop}{Q:Value->Shared->Prop}{c:Value}{b:Bool}
inductive cn (K:PySem.W.Frag) (H:Hp):V->Value->Prop where
 |aN:cn K H .aN (.type "NoneType")
 |bl (x:Bool):cn K H (.bl x) (.type "bool")
 |int (i:Int):cn K H (.int i) (.type "int")
 |str (x:Str):cn K H (.str x) (.type "str")
 |lD (x:UInt64):cn K H (.lD x) (.type "float")
 |lst {a:Addr} {xs:List V} (e:H a=some (.lst xs)):cn K H (.ref a) (.type "list")
 |gD {a:Addr} {o:Obj} {xs:List V} (e:H a=some (.gD o (.lst xs))):cn K H (.ref a) (.type "list")
 |tup {a:Addr} {xs:List V} (e:H a=some (.tup xs)):cn K H (.ref a) (.type "tuple")
 |dK {a:Addr} {kvs:List (Key×V)} (e:H a=some (.dK kvs)):cn K H (.ref a) (.type "dict")
 |dT {a:Addr} {kvs:List (List Key×V)} (e:H a=some (.dT kvs)):cn K H (.ref a) (.type "dict")
 |ins {a C dx:Addr} {fs:List (Str×V)} (e:H a=some (.ins C dx fs)) (cl:lL K C) (ha:PySem.W.findIn K (.ref C) "__class__" = some (some (.builtin "object.__class__")))
   (hn:PySem.W.specialIn K (.builtin "object.__class__") "__get__" = some (some (.builtin "getset_descriptor.__get__"))) (htk:PySem.W.takesIn K (.builtin "object.__class__")=some true)
   (hm:PySem.W.mroIn K C (.type "object")=some true):cn K H (.ref a) (.ref C)
theorem BR{x:V}{u t:Value}(I:Inv X pins σ H s)(rx:RelV x u)(ty:cn X.K H x t)(e:PySem.W.kitOne X.K t c=some b)(h:∀tk,Q (.bool b) {s with toks:=tk}) :
  wpAny (model X.prog X.w) A (call (.builtin "isinstance") [u,c]) Q E s:=by
 cases ty with
 |aN=>cases (show u=Value.none from rx);exact abi PySem.W.kitx_none I.cD True.intro e (λz=>nomatch z) h
 |bl y=>cases (show u=Value.bool y from rx);exact abi PySem.W.kitx_bool I.cD True.intro e (λz=>nomatch z) h
 |int i=>obtain⟨t,q⟩:=(show ∃t,u=Value.int i t from rx);cases q;exact abi PySem.W.kitx_int I.cD True.intro e (λz=>nomatch z) h
 |str y=>obtain⟨t,q⟩:=(show ∃t,u=Value.str y t from rx);cases q;exact abi PySem.W.kitx_str I.cD True.intro e (λz=>nomatch z) h
 |lD y=>obtain⟨t,q⟩:=(show ∃t,u=Value.float y t from rx);cases q;exact abi PySem.W.kitx_float I.cD True.intro e (λz=>nomatch z) h
 |@lst a xs ea=>
  cases (show u=Value.ref a from rx);obtain⟨_,_,n,_,h1⟩:=(show bc X.prog X.w H s.heap a (.lst xs) from I.aG a _ ea)
  exact abi aeS I.cD ⟨_,h1,rfl⟩ e (λz=>nomatch z) h
 |@gD a ob xs ea=>
  cases (show u=Value.ref a from rx);obtain⟨_,_,_,n,_,h1⟩:=(show bc X.prog X.w H s.heap a (.gD ob (.lst xs)) from I.aG a _ ea)
  exact abi aeS I.cD ⟨_,h1,rfl⟩ e (λz=>nomatch z) h
 |@tup a xs ea=>
  cases (show u=Value.ref a from rx);obtain⟨_,_,_,p⟩:=(show bc X.prog X.w H s.heap a (.tup xs) from I.aG a _ ea)
  obtain⟨o,h1,h2,_⟩:=p;exact abi PySem.W.kitx_tuple I.cD ⟨o,h1,h2⟩ e (λz=>nomatch z) h
 |@dK a kvs ea=>
  cases (show u=Value.ref a from rx);obtain⟨_,_,vs,_,p⟩:=(show bc X.prog X.w H s.heap a (.dK kvs) from I.aG a _ ea)
  obtain⟨o,es,ep,h1,h2,_⟩:=p;exact abi aeT I.cD ⟨o,h1,h2.1⟩ e (λz=>nomatch z) h
 |@dT a kvs ea=>
  cases (show u=Value.ref a from rx);obtain⟨_,_,xs,_,o,es,ep,h1,h2,_⟩:=(show bc X.prog X.w H s.heap a (.dT kvs) from I.aG a _ ea)
  exact abi aeT I.cD ⟨o,h1,h2.1⟩ e (λz=>nomatch z) h
 |@ins a C dx fs ea cl ha hn htk hm =>cases (show u=Value.ref a from rx);obtain⟨mA,O,_⟩:=gg I.aG ea;obtain⟨od,J,_⟩:=O.look;exact abi (PySem.W.kitx_own (cl.get _) cl.hd ha hn htk hm) I.cD J e (λz=>nomatch z) h
end
structure bW(k:Nat)(A:Around):Prop where
 hd:A.handled=none
 dp:A.depth+3*k+5<recursionLimit
 un:A.units+16*k+200<cLine
 gd:A.guards=some []
theorem bW.mono{j k:Nat}{A:Around}(r:bW k A)(h:j<=k):bW j A:=⟨r.hd,by have:=r.dp;omega,by have:=r.un;omega,r.gd⟩
theorem bW.deeper{k:Nat}{A:Around}(r:bW (k+1) A)(env:Env):bW k (A.deeper env):=
 ⟨r.hd,by have:=r.dp;show A.depth+1+3*k+5<_;omega,by have:=r.un;show A.units+3+16*k+200<_;omega,r.gd⟩
theorem yl{A:Around}{C:Addr}{us:List Value}{kw:List (Str×Value)}(h:A.guards=some []):(A.under (.builtin "type.__call__" ⟨.ref C::us,kw⟩)).guards=some []:=by
 have e:(Code.builtin "type.__call__" ⟨.ref C::us,kw⟩).isGuard=false:=by first|rfl|simp[Code.isGuard,guardIds]
 have q:∀c:Code,(A.under c).guards=pushGuards c.guards A.guards:=λ_=>rfl;rw[q,h,Code.guards,e];rfl
theorem Aq{A:Around}{C:Addr}{us:List Value}{kw:List (Str×Value)}:(A.under (.builtin "type.__call__" ⟨.ref C::us,kw⟩)).depth=A.depth+1:=by first|rfl|simp[Around.under,Code.weight,Code.isCreation,Code.isGuard,Code.isCaller,Code.frames,Code.isFrame,guardIds]
theorem Ar{A:Around}{C:Addr}{us:List Value}{kw:List (Str×Value)}:(A.under (.builtin "type.__call__" ⟨.ref C::us,kw⟩)).units=A.units+1:=by first|rfl|simp[Around.under,Code.cUnits,Code.frames,Code.isFrame]
theorem bW.make{k:Nat}{A:Around}(r:bW (k+1) A)(C:Addr)(us:List Value)(kw:List (Str×Value)):bW k (A.under (.builtin "type.__call__" ⟨.ref C::us,kw⟩)):=
 ⟨r.hd,by have:=r.dp;rw[Aq];omega,by have:=r.un;rw[Ar];omega,yl r.gd⟩
theorem bW.depth{k:Nat}{A:Around}(r:bW k A):A.depth<recursionLimit:=by have:=r.dp;omega
theorem bW.units{k:Nat}{A:Around}(r:bW k A):A.units+64<cLine:=by have:=r.un;omega
def As:TA:=λ_ H Q=>Q [] H
def uJ(ta:TE)(tr:TA):TA:=λσ H Q=>ta σ H λx H1=>tr σ H1 λxs H2=>Q (x::xs) H2
section
variable {X:Cx}{e:Expr}{es:List Expr}{te:TE}{t:TA}{pos:Pos}
theorem ae:PA X [] As:=λ_ _ _ _ H Q I h=>acE ⟨[],H,I,.nil,h⟩
theorem aa(ha:PE X e te)(hr:PA X es t)(hs:starEach (e::es) X.env=(false,eval e X.env)::starEach es X.env:=by rfl):PA X (e::es) (uJ te t):=by
 intro pos pins s σ H Q I h;rw[hs];show wpAny _ _ (spliced ((false,eval e X.env)::backTo pos (starEach es X.env))) _ _ s
 refine acq (aH (ha pins s σ H _ I h) λu s1 ⟨x,H1,I1,r1,q1⟩=>?_);exact aH (hr pos pins s1 σ H1 _ I1 q1) λus s2 ⟨xs,H2,I2,r2,q2⟩=>⟨x::xs,H2,I2,.cons r1 r2,q2⟩
def KC(t:TA):TE:=λσ H Q=>t σ H λxs H1=>xs.length<=sizeLine/\∀p,H1 p=none->Q (.ref p) (upd H1 p (.tup xs))
def Ud(t:TA):TE:=λσ H Q=>t σ H λxs H1=>xs.length<=sizeLine/\∀p,H1 p=none->Q (.ref p) (upd H1 p (.lst xs))
theorem cK{x1}(h:PA X es t):PE X (.Tuple es x1 pos) (KC t):=by intro pins s σ H Q I hq;refine wpAny_Tuple_spliced (aH (h pos pins s σ H _ I hq) λus s1 ⟨xs,H1,I1,r,z,q⟩=>⟨by rw[<-r.length];exact z,?_⟩);have hf:H1 s1.heap.objs.size=none:=I1.aG.fresh (aac _);refine⟨.ref s1.heap.objs.size,upd H1 s1.heap.objs.size (.tup xs),I1.laid (t':=s1.toks) (λb u e=>aab _ e) (aac _) ?_,rfl,q _ hf⟩;exact⟨z,us,r,⟨_,aaq _ rfl,rfl,_,rfl⟩⟩
theorem br(h:PA X es t):PE X (.List es pos) (Ud t):=by intro pins s σ H Q I hq;refine wpAny_List_spliced (aH (h pos pins s σ H _ I hq) λus s1 ⟨xs,H1,I1,r,z,q⟩=>⟨by rw[<-r.length];exact z,?_⟩);have hf:H1 s1.heap.objs.size=none:=I1.aG.fresh (aac _);refine⟨.ref s1.heap.objs.size,upd H1 s1.heap.objs.size (.lst xs),I1.laid (t':=s1.toks) (λb u e=>aab _ e) (aac _) ?_,rfl,q _ hf⟩;exact⟨z,us,0,r,aaq _ rfl⟩
end
abbrev Sp:=List V->Hp->VK->XK->Prop
abbrev gj:=List Env->Hp->Shared->XK->Value->Shared->Prop
structure oJ(P:Program)(w:World)(K:PySem.W.Frag)(mg:Str->Option Value)(base:Heap)(A:Around)(outer:List Env)(s:Shared)(H:Hp):Prop where
 frames:A.frames=some outer
 mod:Mod K mg base
 bs:∀b o,base.get? b=some o->s.heap.get? b=some o/\H b=none
 nH:base.objs.size<=s.heap.objs.size
 g0:s.heap.FunFrames base outer
 sJ:∀b∈cj outer,H b=none
 aG:cG P w H s.heap
 bare:AllBare s.gens
def CE(outer:List Env)(P:Program)(w:World)(H:Hp)(s:Shared)(Q:VK)(u:Value)(s':Shared):Prop:=
 ∃v H',s'.os=s.os/\AllBare s'.gens/\Un (cj outer) [] H H' s.heap s'.heap/\cG P w H' s'.heap/\RelV v u/\Q v H'
def CR(CX:gj)(outer:List Env)(P:Program)(w:World)(H:Hp)(s:Shared)(Q:VK)(E:XK)(r:Result)(s':Shared):Prop:=
 match r with
 |.ok (.ret u)=>CE outer P w H s Q u s'
 |.ok _=>False
 |.error e=>CX outer H s E e s'
structure ak(P:Program)(w:World)(K:PySem.W.Frag)(mg:Str->Option Value)(base:Heap)(CX:gj)(k:Nat)(f:Addr)(fd:FuncData)(ps:List Str)(sp:Sp):Prop where
 len:∀vs H Q E,sp vs H Q E->vs.length=ps.length
 run:∀(A:Around) (outer:List Env) (s:Shared) (H:Hp) (args:Args) (us:List Value) (vs:List V) (Q:VK) (E:XK),bW k A->oJ P w K mg base A outer s H->BindsTo s fd args (ps.zip us)->Vals vs us->sp vs H Q E ->
  codeAny (model P w) A (.call (.ref f) args) (CR CX outer P w H s Q E) s
theorem ak.imp{P:Program}{w:World}{K:PySem.W.Frag}{mg:Str->Option Value}{base:Heap}{CX:gj}{k:Nat}{f:Addr}{fd:FuncData}{ps:List Str}{sp BS:Sp}(F:ak P w K mg base CX k f fd ps sp)
  (h:∀vs H Q E,BS vs H Q E->sp vs H Q E):ak P w K mg base CX k f fd ps BS:=
 ⟨λvs H Q E q=>F.len vs H Q E (h _ _ _ _ q),λA outer s H args us vs Q E hr he hb hv hs=>F.run A outer s H args us vs Q E hr he hb hv (h _ _ _ _ hs)⟩
theorem oJ.make{P:Program}{w:World}{K:PySem.W.Frag}{mg:Str->Option Value}{base:Heap}{A:Around}{outer:List Env}{s:Shared}{H:Hp}(e:oJ P w K mg base A outer s H)(C:Addr)(us:List Value)(kw:List (Str×Value)) :
  oJ P w K mg base (A.under (.builtin "type.__call__" ⟨.ref C::us,kw⟩)) outer s H:=⟨by first|exact e.frames|(simpa [Around.under,Code.envs,Code.isFrame,pushEnvs] using e.frames),e.mod,e.bs,e.nH,e.g0,e.sJ,e.aG,e.bare⟩
section
variable {X:Cx}{pins:List (Addr×Obj)}{σ:St}{H:Hp}{s s':Shared}
theorem Inv.Au(I:Inv X pins σ H s):oJ X.prog X.w X.K X.mg X.base X.A X.stack s H:=
 ⟨I.ok.frames,I.ok.mod,I.bs,aam I.ok.nH I.sz,I.stack,I.mU,I.aG,I.bare⟩
theorem Inv.after{Q:VK}{u:Value}(I:Inv X pins σ H s)(h:CE X.stack X.prog X.w H s Q u s'):EP X pins σ Q u s':=by obtain⟨v,H',os,bare,un,aG,r,q⟩:=h;obtain⟨hh,g,d,t,V9⟩:=s';obtain rfl:V9=s.os:=os;exact⟨v,H',I.call (h':=hh) (g':=g) (d':=d) (t':=t) (ch:=[]) un aG bare (λb z=>absurd z (by simp)),r,q⟩
end
def O1(sp:Sp)(dvs:List V)(E:XK)(t:TA):TE:=λσ H Q=>t σ H λvs H1=>sp (vs++dvs) H1 Q E
def GU(C:Addr)(m:Str)(sp:Sp)(dvs:List V)(E:XK)(ta:TE)(t:TA):TE:=λσ H Q=>ta σ H λx H1=>∃a dx fs,x=.ref a/\H1 a=some (.ins C dx fs)/\fs.lookup m=none /\
 t σ H1 λvs H2=>sp (x::(vs++dvs)) H2 Q E
def O2(C:Addr)(sp:Sp)(dvs:List V)(E:XK)(t:TA):TE:=λσ H Q=>t σ H λvs H1=>∀x dx,H1 x=none->H1 dx=none->dx≠x ->
 sp (.ref x::(vs++dvs)) (upd (upd H1 dx (.own x)) x (.ins C dx [])) (λv H2=>v=.aN/\Q (.ref x) H2) E
def Binds(K:PySem.W.Frag)(fd:FuncData)(ps:List Str)(ds:List Value):Prop:=
 ∀(s:Shared) (us:List Value),K.In s.heap->(us++ds).length=ps.length->BindsTo s fd ⟨us,[]⟩ (ps.zip (us++ds))
theorem Binds.all{K:PySem.W.Frag}{fd:FuncData}{ps:List Str}(h:∀us:List Value,us.length=ps.length->bindArgs fd ⟨us,[]⟩=pure (ps.zip us)):Binds K fd ps []:=λs us _ hl=>by rw[abA] at hl⊢;exact .of_eq (h us hl)
def Passes(CX:gj)(X:Cx)(E:XK):Prop:=∀(pins:List (Addr×Obj)) (σ:St) (H:Hp) (s:Shared) (e:Value) (s':Shared),Inv X pins σ H s->CX X.stack H s E e s'->X.xe e s'
section
variable {X:Cx}{CX:gj}{k:Nat}{f C:Addr}{fd:FuncData}{ps:List Str}{sp:Sp}{dvs:List V}{ds:List Value}{E:XK}{x m:Str}{p pos apos:Pos}{e o:Expr}{es:List Expr}{ta:TE}{t:TA}
theorem vn{pins:List (Addr×Obj)}{σ:St}{H:Hp}{s:Shared}{Q:VK}{us:List Value}{vs:List V}(F:ak X.prog X.w X.K X.mg X.base CX k f fd ps sp)(hr:bW k X.A)(hb:Binds X.K fd ps ds)(hd:Vals dvs ds)(hx:Passes CX X E)
  (I:Inv X pins σ H s) (r:Vals vs us) (h:sp (vs++dvs) H Q E):wpAny (model X.prog X.w) X.A (call (.ref f) us) (EP X pins σ Q) X.xe s:=by
 have r2:Vals (vs++dvs) (us++ds):=r.append hd;have hl:(us++ds).length=ps.length:=by rw[<-r2.length];exact F.len _ _ _ _ h
 refine acX (codeAny_mono (F.run X.A X.stack s H ⟨us,[]⟩ (us++ds) (vs++dvs) Q E hr I.Au (hb s us I.cD hl) r2 h) λr s' hq=>?_);cases r with
 |error e=>exact hx pins σ H s e s' I hq
 |ok fl=>
  cases fl with
  |ret u=>exact I.after hq
  |next=>exact False.elim hq
  |brk=>exact False.elim hq
  |cont=>exact False.elim hq
theorem aw(F:ak X.prog X.w X.K X.mg X.base CX k f fd ps sp)(hr:bW k X.A)(hg:Gl X x)(hm:X.mg x=some (.ref f))(hk:PySem.W.keepIn X.K (.ref f)=true)(hb:Binds X.K fd ps ds)(hd:Vals dvs ds)(hx:Passes CX X E)
  (ha:PA X (e::es) t) (hdb:(x==("__debug__" : Str))=false:=by decide) (he:starEach (e::es) X.env=(false,eval e X.env)::starEach es X.env:=by rfl) (hpl:(backTo pos (starEach es X.env)).any (·.1)=false:=by rfl) :
  PE X (.Call (.Name x p) (e::es) [] pos) (O1 sp dvs E t):=by
 intro pins s σ H Q I h;refine aa8 (gc I hg hm ?_ hdb);refine acr (h₀:=X.base) I.ok.mod.sI hk (aH (ha pos pins s σ H _ I h) λus s1 ⟨vs,H1,I1,r,q⟩=>⟨I1.cD,?_⟩) he hpl;exact vn F hr hb hd hx I1 r q
theorem yM{pl:Sem Bool}(he:PE X o ta)(c:lL X.K C)(hm:Meth X.K C m f)(F:ak X.prog X.w X.K X.mg X.base CX k f fd ps sp)(hr:bW k X.A)(hb:Binds X.K fd ps ds)(hd:Vals dvs ds)(hx:Passes CX X E)(ha:PA X (e::es) t)
  (hst:starEach (e::es) X.env=(false,eval e X.env)::starEach es X.env:=by rfl) (hpl:(backTo pos (starEach es X.env)).any (·.1)=false:=by rfl)
  (ht:eval (.Call (.Attribute o m apos) (e::es) [] pos) X.env=(do
   let ov <-eval o X.env
   standAt apos.atName
   let (f,first) <-holding [ov] (getMethod ov m pl)
   callWith pos f first (backTo pos (starEach (e::es) X.env)) (backToKw pos (keywordEach [] X.env))):=by rfl) :
  PE X (.Call (.Attribute o m apos) (e::es) [] pos) (GU C m sp dvs E ta t):=by
 intro pins s σ H Q I h;refine ad6 (pl:=pl) (aH (he pins s σ H _ I h) λu s1 ⟨x,H1,I1,rx,a,dx,fs,ex,ea,l,q⟩=>?_) ht;subst ex;obtain rfl:u=Value.ref a:=rx;refine pP I1 ea c hm l ?_;refine acr (first:=[.ref a]) (h₀:=X.base) I.ok.mod.sI hm.kp (aH (ha pos pins s1 σ H1 _ I1 q) λus s2 ⟨vs,H2,I2,r,q2⟩=>⟨I2.cD,?_⟩) hst hpl;exact vn (us:=.ref a::us) (vs:=.ref a::vs) F hr hb hd hx I2 (.cons rfl r) q2
theorem dg{pl:Sem Bool}(he:PE X o ta)(c:lL X.K C)(hm:Meth X.K C m f)(F:ak X.prog X.w X.K X.mg X.base CX k f fd ps sp)(hr:bW k X.A)(hb:Binds X.K fd ps ds)(hd:Vals dvs ds)(hx:Passes CX X E)
  (ht:eval (.Call (.Attribute o m apos) [] [] pos) X.env=(do
   let ov <-eval o X.env
   standAt apos.atName
   let (f,first) <-holding [ov] (getMethod ov m pl)
   callWith pos f first (backTo pos (starEach [] X.env)) (backToKw pos (keywordEach [] X.env))):=by rfl) :
  PE X (.Call (.Attribute o m apos) [] [] pos) (GU C m sp dvs E ta As):=by
 intro pins s σ H Q I h;refine ad6 (pl:=pl) (aH (he pins s σ H _ I h) λu s1 ⟨x,H1,I1,rx,a,dx,fs,ex,ea,l,q⟩=>?_) ht;subst ex;obtain rfl:u=Value.ref a:=rx;refine pP I1 ea c hm l ?_;exact PySem.W.callWith_K0 (first:=[.ref a]) I1.cD hm.kp (vn (us:=[.ref a]) (vs:=[.ref a]) F hr hb hd hx I1 (.cons rfl .nil) q)
structure Mk(K:PySem.W.Frag)(C f:Addr):Prop where
 makes:PySem.W.makesIn K C=true
 init:PySem.W.findIn K (.ref C) "__init__" = some (some (.ref f))
 fn:PySem.W.isFn K (.ref f)=true
 kp:PySem.W.keepIn K (.ref C)=true
theorem EF{pins:List (Addr×Obj)}{σ:St}{H:Hp}{s:Shared}{Q:VK}{us:List Value}{vs:List V}(M:Mk X.K C f)(F:ak X.prog X.w X.K X.mg X.base CX k f fd ps sp)(hr:bW (k+1) X.A)(hb:Binds X.K fd ps ds)(hd:Vals dvs ds)
  (hx:Passes CX X E) (I:Inv X pins σ H s) (r:Vals vs us)
  (h:∀x dx,H x=none->H dx=none->dx≠x->sp (.ref x::(vs++dvs)) (upd (upd H dx (.own x)) x (.ins C dx [])) (λv H2=>v=.aN/\Q (.ref x) H2) E) :
  wpAny (model X.prog X.w) X.A (call (.ref C) us) (EP X pins σ Q) X.xe s:=by
 have hq:=h (s.heap.objs.size+1) s.heap.objs.size (I.aG.fresh (aa7 _)) (I.aG.fresh (aac _)) (aar (aba _));have I2:=Inv.made (C:=C) I;have r2:Vals (V.ref (s.heap.objs.size+1)::(vs++dvs)) (Value.ref (s.heap.objs.size+1)::(us++ds)):=.cons rfl (r.append hd);have hl:(Value.ref (s.heap.objs.size+1)::us++ds).length=ps.length:=by have e:=r2.length;rw[F.len _ _ _ _ hq] at e;exact e.symm
 refine acX (EE (f:=f) I.cD M.makes M.init (beq_iff_eq.mp M.fn) (codeAny_mono (F.run _ X.stack _ _ ⟨Value.ref (s.heap.objs.size+1)::us,[]⟩ (Value.ref (s.heap.objs.size+1)::(us++ds)) _ _ E (hr.make C us [])
  (I2.Au.make C us []) (hb _ (Value.ref (s.heap.objs.size+1)::us) I2.cD hl) r2 hq) λr s' nQ=>?_))
 cases r with
 |error e=>exact hx pins σ _ _ e s' I2 nQ
 |ok fl=>
  cases fl with
  |ret u =>obtain⟨v,H',I3,rv,ev,q3⟩:=I2.after nQ;subst ev;exact⟨rv,⟨V.ref (s.heap.objs.size+1),H',I3,rfl,q3⟩⟩
  |next=>exact False.elim nQ
  |brk=>exact False.elim nQ
  |cont=>exact False.elim nQ
theorem yN(M:Mk X.K C f)(F:ak X.prog X.w X.K X.mg X.base CX k f fd ps sp)(hr:bW (k+1) X.A)(hg:Gl X x)(hm:X.mg x=some (.ref C))(hb:Binds X.K fd ps ds)(hd:Vals dvs ds)(hx:Passes CX X E)
  (ha:PA X (e::es) t) (hdb:(x==("__debug__" : Str))=false:=by decide) (he:starEach (e::es) X.env=(false,eval e X.env)::starEach es X.env:=by rfl) (hpl:(backTo pos (starEach es X.env)).any (·.1)=false:=by rfl) :
  PE X (.Call (.Name x p) (e::es) [] pos) (O2 C sp dvs E t):=by
 intro pins s σ H Q I h;refine aa8 (gc I hg hm ?_ hdb);refine acr (h₀:=X.base) I.ok.mod.sI M.kp (aH (ha pos pins s σ H _ I h) λus s1 ⟨vs,H1,I1,r,q⟩=>⟨I1.cD,?_⟩) he hpl;exact EF M F hr hb hd hx I1 r q
end
structure aF(N P:List Str)(sc:Scope):Prop where
 kind:sc.kind=.function
 co:sc.isCoroutine=false
 gen:sc.isGenerator=false
 nd:N.Nodup
 pre:N.take P.length=P
 par:∀x∈P,sc.names.lookup x=some .local\/sc.names.lookup x=some .cell
 KG:∀y∈sc.names,y.2≠.free
theorem sU{kindOf:Str->Option NameKind}{x:Str}:∀{binds:List (Str×Value)} {m:Str->Option Value},(∀v,(x,v)∉binds)->bindL kindOf binds m x=m x
 |[],_,_=>rfl
 |(n,v)::r,m,h=>by
  unfold bindL;rw[sU λw hw=>h w (aae _ hw)];split
  ·have:x≠n:=by rintro rfl;exact h v aal
   simp[this]
  ·rfl
theorem sV{kindOf:Str->Option NameKind}{x:Str}:∀{binds:List (Str×Value)} {m:Str->Option Value},(∀v,(x,v)∉binds)->bindC kindOf binds m x=m x
 |[],_,_=>rfl
 |(n,v)::r,m,h=>by
  unfold bindC;rw[sV λw hw=>h w (aae _ hw)];split
  ·rfl
  ·have:x≠n:=by rintro rfl;exact h v aal
   simp[this]
theorem sW{kindOf:Str->Option NameKind}{x:Str}{v:Value}:∀{P:List Str} {vs:List Value} {i:Nat} {m:Str->Option Value},P.Nodup->P[i]?=some x->vs[i]?=some v->kindOf x=some .local ->
  bindL kindOf (P.zip vs) m x=some v
 |[],_,_,_,_,h,_,_=>by simp at h
 |_::_,[],_,_,_,_,h,_=>by simp at h
 |p::P,w::vs,0,m,nd,h1,h2,hk=>by
  simp at h1 h2;subst h1;subst h2;show bindL kindOf ((p,w)::P.zip vs) m p=_
  unfold bindL;rw[sU λv hv=>(aaT.mp nd).1 (aco hv).1,if_pos hk];simp
 |p::P,w::vs,i+1,m,nd,h1,h2,hk=>by
  show bindL kindOf ((p,w)::P.zip vs) m x=_
  unfold bindL;exact sW (i:=i) (aaT.mp nd).2 (by simpa using h1) (by simpa using h2) hk
theorem sZ{kindOf:Str->Option NameKind}{x:Str}{v:Value}:∀{P:List Str} {vs:List Value} {i:Nat} {m:Str->Option Value},P.Nodup->P[i]?=some x->vs[i]?=some v->kindOf x≠some .local ->
  bindC kindOf (P.zip vs) m x=some v
 |[],_,_,_,_,h,_,_=>by simp at h
 |_::_,[],_,_,_,_,h,_=>by simp at h
 |p::P,w::vs,0,m,nd,h1,h2,hk=>by
  simp at h1 h2;subst h1;subst h2;show bindC kindOf ((p,w)::P.zip vs) m p=_
  unfold bindC;rw[sV λv hv=>(aaT.mp nd).1 (aco hv).1,if_neg hk];simp
 |p::P,w::vs,i+1,m,nd,h1,h2,hk=>by
  show bindC kindOf ((p,w)::P.zip vs) m x=_
  unfold bindC;exact sZ (i:=i) (aaT.mp nd).2 (by simpa using h1) (by simpa using h2) hk
def start(N:List Str)(vs:List V):St:=vs.map some++List.replicate (N.length-vs.length) none
def cT(CX:gj)(P:Program)(w:World)(K:PySem.W.Frag)(mg:Str->Option Value)(base:Heap)(N:List Str)(qual:Str)(scope:Scope)(f:Addr)(cd:Value)(A:Around)(outer:List Env)(s:Shared)(H:Hp)(E:XK):Cx where
 prog:=P
 w:=w
 K:=K
 mg:=mg
 base:=base
 A:=A.deeper (envOfC qual scope s.heap.objs.size f cd)
 N:=N
 s₀:=s
 H₀:=H
 env:=envOfC qual scope s.heap.objs.size f cd
 outer:=outer
 stack:=envOfC qual scope s.heap.objs.size f cd::outer
 ex:=[]
 calm:=true
 fn:=λ_=>true
 pn:=[]
 xe:=λe s'=>wpAny (model P w) (A.deeper (envOfC qual scope s.heap.objs.size f cd)) (leaving (envOfC qual scope s.heap.objs.size f cd) e) (λ_ pQ=>CX outer H s E e pQ) (λe' pQ=>CX outer H s E e' pQ) s'
theorem vo{sc:Scope}{n:Nat}{x:Str}(h:sc.names.lookup x=some .cell):∃c,(cellsFrom n sc.names []).lookup x=some c:=by have q:=adU sc.names n [] (.inl h);exact acs.mp q
theorem BU{CX:gj}{P:Program}{w:World}{K:PySem.W.Frag}{mg:Str->Option Value}{base:Heap}{N ps:List Str}{qual:Str}{scope:Scope}{f:Addr}{cd:Value}{A:Around}{outer:List Env}{s s1:Shared}{H:Hp}{E:XK}{us:List Value}{vs:List V}
  (S:aF N ps scope) (hd:A.handled=none) (e0:oJ P w K mg base A outer s H) (hl:vs.length=ps.length) (r:Vals vs us)
  (x:InCallC s s.heap.objs.size (bindL (envOfC qual scope s.heap.objs.size f cd).kindOf (ps.zip us) λ_=>none) (cellsFrom (s.heap.objs.size+1) scope.names []) (bindC (envOfC qual scope s.heap.objs.size f cd).kindOf (ps.zip us) λ_=>none) s1) :
  Inv (cT CX P w K mg base N qual scope f cd A outer s H E) [] (start N vs) H s1:=by
 have hpl:ps.length<=N.length:=by have:=congrArg List.length S.pre;rw[aaP] at this;omega
 obtain⟨h1,tk,rfl,hk⟩:=x.done;have noA:∀b:Addr,b∉(cT CX P w K mg base N qual scope f cd A outer s H E).ex:=λb z=>absurd (show b∈([]:List Addr) from z) (by simp);refine⟨⟨e0.mod,S.kind,rfl,rfl,aac _,λy z c h1 h2=>?_,λy hy=>?_,λy c _ h=>?_,λ_=>hd,Around.frames_deeper e0.frames,.inr ⟨rfl,rfl⟩,λb z=>absurd z (noA b),e0.bs,e0.nH,λb _ _=>noA b,λb z=>absurd z (noA b),e0.g0,e0.sJ⟩,
  rfl,e0.bare,Un.kept hk,⟨_,x.toInCall.ns,λi y v h1 h2 h3=>?_⟩,λy c h=>⟨_,x.cell y c h⟩,e0.aG.fresh (aac _),λy c h=>?_,λp hp=>absurd (show p∈([]:List (Addr×Obj)) from hp) (by simp),e0.aG.kept hk,?_⟩
 ·exact name_of_addr x.apart (aaY h1) (aaY h2)
 ·have hy:scope.names.lookup y=some .cell\/scope.names.lookup y=some .free:=hy;rcases hy with hy|hy
  ·exact vo hy
  ·exact absurd rfl (S.KG _ (aaY hy))
 ·exact aaU (x.above y c (aaY h))
 ·have hi:i<vs.length:=by
   unfold start at h2;by_cases hi:i<vs.length
   ·exact hi
   ·rw[abn (by simpa using hi)] at h2;rw[abP] at h2;split at h2<;>cases h2
  have ha:vs[i]?=some v:=by
   unfold start at h2;rw[aa6 (by simpa using hi),aan] at h2;cases e:vs[i]? with
   |none=>rw[e] at h2;cases h2
   |some a=>rw[e] at h2;cases h2;rfl
  obtain⟨u,hu,rv⟩:=r.get ha;have hp:ps[i]?=some y:=by rw[<-S.pre,List.getElem?_take_of_lt (by omega)];exact h1
  have QM:ps.Nodup:=by rw[<-S.pre];exact S.nd.sublist (List.take_sublist _ _)
  refine⟨u,rv,?_⟩;rcases S.par y (aak hp) with k|k
  ·exact .inl ⟨k,sW QM hp hu k⟩
  ·obtain⟨c,e⟩:=vo (n:=s.heap.objs.size+1) k;refine .inr ⟨.inl k,c,e,?_⟩;have q:=x.cell y c e;rw[sZ QM hp hu (by show scope.names.lookup y≠_;rw[k];decide)] at q;exact q
 ·exact e0.aG.fresh (aaU (x.above y c (aaY h)))
 ·unfold start;show _=N.length
  rw[aay,aaa,abX];omega
theorem Av{CX:gj}{P:Program}{w:World}{K:PySem.W.Frag}{mg:Str->Option Value}{base:Heap}{k:Nat}{f:Addr}{name qual:Str}{params:Arguments}{body:List Stmt}{scope:Scope}{dV kV doc pm cdv ct oc:Value}{an od:Option Addr}
  {osl:Array (Option Value)} {N ps:List Str} {sp:Sp} (lk:K.lookup f=some ⟨oc,od,.func (PySem.W.fnOf name qual params body scope dV kV doc pm an cdv ct),osl⟩) (hcd:PySem.W.codeIn K cdv qual=true) (S:aF N ps scope)
  (len:∀vs H Q E,sp vs H Q E->vs.length=ps.length)
  (hbody:∀(A:Around) (outer:List Env) (s:Shared) (H:Hp) (vs:List V) (Q:VK) (E:XK),bW k (A.deeper (envOfC qual scope s.heap.objs.size f cdv))->sp vs H Q E ->
   ∃t,iq (cT CX P w K mg base N qual scope f cdv A outer s H E) body t/\t {nx:=λ_ H'=>Q .aN H',rt:=Q} (start N vs) H) :
  ak P w K mg base CX (k+1) f (PySem.W.fnOf name qual params body scope dV kV doc pm an cdv ct) ps sp:=by
 refine⟨len,λA outer s H args us vs Q E hr e0 hb r hsp=>?_⟩;have hl:=len _ _ _ _ hsp;have KX:K.In s.heap:=e0.mod.sI.keeps λb o e=>(e0.bs b o e).1;have lim:s.heap.NoLimit:=e0.mod.nolimit.keeps λb o e=>(e0.bs b o e).1;have O3:∀y∈ps.zip us,scope.names.lookup y.1=some .local\/(scope.names.lookup y.1=some .cell/\((cellsFrom (s.heap.objs.size+1) scope.names []).lookup y.1).isSome=true):=λ⟨n,v⟩ hy=>by
  rcases S.par n (aco hy).1 with q|q
  ·exact .inl q
  ·exact .inr ⟨q,adU _ _ _ (.inl q)⟩
 refine codeAny_call_function hr.depth (KX _ _ lk) rfl S.co S.gen rfl (PySem.W.codeRec_of KX hcd) (hb _ _ _ _ ?_);refine wpAny_newFunctionEnv_cells S.kind O3 λenv he s1 x=>?_;subst he;refine⟨lim.keeps x.toInCall.keep,codeAny_func ?_⟩;obtain⟨t,ht,hq⟩:=hbody A outer s H vs Q E (hr.deeper _) hsp;have I:Inv (cT CX P w K mg base N qual scope f cdv A outer s H E) [] (start N vs) H s1:=BU S hr.hd e0 hl r x;refine wpAny_mono (ht [] s1 (start N vs) H _ I hq) (λfl s' hs=>?_) λe s' hs=>hs;have fin:∀{σ':St} {H':Hp} {v:V} {u:Value},Inv (cT CX P w K mg base N qual scope f cdv A outer s H E) [] σ' H' s'->RelV v u->Q v H'->CE outer P w H s Q u s':=
  λ{σ' H' v u} J rv q=>⟨v,H',J.os,J.bare,J.base,J.aG,rv,q⟩
 cases fl with
 |ret u =>obtain⟨v,σ',H',J,rv,q⟩:=hs;exact fin J rv q
 |next =>obtain⟨σ',H',J,q⟩:=hs;exact fin (v:=V.aN) (u:=Value.none) J rfl q
 |brk =>obtain⟨_,_,_,q⟩:=hs;exact False.elim q
 |cont =>obtain⟨_,_,_,q⟩:=hs;exact False.elim q
section
variable {X:Cx}{x:Str}{p pos:Pos}{e:Expr}{es:List Expr}{t:TA}{id T:String}{r:List V->Hp->VK->Prop}
def QN(r:List V->Hp->VK->Prop)(t:TA):TE:=λσ H Q=>t σ H λvs H1=>r vs H1 Q
theorem ay(hc:bV X (.builtin id) r)(hg:Gl X x)(hm:X.mg x=none)(hv:bootBuiltins x=some (.builtin id))(ha:PA X (e::es) t)(hn:x≠"__name__" := by decide)(hdb:(x==("__debug__" : Str))=false:=by decide)
  (he:starEach (e::es) X.env=(false,eval e X.env)::starEach es X.env:=by rfl) (hpl:(backTo pos (starEach es X.env)).any (·.1)=false:=by rfl):PE X (.Call (.Name x p) (e::es) [] pos) (QN r t):=by
 intro pins s σ H Q I h;refine aa8 (d7 I hg hm hv ?_ hn hdb);exact acY (aH (ha pos pins s σ H _ I h) λus s1 ⟨vs,H1,I1,r1,q1⟩=>hc pins s1 σ H1 vs us Q I1 r1 q1) he hpl
theorem bD(hc:bV X (.type T) r)(hg:Gl X x)(hm:X.mg x=none)(hv:bootBuiltins x=some (.type T))(ha:PA X (e::es) t)(hn:x≠"__name__" := by decide)(hdb:(x==("__debug__" : Str))=false:=by decide)
  (he:starEach (e::es) X.env=(false,eval e X.env)::starEach es X.env:=by rfl) (hpl:(backTo pos (starEach es X.env)).any (·.1)=false:=by rfl):PE X (.Call (.Name x p) (e::es) [] pos) (QN r t):=by
 intro pins s σ H Q I h;refine aa8 (d7 I hg hm hv ?_ hn hdb);exact aa0 (aH (ha pos pins s σ H _ I h) λus s1 ⟨vs,H1,I1,r1,q1⟩=>hc pins s1 σ H1 vs us Q I1 r1 q1) he hpl
end
end L2
namespace HT
open PySem PyProof.Rows
section
open PySem.SeqAt
open PySem.AutoSeq1 (wpAny_loadPart')
open PySem.MeetsSeq PySem.MeetsSeq2 PySem.MeetsSeq3
end
section
variable {prog:Program}{w:World}{A:Around}{E:Value->Shared->Prop}{s:Shared}
def iL(n d:Nat):Option Int->Nat
 |none=>d
 |some v=>if v<0 then (v+(n:Int)).toNat else min v.toNat n
end
end HT
namespace L2
open PySem PySem.Spec PyProof.Rows
abbrev TO:=St->Hp->(Option Int->Hp->Prop)->Prop
def PO(X:Cx)(e:Option Expr)(t:TO):Prop:=
 ∀(pins:List (Addr×Obj)) (s:Shared) (σ:St) (H:Hp) (Q:Option Int->Hp->Prop),Inv X pins σ H s->t σ H Q ->
  wpAny (model X.prog X.w) X.A (evalPart e X.env) (λu s'=>∃o H',Inv X pins σ H' s'/\IsPart u o/\Q o H') X.xe s
def Iv:TO:=λ_ H Q=>Q none H
def O4(t:TE):TO:=λσ H Q=>t σ H λx H1=>∃i,x=.int i/\Q (some i) H1
theorem intsAre_of{ns:List Int}:∀{us:List Value},Vals (ns.map V.int) us->IntsAre us ns:=by
 induction ns with
 |nil=>intro us r;rw[adE] at r;cases r;exact .nil
 |cons n ns ih=>
  intro us r;rw[aaE] at r;cases r with
  |cons r1 r2 =>obtain⟨t,e⟩:=r1;subst e;exact .cons n t (ih r2)
section
variable {X:Cx}{e:Expr}{te:TE}{lo hi:Option Expr}{tl th:TO}{pos p2:Pos}
theorem mW:PO X none Iv:=by intro pins s σ H Q I h;rw[aen];exact wpAny_pure ⟨none,H,I,.none,h⟩
theorem jO(h:PE X e te):PO X (some e) (O4 te):=by intro pins s σ H Q I hw;rw[evalPart_some];refine aH (h pins s σ H _ I hw) λu s1 ⟨x,H1,I1,r1,q1⟩=>?_;obtain⟨i,rfl,q⟩:=q1;obtain⟨t,rfl⟩:=r1;exact⟨some i,H1,I1,.int i t,q⟩
def KH(X:Cx)(r:V->Option Int->Option Int->Hp->VK->Prop):Prop:=
 ∀(pins:List (Addr×Obj)) (s:Shared) (σ:St) (H:Hp) (x:V) (v vl vu:Value) (lo hi:Option Int) (sl:Addr) (Q:VK),Inv X pins σ H s->RelV x v->s.heap.IsSliceOf sl vl vu .none->IsPart vl lo->IsPart vu hi->r x lo hi H Q ->
  ∃T id,typeLookup (.type T) "__getitem__" = pure (some (.builtin id))/\s.TypeIs v T/\wpAny (model X.prog X.w) X.A (getItem v (.ref sl)) (EP X pins σ Q) X.xe s
def V'(r:V->Option Int->Option Int->Hp->VK->Prop)(te:TE)(tl th:TO):TE:=λσ H Q=>te σ H λx H1=>tl σ H1 λl H2=>th σ H2 λu H3=>r x l u H3 Q
theorem kh{r:V->Option Int->Option Int->Hp->VK->Prop}(hr:KH X r)(he:PE X e te)(hl:PO X lo tl)(hu:PO X hi th):PE X (.Subscript e (.Slice lo hi none p2) pos) (V' r te tl th):=by
 intro pins s σ H Q I h;refine aeh (aH (he pins s σ H _ I h) λv s1 ⟨x,H1,I1,r1,q1⟩=>?_);refine wpAny_Slice (aH (hl pins s1 σ H1 _ I1 q1) λvl s2 ⟨l,H2,I2,pl,q2⟩=>aH (hu pins s2 σ H2 _ I2 q2) λvu s3 ⟨u,H3,I3,pu,q3⟩=>?_);rw[aen];refine wpAny_pure ?_;have I4:Inv X pins σ H3 {s3 with heap:=s3.heap.push {cls:=.type "slice",data:=.fields #[vl,vu,.none]} }:=I3.kept (t':=s3.toks) λb ob q=>aab _ q;obtain⟨T,id,hT,ht,hg⟩:=hr pins {s3 with heap:=s3.heap.push {cls:=.type "slice",data:=.fields #[vl,vu,.none]} } σ H3 x v vl vu l u s3.heap.objs.size Q I4 r1 (aeC ..) pl pu q3;show wpAny (model X.prog X.w) X.A (subscriptTail e (.Slice lo hi none p2) v (.ref s3.heap.objs.size)) (EP X pins σ Q) X.xe {s3 with heap:=s3.heap.push {cls:=.type "slice",data:=.fields #[vl,vu,.none]} }
 exact af2 (ops:=[.ref s3.heap.objs.size,v]) ht hT hg (by with_unfolding_all rfl)
def eE(xs:List V)(lo hi:Option Int):List V:=(xs.drop (HT.iL xs.length 0 lo)).take (HT.iL xs.length xs.length hi-HT.iL xs.length 0 lo)
theorem ig(xs:List V)(lo hi:Option Int):(eE xs lo hi).length<=xs.length:=by unfold eE;rw[aaP,adF];omega
end
def vp(n:Nat)(i:Int):Option Nat:=if 0<=i then (if i<n then some i.toNat else none) else if -(n:Int)<=i then some (i+n).toNat else none
def iM{α:Type}(xs:List α)(i:Int):Option α:=(vp xs.length i).bind λj=>xs[j]?
theorem yO{n:Nat}{i:Int}{j:Nat}(h:vp n i=some j):seqIndex? i n=some j/\j<n/\-(n:Int)<=i/\i<n:=by
 unfold vp at h;by_cases h0:0<=i
 ·rw[if_pos h0] at h;by_cases h1:i<n
  ·rw[if_pos h1] at h;have e:i.toNat=j:=aat h;exact⟨by rw[ae2 h0 h1,e],by omega,by omega,h1⟩
  ·rw[if_neg h1] at h;cases h
 ·rw[if_neg h0] at h;by_cases h1:-(n:Int)<=i
  ·rw[if_pos h1] at h;have e:(i+n).toNat=j:=aat h;exact⟨by rw[aeD (by omega) h1,e],by omega,h1,by omega⟩
  ·rw[if_neg h1] at h;cases h
theorem qT{α:Type}{xs:List α}{i:Int}{v:α}(h:iM xs i=some v):∃j,seqIndex? i xs.length=some j/\xs[j]?=some v/\j<xs.length/\-(xs.length:Int)<=i/\i<xs.length:=by
 unfold iM at h;cases e:vp xs.length i with
 |none=>rw[e] at h;cases h
 |some j =>rw[e] at h;obtain⟨h1,h2,h3,h4⟩:=yO e;exact⟨j,h1,h,h2,h3,h4⟩
theorem aQ{α:Type}{xs:List α}{j:Nat}{v:α}(h:xs[j]?=some v):iM xs (j:Int)=some v:=by
 have hj:j<xs.length:=(aaB.mp h).1;have e:vp xs.length (j:Int)=some j:=by unfold vp;rw[if_pos (by omega),if_pos (by omega)];simp
 unfold iM;rw[e];exact h
def Iw(b:Expr):Prop:=∀o i,subscripted b false o i=operate [o,i] (getItem o i)
def GV(X:Cx)(r:R2):Prop:=
 ∀(value slice:Expr) (pins:List (Addr×Obj)) (s:Shared) (σ:St) (H:Hp) (x y:V) (v u:Value) (Q:VK),Inv X pins σ H s->RelV x v->RelV y u->r x y H Q ->
  subscripted slice false v u=operate [v,u] (getItem v u)->wpAny (model X.prog X.w) X.A (subscriptTail value slice v u) (EP X pins σ Q) X.xe s
def KI(X:Cx)(id:String)(r:V->List V->Hp->VK->Prop):Prop:=
 ∀(pins:List (Addr×Obj)) (s:Shared) (σ:St) (H:Hp) (x:V) (xs:List V) (v:Value) (us:List Value) (Q:VK),Inv X pins σ H s->RelV x v->Vals xs us->r x xs H Q ->
  wpAny (model X.prog X.w) X.A (call (.builtin id) (v::us)) (EP X pins σ Q) X.xe s
section
variable {X:Cx}{a b:Expr}{ta tb:TE}{pos:Pos}
theorem aY{r:R2}(hr:GV X r)(ha:PE X a ta)(hb:PE X b tb)(hs:Iw b):PE X (.Subscript a b pos) (GH r ta tb):=by intro pins s σ H Q I h;exact aeh (Ey ha hb I h λv u s2 x y H2 I2 rx ry q=>hr a b pins s2 σ H2 x y v u Q I2 rx ry q (hs _ _))
def qU(K:PySem.W.Frag):R2:=λx y H Q=>∃p xs i v,x=.ref p/\y=.int i/\ar K H p xs/\iM xs i=some v/\Q v H
def vq(K:PySem.W.Frag):R2:=λx y H Q=>∃p xs i v,x=.ref p/\y=.int i/\aZ K H p xs/\iM xs i=some v/\Q v H
def Ue:R2:=λx y H Q=>∃z i c,x=.str z/\y=.int i/\z.length<=sizeLine/\iM z.cps.toList i=some c/\Q (.str ⟨#[c]⟩) H
theorem bj:GV X (qU X.K):=by
 intro value slice pins s σ H x y v u Q I rx ry h hs;obtain⟨p,xs,i,z,rfl,rfl,hq,he,q⟩:=h;cases rx;obtain⟨t,rfl⟩:=ry;obtain⟨its,r,pl,hz⟩:=I.list hq;obtain⟨j,h1,h2,h3,h4,h5⟩:=qT he;obtain⟨w,ew,lG⟩:=r.get h2;have hl:=r.length;have hn:=iu;have fin:EP X pins σ Q w s:=⟨z,H,I,lG,q⟩
 by_cases h0:0<=i
 ·have hj:i.toNat=j:=by rw[ae2 h0 h5] at h1;exact aat h1
  exact item_listR pl.isList h0 (by omega) (by rw[hj];simpa using ew) fin hs
 ·have hj:(i+(its.toArray.size:Int)).toNat=j:=by rw[aeD (by omega) h4] at h1;rw[aai,<-hl];exact aat h1
  exact adV (x:=w) pl.isList.typeIs slot_list_getitem.lookup
   (wpAny_getItem_list_neg (Q:=λr s'=>r=w/\EP X pins σ Q r s') pl.isList (by omega) (by rw[aai]<;>omega) (by omega) (by rw[hj];simpa using ew) ⟨rfl,fin⟩) hs
theorem cL:GV X (vq X.K):=by
 intro value slice pins s σ H x y v u Q I rx ry h hs;obtain⟨p,xs,i,z,rfl,rfl,hq,he,q⟩:=h;cases rx;obtain⟨t,rfl⟩:=ry;obtain⟨its,r,pl,hz⟩:=I.tuple hq;obtain⟨j,h1,h2,h3,h4,h5⟩:=qT he;obtain⟨w,ew,lG⟩:=r.get h2;have hl:=r.length;have hn:=iu;have fin:EP X pins σ Q w s:=⟨z,H,I,lG,q⟩
 exact adV (x:=w) pl.typeIs slot_tuple_getitem.lookup
  (getItem_tuple (j:=j) (Q:=λr s'=>r=w/\EP X pins σ Q r s') pl (by omega) (by omega) (by rw[aai,<-hl];exact h1) (by simpa using ew) ⟨rfl,fin⟩) hs
theorem KJ:GV X Ue:=by
 intro value slice pins s σ H x y v u Q I rx ry h hs;obtain⟨z,i,c,rfl,rfl,hz,he,q⟩:=h;obtain⟨t,rfl⟩:=rx;obtain⟨t',rfl⟩:=ry;obtain⟨j,h1,h2,h3,h4,h5⟩:=qT he;have hl:z.cps.toList.length=z.length:=by simp[Str.length]
 rw[hl] at h1 h4 h5;have hn:=iu;exact af2 (typeIs_str s z t) slot_str_getitem.lookup (getItem_str (c:=c) (by have e1:decide (i < -(2 ^ 63:Int))=false:=aaA (by omega);have e2:decide (i ≥ 2 ^ 63)=false:=aaA (by omega);rw[e1,e2,aeo]) (by rw[h1];simpa using h2) ⟨.str ⟨#[c]⟩,H,I.tok _,⟨_,rfl⟩,q⟩) hs
theorem Aw(its:List Value)(n j:Nat)(u:Value):Obj.mapSeq (·.setIfInBounds j u) {cls:=.type "list",data:=.seq its.toArray n}={cls:=.type "list",data:=.seq (its.set j u).toArray n}:=by simp[Obj.mapSeq]
theorem Inv.lst{pins:List (Addr×Obj)}{σ:St}{H:Hp}{s:Shared}{p:Addr}{xs:List V}(I:Inv X pins σ H s)(h:H p=some (.lst xs)) :
  ∃(its:List Value) (n:Nat),Vals xs its/\s.heap.get? p=some {cls:=.type "list",data:=.seq its.toArray n}/\xs.length<=sizeLine:=by
 obtain⟨z,its,n,r,e⟩:=I.aG p _ h;exact⟨its,n,r,e,z⟩
theorem Inv.KL{pins:List (Addr×Obj)}{σ:St}{H:Hp}{s:Shared}{p:Addr}{xs ys:List V}{its its':List Value}{n n':Nat}{f:Obj->Obj}(I:Inv X pins σ H s)(h:H p=some (.lst xs))
  (ho:s.heap.get? p=some {cls:=.type "list",data:=.seq its.toArray n}) (hf:f {cls:=.type "list",data:=.seq its.toArray n}={cls:=.type "list",data:=.seq its'.toArray n' }) (r:Vals ys its') (hz:ys.length<=sizeLine) (t:Nat) :
  Inv X pins σ (upd H p (.lst ys)) {s with heap:=s.heap.update p f,toks:=t}:=by
 have e:(s.heap.update p f).get? p=some {cls:=.type "list",data:=.seq its'.toArray n' }:=by rw[aaZ f ho (by rw[hf]<;>rfl),hf]
 refine I.write (x:=p) (e:=p) (by rw[h];trivial) (.inl rfl) (λb u hb q=>(aaQ _ _ (aaI hb)).trans q) ⟨_,e⟩ ?_;exact⟨hz,its',n',r,e⟩
def O5:V->V->V->Hp->(Hp->Prop)->Prop:=λo i v H Q=>∃p xs k j,o=.ref p/\i=.int k/\H p=some (.lst xs)/\vp xs.length k=some j/\Q (upd H p (.lst (xs.set j v)))
theorem set_list:Kl X O5:=by
 rintro pins s σ H o i v ov iv u Q I ro ri rv ⟨p,xs,k,j,rfl,rfl,hp,hj,q⟩;cases ro;obtain⟨t,rfl⟩:=ri;obtain⟨its,n,r,ho,hz⟩:=I.lst hp;obtain⟨h1,h2,h3,h4⟩:=yO hj;have hl:=r.length;have hn:=iu;have I':Inv X pins σ (upd H p (.lst (xs.set j v))) {s with heap:=s.heap.update p (Obj.mapSeq (·.setIfInBounds j u))}:=
  I.KL hp ho (Aw its n j u) (r.set rv j) (by rw[List.length_set];exact hz) s.toks
 by_cases h0:0<=k
 ·have hk:k.toNat=j:=by rw[ae2 h0 h4] at h1;exact aat h1
  exact PySem.W.ki_setAt ho h0 (by omega) (by rw[aai,<-hl];exact h4) (by rw[hk];exact⟨_,I',q⟩)
 ·have hk:(k+(its.toArray.size:Int)).toNat=j:=by rw[aeD (by omega) h3] at h1;rw[aai,<-hl];exact aat h1
  exact PySem.W.ki_setBack ho (by omega) (by rw[aai,<-hl];exact h3) (by omega) (by rw[hk];exact⟨_,I',q⟩)
theorem vt(lo hi:Option Int)(n:Nat):(sliceBounds lo hi none n).1=((HT.iL n 0 lo:Nat):Int)/\(sliceBounds lo hi none n).2.1=((HT.iL n n hi:Nat):Int)/\(sliceBounds lo hi none n).2.2=1:=by
 refine⟨?_,?_,rfl⟩
 ·cases lo with
  |none=>simp[sliceBounds,HT.iL]
  |some i=>
   simp only[sliceBounds,HT.iL,ae',show(1:Int) > 0 by decide,aa3];by_cases h:i<0
   ·simp only[h,aa3]<;>omega
   ·simp only[h,aa9]<;>omega
 ·cases hi with
  |none=>simp[sliceBounds,HT.iL]
  |some i=>
   simp only[sliceBounds,HT.iL,ae',show(1:Int) > 0 by decide,aa3];by_cases h:i<0
   ·simp only[h,aa3]<;>omega
   ·simp only[h,aa9]<;>omega
theorem uD(its:List Value)(lo hi:Option Int):slicePick its.toArray lo hi none=((its.drop (HT.iL its.length 0 lo)).take (HT.iL its.length its.length hi-HT.iL its.length 0 lo)).toArray:=by obtain⟨h1,h2,h3⟩:=vt lo hi its.toArray.size;unfold slicePick;rw[h1,h2,h3];simp only[sliceRange_one,pick_run,aai]<;>rfl
def Ug(K:PySem.W.Frag):V->Option Int->Option Int->Hp->VK->Prop:=λx lo hi H Q=>∃a xs,x=.ref a/\ar K H a xs/\∀p,H p=none->Q (.ref p) (upd H p (.lst (eE xs lo hi)))
theorem yP:KH X (Ug X.K):=by rintro pins s σ H x v vl vu lo hi sl Q I rx hs pl pu ⟨a,xs,rfl,hx,q⟩;cases rx;obtain⟨its,r,ht,hz⟩:=I.list hx;have hlen:=r.length;refine⟨"list",_,slot_list_getitem.lookup,ht.isList.typeIs,?_⟩;refine adG ht.isList hs pl pu .none (by simp) ?_ (by rw[aai]<;>omega);rw[uD,<-hlen];refine⟨.ref s.heap.objs.size,_,I.laid (t':=s.toks) (o:=.lst (eE xs lo hi)) (λb ob q=>aab _ q) (aac _) ?_,rfl,q _ (I.aG.fresh (aac _))⟩;exact⟨aam (ig xs lo hi) hz,_,0,(r.drop (HT.iL xs.length 0 lo)).take (HT.iL xs.length xs.length hi-HT.iL xs.length 0 lo),aaq _ rfl⟩
def cQ:V->Bool
 |.aN=>true
 |.bl _=>true
 |.int _=>true
 |.str _=>true
 |_=>false
def gm:V->V->Bool
 |.aN,.aN=>true
 |.bl a,.bl b=>a==b
 |.bl a,.int b=>(if a then 1 else 0)==b
 |.int a,.bl b=>a==(if b then 1 else 0)
 |.int a,.int b=>a==b
 |.str a,.str b=>a==b
 |_,_=>false
theorem pR{A:Around}{s:Shared}{y x:V}{u v:Value}(ry:RelV y u)(rx:RelV x v)(fy:cQ y=true)(fx:cQ x=true):SeqAt.EqAt A s u v (gm y x):=by
 cases y with
 |aN=>
  cases ry;cases x with
  |aN=>cases rx;exact afj _
  |bl b=>cases rx;exact agc b
  |int b=>obtain⟨t,rfl⟩:=rx;exact agf b t
  |str b=>obtain⟨t,rfl⟩:=rx;exact agg b t
  |_=>exact absurd (show false=true from fx) aaw
 |bl a=>
  cases ry;cases x with
  |aN=>cases rx;exact agd a
  |bl b=>cases rx;exact age a b
  |int b=>obtain⟨t,rfl⟩:=rx;exact agh a b t
  |str b=>obtain⟨t,rfl⟩:=rx;exact agi a b t
  |_=>exact absurd (show false=true from fx) aaw
 |int a=>
  obtain⟨t',rfl⟩:=ry;cases x with
  |aN=>cases rx;exact agj a t'
  |bl b=>cases rx;exact agk a t' b
  |int b=>obtain⟨t,rfl⟩:=rx;exact ago a t' b t
  |str b=>obtain⟨t,rfl⟩:=rx;exact aey a t' b t
  |_=>exact absurd (show false=true from fx) aaw
 |str a=>
  obtain⟨t',rfl⟩:=ry;cases x with
  |aN=>cases rx;exact agl a t'
  |bl b=>cases rx;exact agm a t' b
  |int b=>obtain⟨t,rfl⟩:=rx;exact aez a t' b t
  |str b=>obtain⟨t,rfl⟩:=rx;exact agp a t' b t
  |_=>exact absurd (show false=true from fx) aaw
 |_=>exact absurd (show false=true from fy) aaw
def iZ(x:V)(u:Value):Bool:=match u with
 |.none=>gm .aN x
 |.bool b=>gm (.bl b) x
 |.int i _=>gm (.int i) x
 |.str z _=>gm (.str z) x
 |_=>false
theorem BV{x y:V}{u:Value}(r:RelV y u)(f:cQ y=true):iZ x u=gm y x:=by
 cases y with
 |aN=>cases r;rfl
 |bl b=>cases r;rfl
 |int i=>obtain⟨t,rfl⟩:=r;rfl
 |str z=>obtain⟨t,rfl⟩:=r;rfl
 |_=>exact absurd (show false=true from f) aaw
theorem jP{x:V}:∀{xs:List V} {us:List Value},Vals xs us->xs.all cQ=true->us.any (iZ x)=xs.any λy=>gm y x
 |_,_,.nil,_=>rfl
 |y::xs,u::us,.cons r t,f=>by rw[acP,abk] at f;rw[acQ,acQ,BV r f.1,jP t f.2]
theorem i4{A:Around}{s:Shared}{x:V}{v:Value}(rx:RelV x v)(fx:cQ x=true):∀{xs:List V} {us:List Value},Vals xs us->xs.all cQ=true->∀u∈us,SeqAt.EqAt A s u v (iZ x u)
 |_,_,.nil,_=>λu hu=>by cases hu
 |y::xs,u::us,.cons r t,f=>λu' hu=>by
  rw[acP,abk] at f;rcases aah.mp hu with rfl|hu
  ·rw[BV r f.1];exact pR r rx f.1 fx
  ·exact i4 rx fx t f.2 u' hu
def yQ(x:V)(xs:List V):Bool:=xs.any λy=>gm y x
def yR(K:PySem.W.Frag)(neg:Bool):R2:=λx y H Q=>∃p xs,y=.ref p/\(ar K H p xs\/aZ K H p xs)/\cQ x=true/\xs.all cQ=true/\Q (.bl (if neg then !yQ x xs else yQ x xs)) H
theorem eQ:cJ X (compareOp .In) (yR X.K false):=by
 rintro pins s σ H x y v u Q I rx ry ⟨p,xs,rfl,hq,fx,fs,q⟩;cases ry;rcases hq with hq|hq
 ·obtain⟨its,r,pl,hz⟩:=I.list hq;refine SeqAt.in_listAt (iZ x) pl.isList (λw hw=>i4 rx fx r fs w (by simpa using hw)) ⟨.bl _,H,I,rfl,?_⟩;rw[show its.toArray.any (iZ x)=its.any (iZ x) by simp,jP r fs];exact q
 ·obtain⟨its,r,pl,hz⟩:=I.tuple hq;refine SeqAt.in_tupleAt (iZ x) pl (λw hw=>i4 rx fx r fs w (by simpa using hw)) ⟨.bl _,H,I,rfl,?_⟩;rw[show its.toArray.any (iZ x)=its.any (iZ x) by simp,jP r fs];exact q
theorem i5:cJ X (compareOp .NotIn) (yR X.K true):=by
 rintro pins s σ H x y v u Q I rx ry ⟨p,xs,rfl,hq,fx,fs,q⟩;cases ry;rcases hq with hq|hq
 ·obtain⟨its,r,pl,hz⟩:=I.list hq;refine SeqAt.notIn_listAt (iZ x) pl.isList (λw hw=>i4 rx fx r fs w (by simpa using hw)) ⟨.bl _,H,I,rfl,?_⟩;rw[show its.toArray.any (iZ x)=its.any (iZ x) by simp,jP r fs];exact q
 ·obtain⟨its,r,pl,hz⟩:=I.tuple hq;refine SeqAt.notIn_tupleAt (iZ x) pl (λw hw=>i4 rx fx r fs w (by simpa using hw)) ⟨.bl _,H,I,rfl,?_⟩;rw[show its.toArray.any (iZ x)=its.any (iZ x) by simp,jP r fs];exact q
theorem aE:bV X (.builtin "len") (λxs H Q=>∃p ys,xs=[.ref p]/\(ar X.K H p ys\/aZ X.K H p ys)/\Q (.int ys.length) H):=by
 rintro pins s σ H xs us Q I r ⟨p,ys,rfl,hq,q⟩;obtain⟨u,rfl,rx⟩:=vals1 r;cases rx;have hn:=iu;rcases hq with hq|hq
 ·obtain⟨its,r',pl,hz⟩:=I.list hq;have hlen:=r'.length;exact Calls.call_len_list pl.isList (by simp only[aai]<;>omega) ⟨.int ys.length,H,I.tok _,⟨s.toks+1,by rw[aai,hlen]⟩,q⟩
 ·obtain⟨its,r',pl,hz⟩:=I.tuple hq;have hlen:=r'.length;exact len_tuple pl (by simp only[aai]<;>omega) ⟨.int ys.length,H,I.tok _,⟨s.toks+1,by rw[aai,hlen]⟩,q⟩
theorem lN:bV X (.builtin "len") (λxs H Q=>∃z,xs=[.str z]/\z.length<=sizeLine/\Q (.int z.length) H):=by rintro pins s σ H xs us Q I r ⟨z,rfl,hz,q⟩;obtain⟨u,rfl,t,rfl⟩:=vals1 r;have hn:=iu;exact len_str (by omega) ⟨.int z.length,H,I.tok _,⟨_,rfl⟩,q⟩
theorem di:bV X (.type "list") (λxs H Q=>∃p ys,xs=[.ref p]/\(ar X.K H p ys\/aZ X.K H p ys)/\∀l,H l=none->Q (.ref l) (upd H l (.lst ys))):=by
 rintro pins s σ H xs us Q I r ⟨p,ys,rfl,hq,q⟩;obtain⟨u,rfl,rx⟩:=vals1 r;cases rx;have fin:∀(its:List Value),Vals ys its->ys.length<=sizeLine->∀(h':Heap) (c':Nat),(∀b o',s.heap.get? b=some o'->h'.get? b=some o') ->
   h'.get? s.heap.objs.size=some {cls:=.type "list",dict:=none,data:=.seq its.toArray c',slots:=#[]}->EP X pins σ Q (.ref s.heap.objs.size) {s with heap:=h' }:=λits r' hz h' c' kp e=>
  ⟨.ref s.heap.objs.size,_,I.laid (t':=s.toks) kp (aac _) (show bc X.prog X.w _ h' _ (.lst ys) from⟨hz,its,c',r',e⟩),rfl,q _ (I.aG.fresh (aac _))⟩
 rcases hq with hq|hq
 ·obtain⟨its,r',pl,hz⟩:=I.list hq;have hlen:=r'.length;obtain⟨o,ho,hc,n,hd⟩:=pl.isList;exact afA p (.inl rfl) ho hc hd (λh' c' kp e=>fin its r' hz h' c' kp e) (by simp only[aai]<;>omega)
 ·obtain⟨its,r',pl,hz⟩:=I.tuple hq;have hlen:=r'.length;obtain⟨o,ho,hc,n,hd⟩:=pl;exact afA p (.inr rfl) ho hc hd (λh' c' kp e=>fin its r' hz h' c' kp e) (by simp only[aai]<;>omega)
theorem dv:bV X (.type "tuple") (λxs H Q=>∃p ys,xs=[.ref p]/\((ar X.K H p ys/\∀l,H l=none->Q (.ref l) (upd H l (.tup ys)))\/(aZ X.K H p ys/\Q (.ref p) H))):=by
 rintro pins s σ H xs us Q I r ⟨p,ys,rfl,h⟩;obtain⟨u,rfl,rx⟩:=vals1 r;cases rx;rcases h with⟨hq,q⟩|⟨hq,q⟩
 ·obtain⟨its,r',pl,hz⟩:=I.list hq;have hlen:=r'.length;refine call_tuple_list pl.isList (λh' kp=>?_) (by simp only[aai]<;>omega);have I1:Inv X pins σ H {s with heap:=h' }:=I.kept (t':=s.toks) kp;have I2:Inv X pins σ (upd H h'.objs.size (.tup ys)) {s with heap:=h'.push {cls:=.type "tuple",data:=.seq its.toArray} }:=
   I1.laid (t':=s.toks) (λb o e=>aab _ e) (aac _) (show bc X.prog X.w _ _ _ (.tup ys) from⟨hz,its,r',agn _ _⟩)
  exact⟨.ref h'.objs.size,_,I2,rfl,q _ (I1.aG.fresh (aac _))⟩
 ·obtain⟨its,r',pl,hz⟩:=I.tuple hq;exact call_tuple_same pl ⟨.ref p,H,I,rfl,q⟩
def KN(K:PySem.W.Frag)(T:String)(x:V)(H:Hp):Prop:=match x with
 |.str _=>T="str"
 |.int _=>T="int"
 |.ref p=>(T="list" /\ ∃xs,ar K H p xs)\/(T="tuple" /\ ∃o,K.lookup p=some o/\o.cls=.type "tuple" /\ o.dict=none) \/
   (T="dict" /\ ((∃kvs,H p=some (.dK kvs))\/∃kvs,H p=some (.dT kvs)))\/(T="set" /\ ∃S n,H p=some (.set S n))
 |_=>False
theorem BW{pins:List (Addr×Obj)}{σ:St}{H:Hp}{s:Shared}{T:String}{x:V}{v:Value}(I:Inv X pins σ H s)(r:RelV x v)(ty:KN X.K T x H) :
  s.TypeIs v T/\∀a,v=.ref a->∃ob,s.heap.get? a=some ob/\ob.dict=none:=by
 cases x with
 |str z =>obtain⟨t,rfl⟩:=r;cases (show T="str" from ty);exact⟨typeIs_str s z t,λ_ e=>nomatch e⟩
 |int i =>obtain⟨t,rfl⟩:=r;cases (show T="int" from ty);exact⟨typeIs_int s i t,λ_ e=>nomatch e⟩
 |ref p=>
  cases r;rcases ty with⟨rfl,xs,hq⟩|⟨rfl,o,hk,hc,hd⟩|⟨rfl,hk⟩|⟨rfl,S,n,hk⟩
  ·obtain⟨its,_,pl,_⟩:=I.list hq;refine⟨pl.isList.typeIs,λa e=>?_⟩;cases e;obtain⟨o,n,e,c,hd,_⟩:=pl;exact⟨o,e,hd⟩
  ·refine⟨⟨o,I.cD p o hk,hc⟩,λa e=>?_⟩;cases e;exact⟨o,I.cD _ o hk,hd⟩
  ·have z:∃o,s.heap.get? p=some o/\o.ExactDict:=by
    rcases hk with⟨kvs,hk⟩|⟨kvs,hk⟩
    ·obtain⟨_,_,_,_,o,_,_,e,ex,_⟩:=I.aG p _ hk;exact⟨o,e,ex⟩
    ·obtain⟨_,_,_,_,o,_,_,e,ex,_⟩:=I.aG p _ hk;exact⟨o,e,ex⟩
   obtain⟨o,e,ex⟩:=z;refine⟨⟨o,e,ex.1⟩,λa e2=>?_⟩;cases e2;exact⟨o,e,ex.2.1⟩
  ·obtain⟨o,_,_,_,e,ex,_⟩:=I.aG p _ hk;refine⟨⟨o,e,ex.1⟩,λa e2=>?_⟩;cases e2;exact⟨o,e,ex.2.1⟩
 |_=>exact False.elim ty
def Uh(K:PySem.W.Frag)(T:String)(r:V->List V->Hp->VK->Prop)(to:TE):TE:=λσ H Q=>to σ H λx H1=>KN K T x H1/\r x [] H1 Q
def Wa(K:PySem.W.Frag)(T:String)(r:V->List V->Hp->VK->Prop)(to:TE)(t:TA):TE:=λσ H Q=>to σ H λx H1=>KN K T x H1/\t σ H1 λxs H2=>r x xs H2 Q
variable {o e:Expr}{es:List Expr}{to:TE}{t:TA}{name:Str}{apos cM:Pos}{T id:String}{r:V->List V->Hp->VK->Prop}
theorem KO(pa:PlainAttrs T)(slot:Slot T name id)(hty:typeOf (.builtin id)=pure (.type "method_descriptor"))(hm:KI X id r)(ho:PE X o to)
  (hbase:attributeBase o name X.env (eval o X.env)=eval o X.env:=by rfl) (hline:(apos.endLine==cM.line)=true:=by rfl):PE X (.Call (.Attribute o name apos) [] [] cM) (Uh X.K T r to):=by
 intro pins s σ H Q I h;refine wpAny_Call_method0_late hbase hline (aH (ho pins s σ H _ I h) λv s1 ⟨x,H1,I1,r1,ty,q1⟩=>?_);obtain⟨h1,h2⟩:=BW I1 r1 ty;exact⟨T,id,pa,slot,hty,h1,h2,adW rfl (PySem.evalArgs_none (hm pins s1 σ H1 x [] v [] Q I1 r1 .nil q1))⟩
theorem ik(pa:PlainAttrs T)(slot:Slot T name id)(hty:typeOf (.builtin id)=pure (.type "method_descriptor"))(hm:KI X id r)(ho:PE X o to)(ha:PA X (e::es) t)
  (hbase:attributeBase o name X.env (eval o X.env)=eval o X.env:=by rfl)
  (hfew:((backTo cM (starEach (e::es) X.env)).all (λx=>!x.1)&&(backToKw cM (keywordEach [] X.env)).all (λx=>x.1.isSome)
  &&decide ((e::es).length+([]:List Keyword).length+(if ([]:List Keyword).isEmpty then 0 else 1)<30))=true:=by rfl)
  (hline:(apos.endLine==cM.line)=true:=by rfl) (hs:starEach (e::es) X.env=(false,eval e X.env)::starEach es X.env:=by rfl) (hplain:(backTo cM (starEach es X.env)).any (·.1)=false:=by rfl) :
  PE X (.Call (.Attribute o name apos) (e::es) [] cM) (Wa X.K T r to t):=by
 intro pins s σ H Q I h;refine wpAny_Call_method_late hbase hfew hline rfl (aH (ho pins s σ H _ I h) λv s1 ⟨x,H1,I1,r1,ty,q1⟩=>?_);obtain⟨h1,h2⟩:=BW I1 r1 ty;refine⟨T,id,pa,slot,hty,h1,h2,?_⟩;have hA:=ha cM pins s1 σ H1 _ I1 q1;rw[hs] at hA⊢;refine adW (by show(false||(backTo cM (starEach es X.env)).any (·.1))=false;rw[hplain]<;>rfl) (acZ ?_);exact aH hA λus s2 ⟨vs,H2,I2,r2,q2⟩=>hm pins s2 σ H2 x vs v us Q I2 r1 r2 q2
end
def KP(X:Cx)(id:String)(r:V->List V->Hp->VK->Prop):Prop:=
 ∀(pins:List (Addr×Obj)) (s:Shared) (σ:St) (H:Hp) (x:V) (xs:List V) (v:Value) (us:List Value) (Q:VK),Inv X pins σ H s->RelV x v->Vals xs us->r x xs H Q ->
  wpAny (model X.prog X.w) X.A (call (.builtin id) (v::us)) (EP X pins σ Q) X.xe s
theorem Vals.one:∀{x:V} {us:List Value},Vals [x] us->∃u,us=[u]/\RelV x u
 |_,_,.cons r .nil=>⟨_,rfl,r⟩
theorem Vals.zero:∀{us:List Value},Vals [] us->us=[]
 |_,.nil=>rfl
theorem Vals.dropLast{xs:List V}{us:List Value}(h:Vals xs us):Vals xs.dropLast us.dropLast:=by
 induction h with
 |nil=>exact .nil
 |cons r t ih=>
  cases t with
  |nil=>exact .nil
  |cons q t'=>exact .cons r ih
theorem Ax{α:Type}(l:List α):l.eraseIdx (l.length-1)=l.dropLast:=by
 induction l with
 |nil=>rfl
 |cons a r ih=>
  cases r with
  |nil=>rfl
  |cons b r=>
   have e:(a::b::r).length-1=((b::r).length-1)+1:=by have h1:(a::b::r).length=r.length+2:=rfl;have h2:(b::r).length=r.length+1:=rfl;omega
   rw[e,List.eraseIdx_cons_succ,ih];all_goals rfl
section
variable {X:Cx}{pins:List (Addr×Obj)}{σ:St}{H:Hp}{s:Shared}{l b:Addr}{xs ys zs:List V}
theorem Inv.EG{its its':List Value}{n:Nat}{f:Array Value->Array Value}{t':Nat}(I:Inv X pins σ H s)(hH:H l=some (.lst xs))
  (e:s.heap.get? l=some {cls:=.type "list",data:=.seq its.toArray n}) (hf:f its.toArray=its'.toArray) (hv:Vals ys its') (hz:ys.length<=sizeLine) :
  Inv X pins σ (upd H l (.lst ys)) {s with heap:=s.heap.update l (Obj.mapSeq f),toks:=t' }:=by
 have q:=agu e f;rw[hf] at q;refine I.write (x:=l) (e:=l) (by rw[hH];exact trivial) (.inl rfl) (λb' u hb hu=>(aaQ s.heap (Obj.mapSeq f) (aaI hb)).trans hu) ⟨_,q⟩ ?_;exact⟨hz,its',_,hv,q⟩
theorem Inv.Ui{its:List Value}{t':Nat}(I:Inv X pins σ H s)(hv:Vals ys its)(hz:ys.length<=sizeLine) :
  Inv X pins σ (upd H s.heap.objs.size (.lst ys)) {s with heap:=s.heap.push {cls:=.type "list",data:=.seq its.toArray},toks:=t' }:=
 I.laid (λ_ _ q=>aab _ q) (aac _) ⟨hz,its,0,hv,aaq _ rfl⟩
theorem Inv.fresh(I:Inv X pins σ H s):H s.heap.objs.size=none:=I.aG.fresh (aac _)
theorem Inv.vv(I:Inv X pins σ H s)(hH:H l=some (.lst xs)):xs.length<=sizeLine/\∃(its:List Value) (n:Nat),Vals xs its/\xs.length=its.length/\s.heap.get? l=some {cls:=.type "list",data:=.seq its.toArray n}:=by obtain⟨z,its,n,r,e⟩:=I.aG l _ hH;exact⟨z,its,n,r,r.length,e⟩
end
section
variable {X:Cx}
def Iy:V->List V->Hp->VK->Prop:=λx vs H Q=>∃l xs y,x=.ref l/\vs=[y]/\H l=some (.lst xs)/\xs.length<sizeLine/\Q .aN (upd H l (.lst (xs++[y])))
theorem gn:KP X "list.append" Iy:=by rintro pins s σ H x vs v us Q I rx rv ⟨l,xs,y,rfl,rfl,hH,hz,q⟩;cases rx;obtain⟨u,rfl,ru⟩:=rv.one;obtain⟨z,its,n,r,hl,e⟩:=I.vv hH;refine afk abr ⟨_,e,rfl⟩ F.entry_list_append (F.args_list_append_2 _ _) (PySem.list_append l its.toArray n u (by rw[aai];omega)) ⟨e,?_⟩;refine⟨.aN,_,I.EG (its':=its++[u]) hH e (by simp) (r.append (.cons ru .nil)) ?_,rfl,q⟩;rw[aay,abH];omega
def Uj:V->List V->Hp->VK->Prop:=λx vs H Q=>∃l xs y,x=.ref l/\vs=[]/\H l=some (.lst xs)/\xs[xs.length-1]?=some y/\Q y (upd H l (.lst xs.dropLast))
theorem KQ:KP X "list.pop" Uj:=by
 rintro pins s σ H x vs v us Q I rx rv ⟨l,xs,y,rfl,rfl,hH,hy,q⟩;cases rx;have KR:=rv.zero;subst KR;obtain⟨z,its,n,r,hl,e⟩:=I.vv hH;obtain⟨u,hu,ru⟩:=r.get hy;have Wb:its.toArray[its.toArray.size-1]?=some u:=by
  show its.toArray[its.length-1]?=some u
  rw[<-aaO,<-hl];exact hu
 refine afk F.slot_list_pop ⟨_,e,rfl⟩ F.entry_list_pop (F.args_list_pop_1 _) (MeetsSeq.list_pop_last l its.toArray n u Wb (by rw[aai];omega)) ⟨e,?_⟩;refine⟨y,_,I.EG (its':=its.dropLast) hH e ?_ r.dropLast ?_,ru,q⟩
 ·show its.toArray.eraseIdxIfInBounds (its.toArray.size-1)=its.dropLast.toArray
  rw[aai,List.eraseIdxIfInBounds_toArray,Ax]
 ·rw[List.length_dropLast];omega
def Uk:R2:=λx y H Q=>∃l b xs zs,x=.ref l/\y=.ref b/\H l=some (.lst xs)/\H b=some (.lst zs)/\xs.length+zs.length<=sizeLine/\∀p,H p=none->Q (.ref p) (upd H p (.lst (xs++zs)))
theorem eR:cJ X (binaryOp .Add) Uk:=by
 rintro pins s σ H x y v u Q I rx ry ⟨l,b,xs,zs,rfl,rfl,hH,hB,hz,q⟩;cases rx;cases ry;obtain⟨z,its,n,r,hl,e⟩:=I.vv hH;obtain⟨z2,KS,n2,r2,hl2,e2⟩:=I.vv hB;refine PySem.P.add_list e e2 ?_ (by rw[aai,aai];omega);have ea:its.toArray++KS.toArray=(its++KS).toArray:=by simp
 rw[ea];exact⟨.ref _,_,I.Ui (t':=s.toks) (r.append r2) (by rw[aay];omega),rfl,q _ I.fresh⟩
end
end L2
namespace QO
open PySem PySem.W PySem.Calls PyProof.Rows
theorem pS{P:Params}{h:Heap}:∀(ns:List Int) (vs:List Value),WellAll P h vs (ns.map WData.int)->IntsAre vs ns:=by
 intro ns;induction ns with
 |nil =>intro vs w;rw[adE] at w;cases w;exact .nil
 |cons n ns ih=>
  intro vs w;rw[aaE] at w;cases w with
  |cons a b =>cases a;exact .cons _ _ (ih _ b)
theorem BX{l:OpenLaw}{n:Nat}(hn:l.most=some n){P:Params}{h:Heap}{args:List WData}{vals:List Value}
  (hpre:l.row.toRowW.claim.pre args=true) (hwl:WellAll P h vals args) :
  ∃a vs ns,vals=[Value.ref a]/\args=[WData.list (ns.map WData.int)]/\h.get? a=some {cls:=.type "list",data:=.seq vs.toArray}/\IntsAre vs ns/\ns.length<=n:=by
 have tj:WShape.hasAll [] args [.list .int]=true:=(pre_splitW hpre).1;have hc:l.pre.holds [] {args:=args}=true:=(pre_splitW hpre).2;obtain⟨d,r,rfl,h1,h2⟩:=hasAllW_cons tj;obtain rfl:=hasAllW_nil h2;obtain⟨xs,rfl,h3⟩:=hasW_list h1;obtain⟨ns,rfl⟩:=items_int h3;have hlen:ns.length<=n:=by
  unfold OpenLaw.pre at hc;have h4:(WTm.not (.lt (.lit (.int (n:Int))) (.len (.arg 0)))).holds [] {args:=[.list (ns.map .int)]}=true:=by have h4:=(holds_andW hc).1;rw[hn] at h4;exact h4
  have h5:=condW_of h4 (w_not (w_lt w_lit (w_len_list (w_arg rfl))));rw[aaa] at h5;refine acR λq=>?_;have q':(n:Int)<((ns.length:Nat):Int):=by omega
  first
   |(rw[decide_eq_true q'] at h5;exact absurd h5 (by decide))
   |(simp at h5;omega)
 cases hwl with
 |cons w1 w2=>
  cases w2;cases w1 with
  |list ho hall=>exact⟨_,_,ns,rfl,rfl,ho,pS ns _ hall,hlen⟩
theorem BY(l:OpenLaw)(args:List WData):l.row.toRowW.claim.post args (.bool true) args=true:=
 postW_of (r:=l.row.toRowW) (X:=(true==true))
  (show WShape.has [] (.bool true) .bool=true by first|rfl|decide|simp[WShape.has,WShape.arms,WShape.armsAll])
  (show(WTm.eq .res (.lit (.bool true))).value [] {args:=args,res:=some (.bool true),after:=args}=some (.bool (true==true)) from w_eq_bool (w_res rfl) w_lit) rfl
theorem ym{l:OpenLaw}{n:Nat}{q:Program}{loose:List Str}{XP:(Str->Option Value)->Heap->Prop}{YP:World->Heap->Prop}{d:DefRec}
  (hn:l.most=some n) (hdf:d.params.defaults=[])
  (call:∀(w:World) (s₀ s₁:Shared) (mg mb:Str->Option Value) (fa:Addr) (o:Obj) (pm cd doc:Value) (a:Addr) (vs:List Value) (ns:List Int),
   Ground q loose [] XP w s₀ mg mb s₁.heap->YP w s₁.heap ->
   s₁.heap.get? fa=some o->o.data=.func (docDef d.name d.params d.body d.scope pm cd doc)->s₁.heap.CodeRec cd d.name->mg d.name=some (.ref fa) ->
   s₁.heap.get? a=some {cls:=.type "list",data:=.seq vs.toArray}->IntsAre vs ns->ns.length<=n->s₁.gens=#[] ->
   codeAny (model l.prog w) callerA (.call (.ref fa) ⟨[.ref a],[]⟩) (λr s'=>r=.ok (.ret (.bool true))/\OldK s₁.heap s'.heap/\s'.os=s₁.os/\AllBare s'.gens) s₁) :
  WalkO q loose XP YP l.row.toRowW d [] (λf vs=>PySem.call f vs):=by
 intro w s₀ s₁ mg mb G Y fa o pm cd doc dV kV ho hd hcd hD BZ hg args vals as hpre Zc Zq hwl Zr;obtain rfl:dV=.none:=Dflts.none hD hdf;obtain rfl:kV=.none:=Dflts.noKw hD;obtain⟨a,vs,ns,rfl,rfl,EH,hints,hlen⟩:=BX hn hpre hwl;refine enter_call (codeAny_mono (call w s₀ s₁ mg mb fa o pm cd doc a vs ns G Y ho (fd_plain hd) hcd BZ EH hints hlen hg) λr s' hq=>?_);obtain⟨rfl,h2,h3,h4⟩:=hq;exact⟨.inl ⟨.bool true,.bool true,[],rfl,λ_=>rfl,.bool true,BY l _,λ_=>⟨List.Pairwise.nil,λ_ hm=>(nomatch hm)⟩⟩,h2,h3,h4⟩
section
variable {prog:Program}{w:World}{A:Around}{E:Value->Shared->Prop}{s:Shared}{K:Frag}
def ledger(h:Heap)(L d:Addr):List (Addr×Obj):=(List.range h.objs.size).filterMap λa=>if a=L\/a=d then none else (h.get? a).map λo=>(a,o)
end
end QO
namespace L2
open PySem PySem.Spec PyProof.Rows
theorem tm:∀{vs:List Value} {ns:List Int},IntsAre vs ns->Vals (ns.map V.int) vs
 |_,_,.nil=>.nil
 |_,_,.cons n t h=>.cons ⟨t,rfl⟩ (tm h)
def EI(H:Hp):Prop:=∀b,H b=none\/∃o xs,H b=some (.gD o (.lst xs))
theorem EJ{P:Program}{w:World}{K:PySem.W.Frag}{mg mb:Str->Option Value}{CX:gj}{k:Nat}{fa a:Addr}{fd:FuncData}{x:Str}{sp:Sp}{s₁:Shared}{vs:List Value}{ns:List Int}
  (KX:K.In s₁.heap) (hns:s₁.heap.Ns mainGlobals mg) (hb:s₁.heap.Ns builtinsNs mb) (hbb:∀x:Str,x≠"__name__" -> mb x=bootBuiltins x) (hlim:s₁.heap.NoLimit) (hg:s₁.gens=#[])
  (ha:s₁.heap.get? a=some {cls:=.type "list",data:=.seq vs.toArray}) (hi:IntsAre vs ns) (hl:ns.length<=sizeLine) (hr:bW k callerA)
  (F:∀base:Heap,K.In base->base.Ns mainGlobals mg->ak P w K mg base CX k fa fd [x] sp) (hbind:∀(s:Shared) (u:Value),BindsTo s fd ⟨[u],[]⟩ [(x,u)])
  (hsp:∀H:Hp,EI H->ar K H a (ns.map V.int)->sp [.ref a] H (λv _=>v=.bl true) λ_ _ _=>False)
  (hCX:∀H e s',CX [] H s₁ (λ_ _ _=>False) e s'->False) :
  codeAny (model P w) callerA (.call (.ref fa) ⟨[.ref a],[]⟩) (λr s'=>r=.ok (.ret (.bool true))/\OldK s₁.heap s'.heap/\s'.os=s₁.os/\AllBare s'.gens) s₁:=by
 have rv:=tm hi;have Ul:=hi.length;have core:∀H:Hp,EI H->ar K H a (ns.map V.int)->cG P w H s₁.heap->(∀b,H b≠none->b=a)->(H a≠none->K.lookup a=none) ->
   codeAny (model P w) callerA (.call (.ref fa) ⟨[.ref a],[]⟩) (λr s'=>r=.ok (.ret (.bool true))/\OldK s₁.heap s'.heap/\s'.os=s₁.os/\AllBare s'.gens) s₁:=by
  intro H hO hS aG hA hK;have base_of:∀{b:Addr} {o:Obj},s₁.heap.get? b=some o->H b=none->(j9 s₁.heap H).get? b=some o:=λe n=>Er e n;have noA:∀{b:Addr} {o:Obj} {es:Array DictEntry} {ep:Nat},s₁.heap.get? b=some o->o.data=.dict es ep->H b=none:=λ{b o es ep} e d=>by
   cases q:H b with
   |none=>rfl
   |some u =>have e':b=a:=hA b (by rw[q];simp);subst e';rw[ha] at e;cases e;have d':Data.seq vs.toArray _=Data.dict es ep:=d;cases d'
  have nsK:∀{b:Addr} {m:Str->Option Value},s₁.heap.Ns b m->(j9 s₁.heap H).Ns b m:=λ{b m} ⟨o,es,ep,e,d,r⟩=>⟨o,es,ep,base_of e (noA e d),d,r⟩
  have QP:K.In (j9 s₁.heap H):=λb o e=>base_of (KX b o e) (by
   cases q:H b with
   |none=>rfl
   |some u =>have e':b=a:=hA b (by rw[q];simp);subst e';rw[hK (by rw[q];simp)] at e;cases e)
  have hM:Mod K mg (j9 s₁.heap H):=⟨QP,nsK hns,⟨mb,nsK hb,hbb⟩,let ⟨mc,h1,h2⟩:=hlim;⟨mc,nsK h1,h2⟩⟩
  have e0:oJ P w K mg (j9 s₁.heap H) callerA [] s₁ H:=⟨rfl,hM,λb o e=>Ip e,af1 (BA _ _),trivial,λb hb=>absurd (show b∈([]:List Addr) from hb) (by simp),aG,.of_eq hg⟩
  refine codeAny_mono ((F _ QP (nsK hns)).run callerA [] s₁ H ⟨[.ref a],[]⟩ [.ref a] [.ref a] _ _ hr e0 (hbind s₁ (.ref a)) (.cons rfl .nil) (hsp H hO hS)) λr s' h=>?_;cases r with
  |error e=>exact(hCX H e s' h).elim
  |ok fl=>
   cases fl with
   |next=>exact False.elim h
   |brk=>exact False.elim h
   |cont=>exact False.elim h
   |ret u=>
    obtain⟨v,H',os,bare,un,hok',r',q⟩:=h;have q':v=.bl true:=q;subst q';obtain rfl:u=Value.bool true:=r';refine⟨rfl,OldK.of_keep λb o e=>?_,os,bare⟩;cases q:H b with
    |none=>exact un.keep b o e q (by intro z;exact absurd (show b∈([]:List Addr) from z) (by simp)) (by simp)
    |some u=>
     rcases hO b with z|⟨ob,xs,z⟩
     ·rw[q] at z;cases z
     ·have z2:=un.dW b ob _ z;obtain⟨e1,_⟩:=aG b _ z;obtain⟨e2,_⟩:=hok' b _ z2;rw[e] at e1;cases e1;exact e2
 cases hk:K.lookup a with
 |some o =>have e:=KX a o hk;rw[ha] at e;cases e;refine core (λ_=>none) (λ_=>.inl rfl) (.inr ⟨_,vs.toArray,_,hk,rfl,rfl,rfl,by rw[aai,Ul];exact hl,by simpa using rv⟩) (λb u z=>by have z':(none:Option HO)=some u:=z;cases z') (λb z=>absurd rfl z) λz=>absurd rfl z
 |none=>
  refine core (λb=>if b=a then some (.gD {cls:=.type "list",data:=.seq vs.toArray} (.lst (ns.map V.int))) else none) (λb=>?_) (.inl (.inr ⟨{cls:=.type "list",data:=.seq vs.toArray},if_pos rfl⟩)) (λb u z=>?_) (λb z=>?_) λ_=>hk
  ·by_cases hb:b=a
   ·exact .inr ⟨_,_,if_pos hb⟩
   ·exact .inl (if_neg hb)
  ·by_cases hb:b=a
   ·have z':=(if_pos hb).symm.trans z;cases z';subst hb;exact⟨ha,by rw[aaa];exact hl,vs,_,rv,ha⟩
   ·have z':=(if_neg hb).symm.trans z;cases z'
  ·by_cases hb:b=a
   ·exact hb
   ·exact absurd (if_neg hb) z
abbrev KOf{K:PySem.W.Frag}{h:Heap}(_:K.In h):PySem.W.Frag:=K
theorem Iz{l:PySem.W.OpenLaw}{n k:Nat}{q:Program}{loose:List Str}{XP:(Str->Option Value)->Heap->Prop}{YP:World->Heap->Prop}{d:DefRec}{K:Params->PySem.W.Frag}{CX:World->gj}{sp:World->Sp}{x:Str}
  (hn:l.most=some n) (hn2:n<=sizeLine) (hdf:d.params.defaults=[]) (hr:bW k callerA)
  (hY:∀(w:World) (h:Heap),YP w h->(K w.params).In h)
  (F:∀(w:World) (mg:Str->Option Value) (fa:Addr) (h:Heap),(K w.params).In h->h.Ns mainGlobals mg->mg d.name=some (.ref fa) ->
   ∃fd:FuncData,(∀(s:Shared) (u:Value),BindsTo s fd ⟨[u],[]⟩ [(x,u)]) /\
    ∀base:Heap,(K w.params).In base->base.Ns mainGlobals mg->ak l.prog w (K w.params) mg base (CX w) k fa fd [x] (sp w))
  (hsp:∀(w:World) (H:Hp) (a:Addr) (ns:List Int),ns.length<=n->EI H->ar (K w.params) H a (ns.map V.int)->sp w [.ref a] H (λv _=>v=.bl true) λ_ _ _=>False)
  (hCX:∀(w:World) (H:Hp) (s:Shared) (e:Value) (s':Shared),CX w [] H s (λ_ _ _=>False) e s'->False) :
  PySem.W.WalkO q loose XP YP l.row.toRowW d [] (λf vs=>PySem.call f vs):=by
 refine QO.ym hn hdf λw s₀ s₁ mg mb fa o pm cd doc a vs ns G Y ho hd hcd BZ EH hints hlen hg=>?_;have KX:=hY w _ Y;obtain⟨fd,hb,hF⟩:=F w mg fa _ KX G.T.g BZ;exact EJ KX G.T.g G.T.b G.T.builtins G.T.nolimit hg EH hints (aam hlen hn2) hr hF hb (λH hO hS=>hsp w H a ns hlen hO hS) λH e s'=>hCX w H s₁ e s'
def inClass(s:Stmt)(j:Nat):Stmt:=match s with
 |.ClassDef _ _ _ body _ _ _ _ _ _ _=>body.getD j (.Pass ⟨0,0,0,0⟩)
 |_=>.Pass ⟨0,0,0,0⟩
def dw(s:Stmt):Arguments:=match s with
 |.FunctionDef _ a _ _ _ _ _ _ _ _=>a
 |_=>{posonlyargs:=[],args:=[],vararg:=none,kwonlyargs:=[],kw_defaults:=[],kwarg:=none,defaults:=[]}
def cx(s:Stmt):List Stmt:=match s with
 |.FunctionDef _ _ b _ _ _ _ _ _ _=>b
 |_=>[]
def ao(s:Stmt):Scope:=match s with
 |.FunctionDef _ _ _ _ _ _ sc _ _ _=>sc
 |_=>{kind:=.function,names:=[],isGenerator:=false,isCoroutine:=false}
abbrev aD:gj:=λ_ _ _ _ _ _=>False
abbrev E0:XK:=λ_ _ _=>False
theorem aA{X:Cx}:Passes aD X E0:=λ_ _ _ _ _ _ _ h=>h.elim
structure aX(K:PySem.W.Frag)(x qual:Str)(st:Stmt)(f:Addr)(fd:FuncData):Prop where
 ex:∃(oc:Value) (od:Option Addr) (kV doc pm:Value) (an:Option Addr) (cdv ct:Value) (osl:Array (Option Value)),
  fd=PySem.W.fnOf x qual (dw st) (cx st) (ao st) .none kV doc pm an cdv ct/\K.lookup f=some ⟨oc,od,.func fd,osl⟩/\PySem.W.codeIn K cdv qual=true
 kp:PySem.W.keepIn K (.ref f)=true
section
variable {P:Program}{w:World}{K:PySem.W.Frag}{mg:Str->Option Value}{base:Heap}
theorem aX.ok{x qual:Str}{st:Stmt}{f:Addr}{fd:FuncData}{N ps:List Str}{k:Nat}{sp:Sp}(F:aX K x qual st f fd)(S:aF N ps (ao st))(len:∀vs H Q E,sp vs H Q E->vs.length=ps.length)
  (hbody:∀(cdv:Value) (A:Around) (outer:List Env) (s:Shared) (H:Hp) (vs:List V) (Q:VK) (E:XK),bW k (A.deeper (envOfC qual (ao st) s.heap.objs.size f cdv))->sp vs H Q E ->
   ∃t,iq (cT aD P w K mg base N qual (ao st) f cdv A outer s H E).nM (cx st) t/\t {nx:=λ_ H'=>Q .aN H',rt:=Q} (start N vs) H):ak P w K mg base aD (k+1) f fd ps sp:=by
 obtain⟨oc,od,kV,doc,pm,an,cdv,ct,osl,rfl,lk,hcd⟩:=F.ex;refine Av lk hcd S len λA outer s H vs Q E hr hsp=>?_;obtain⟨t,h,q⟩:=hbody cdv A outer s H vs Q E hr hsp;exact⟨t,h.nM,q⟩
theorem aX.binds{x qual:Str}{st:Stmt}{f:Addr}{fd:FuncData}{ps:List Str}(F:aX K x qual st f fd)
  (h:∀(kV doc pm:Value) (an:Option Addr) (cdv ct:Value) (us:List Value),us.length=ps.length->bindArgs (PySem.W.fnOf x qual (dw st) (cx st) (ao st) .none kV doc pm an cdv ct) ⟨us,[]⟩=pure (ps.zip us)):Binds K fd ps []:=by
 obtain⟨oc,od,kV,doc,pm,an,cdv,ct,osl,rfl,lk,hcd⟩:=F.ex;exact .all (h kV doc pm an cdv ct)
theorem B0{x qual:Str}{st:Stmt}{f:Addr}{oc:Value}{od an:Option Addr}{osl:Array (Option Value)}{kV doc pm cdv ct:Value}(l:K.lookup f=some ⟨oc,od,.func (PySem.W.fnOf x qual (dw st) (cx st) (ao st) .none kV doc pm an cdv ct),osl⟩)
  (c:W.codeIn K cdv qual=true) (k:W.keepIn K (.ref f)=true):aX K x qual st f (W.fnOf x qual (dw st) (cx st) (ao st) .none kV doc pm an cdv ct):=⟨⟨oc,od,kV,doc,pm,an,cdv,ct,osl,rfl,l,c⟩,k⟩
end
theorem Ay{A:Around}{k:Nat}(hr:bW k A):A.units+1<cLine:=abp (Nat.add_le_add_left (by decide:1<=64) _) hr.units
theorem eT{n:Nat}(h:n<=1000):n<sizeLine:=abp h (by decide)
section
variable {X:Cx}
theorem pv(i:Nat){x:Str}{pos:Pos}(hN:X.N[i]?=some x:=by rfl)(hv:Gv X.env.scope x:=by first|exact Or.inl rfl|exact Or.inr (Or.inl rfl)|exact Or.inr (Or.inr rfl))(hd:(x==("__debug__" : Str))=false:=by decide)
  (hcd:(x==("__classdict__" : Str))=false:=by decide):PE X (.Name x pos) (Ae i):=Kh hN hv hd hcd
end
theorem aP{A B:Prop}(h:B):if false=true then A else B:=by rw[if_neg aaw];exact h
theorem bt{A B:Prop}(h:A):if true=true then A else B:=by rw[if_pos rfl];exact h
theorem cS{c A B:Prop}[Decidable c](h1:c->A)(h2:¬ c->B):if c then A else B:=by
 by_cases h:c
 ·rw[if_pos h];exact h1 h
 ·rw[if_neg h];exact h2 h
def av(H H':Hp):Prop:=∀b o,H b=some o->H' b=some o
theorem av.refl(H:Hp):av H H:=λ_ _ h=>h
theorem av.trans{H H1 H2:Hp}(a:av H H1)(b:av H1 H2):av H H2:=λc o h=>b c o (a c o h)
theorem av.free{H H':Hp}(e:av H H'){l:Addr}(h:H' l=Option.none):H l=Option.none:=by
 cases q:H l with
 |none=>rfl
 |some o =>rw[e l o q] at h;cases h
theorem av.seq{K:PySem.W.Frag}{H H':Hp}{a:Addr}{xs:List V}(e:av H H')(h:ar K H a xs):ar K H' a xs:=by
 rcases h with(h|⟨o,h⟩)|h
 ·exact .inl (.inl (e _ _ h))
 ·exact .inl (.inr ⟨o,e _ _ h⟩)
 ·exact .inr h
end L2
set_option maxHeartbeats 4000000
namespace L2
open PySem PySem.Spec PyProof.Rows
section
variable {κ:Type}[DecidableEq κ]
def dZ(kvs:List (κ×V))(k:κ):Option V:=(kvs.find? λkv=>decide (kv.1=k)).map (·.2)
def putK(kvs:List (κ×V))(k:κ)(v:V):List (κ×V):=
 if (kvs.any λkv=>decide (kv.1=k))=true then kvs.map (λkv=>if kv.1=k then (kv.1,v) else kv) else kvs++[(k,v)]
theorem i6{p:κ×V}{r:List (κ×V)}{k:κ}(e:p.1=k):dZ (p::r) k=some p.2:=by simp[dZ,abI,e]
theorem g6{p:κ×V}{r:List (κ×V)}{k:κ}(e:¬ p.1=k):dZ (p::r) k=dZ r k:=by simp[dZ,abI,e]
theorem oK(k:κ):∀kvs:List (κ×V),(kvs.any λkv=>decide (kv.1=k))=(dZ kvs k).isSome
 |[]=>rfl
 |p::r=>by
  rw[acQ];by_cases e:p.1=k
  ·simp only[i6 e,decide_eq_true e,Bool.true_or,Option.isSome_some]
  ·rw[g6 e,aaA e,Bool.false_or];exact oK k r
theorem jF(kvs:List (κ×V))(k:κ)(v:V):(putK kvs k v).length<=kvs.length+1:=by
 unfold putK;split
 ·rw[aaa];omega
 ·rw[aay,aaH,abJ];omega
theorem vw{kvs:List (κ×V)}{k:κ}(v:V)(h:dZ kvs k=none):putK kvs k v=kvs++[(k,v)]:=by unfold putK;rw[oK,h];exact if_neg (by decide)
theorem eJ.lO{o:Option V}{u:Option Value}(r:eJ o u):o.isSome=u.isSome:=by
 cases o with
 |none=>cases u with
  |none=>rfl
  |some _=>exact(show False from r).elim
 |some _=>cases u with
  |none=>exact(show False from r).elim
  |some _=>rfl
theorem KV.val{kvs:List (κ×V)}{vs:List (κ×Value)}(r:KV kvs vs)(k:κ):eJ (dZ kvs k) (valueAt vs k):=by
 unfold KV at r;induction r with
 |nil=>exact True.intro
 |@cons p q ps qs h t ih=>
  obtain⟨h1,h2⟩:=h;by_cases e:p.1=k
  ·have e':q.1=k:=h1.symm.trans e;have b:valueAt (q::qs) k=some q.2:=by simp[valueAt,abI,e']
   rw[i6 e,b];exact h2
  ·have e':¬ q.1=k:=λz=>e (h1.trans z);have b:valueAt (q::qs) k=valueAt qs k:=by simp[valueAt,abI,e']
   rw[g6 e,b];exact ih
theorem KV.any{kvs:List (κ×V)}{vs:List (κ×Value)}(r:KV kvs vs)(k:κ):(kvs.any λkv=>decide (kv.1=k))=vs.any λkv=>decide (kv.1=k):=by
 unfold KV at r;induction r with
 |nil=>rfl
 |cons h t ih=>rw[acQ,acQ,ih,h.1]
theorem KV.EK{kvs:List (κ×V)}{vs:List (κ×Value)}(r:KV kvs vs)(k:κ){y:V}{u:Value}(ry:RelV y u) :
  KV (kvs.map λkv=>if kv.1=k then (kv.1,y) else kv) (vs.map λkv=>if kv.1=k then (kv.1,u) else kv):=by
 unfold KV at r⊢;induction r with
 |nil=>exact .nil
 |@cons p q ps qs h t ih=>
  rw[aaE,aaE];refine .cons ?_ ih;obtain⟨h1,h2⟩:=h;by_cases e:p.1=k
  ·rw[if_pos e,if_pos (h1.symm.trans e)];exact⟨h1,ry⟩
  ·rw[if_neg e,if_neg (λz=>e (h1.trans z))];exact⟨h1,h2⟩
theorem KV.put{kvs:List (κ×V)}{vs:List (κ×Value)}(r:KV kvs vs)(k:κ){y:V}{u:Value}(ry:RelV y u):KV (putK kvs k y) (stored vs k u):=by
 unfold putK stored;rw[r.any k];by_cases e:(vs.any λkv=>decide (kv.1=k))=true
 ·rw[if_pos e,if_pos e];exact r.EK k ry
 ·rw[if_neg e,if_neg e];exact ae3 r ⟨rfl,ry⟩
theorem KV.keys{kvs:List (κ×V)}{vs:List (κ×Value)}(r:KV kvs vs):kvs.map (·.1)=vs.map (·.1):=by
 unfold KV at r;induction r with
 |nil=>rfl
 |cons h t ih=>rw[aaE,aaE,ih,h.1]
theorem KV.length{kvs:List (κ×V)}{vs:List (κ×Value)}(r:KV kvs vs):kvs.length=vs.length:=acO r
end
theorem mX{P:Program}{w:World}{k:Key}{u:Value}(r:RelV (kV k) u):(bL P w).is k u=true:=by
 cases k with
 |inl i=>obtain⟨t,e⟩:=(show ∃t,u=Value.int i t from r);subst e;exact yj P w i t
 |inr x=>obtain⟨t,e⟩:=(show ∃t,u=Value.str x t from r);subst e;exact yk P w x t
theorem tw{P:Program}{w:World}:∀{ks:List Key} {us:List Value},Vals (ks.map kV) us->ItemsAre (bL P w) ks us
 |[],_,r=>by rw[adE] at r;cases r;exact .nil
 |k::ks,_,r=>by
  rw[aaE] at r;cases r with
  |cons h t=>exact .cons (mX h) (tw t)
abbrev KT(H:Hp):List (List Key×V)->List (List Key×Addr×Value)->Prop:=Paired λp q=>p.1=q.1/\H q.2.1=some (.tup (p.1.map kV))/\RelV p.2 q.2.2
theorem KT.val{H:Hp}{kvs:List (List Key×V)}{xs:List (List Key×Addr×Value)}(r:KT H kvs xs)(k:List Key):eJ (dZ kvs k) ((atKey xs k).map (·.2)):=by
 induction r with
 |nil=>exact True.intro
 |@cons p q ps qs h t ih=>
  obtain⟨h1,_,h2⟩:=h;by_cases e:p.1=k
  ·have e':q.1=k:=h1.symm.trans e;have b:atKey (q::qs) k=some q.2:=by simp[atKey,abI,e']
   rw[i6 e,b];exact h2
  ·have e':¬ q.1=k:=λz=>e (h1.trans z);have b:atKey (q::qs) k=atKey qs k:=by simp[atKey,abI,e']
   rw[g6 e,b];exact ih
theorem KT.EK{H:Hp}{kvs:List (List Key×V)}{xs:List (List Key×Addr×Value)}(r:KT H kvs xs)(k:List Key){y:V}{u:Value}(ry:RelV y u) :
  KT H (kvs.map λkv=>if kv.1=k then (kv.1,y) else kv) (xs.map (putAt k u)):=by
 induction r with
 |nil=>exact .nil
 |@cons p q ps qs h t ih=>
  rw[aaE,aaE];refine .cons ?_ ih;obtain⟨h1,h2,h3⟩:=h;unfold putAt;by_cases e:p.1=k
  ·rw[if_pos e,if_pos (h1.symm.trans e)];exact⟨h1,h2,ry⟩
  ·rw[if_neg e,if_neg (λz=>e (h1.trans z))];exact⟨h1,h2,h3⟩
theorem KT.put{H:Hp}{kvs:List (List Key×V)}{xs:List (List Key×Addr×Value)}(r:KT H kvs xs)(k:List Key){b:Addr}{y:V}{u:Value}(hb:H b=some (.tup (k.map kV)))(ry:RelV y u) :
  KT H (putK kvs k y) (storedH xs k b u):=by
 have e:(kvs.any λkv=>decide (kv.1=k))=(atKey xs k).isSome:=by rw[oK,(r.val k).lO,aeU]
 unfold putK storedH;rw[e];by_cases q:(atKey xs k).isSome=true
 ·rw[if_pos q,if_pos q];exact r.EK k ry
 ·rw[if_neg q,if_neg q];exact ae3 r ⟨rfl,hb,ry⟩
theorem KT.keeps{H H':Hp}{kvs:List (List Key×V)}{xs:List (List Key×Addr×Value)}(r:KT H kvs xs)(ht:∀b ys,H b=some (.tup ys)->H' b=some (.tup ys)):KT H' kvs xs:=
 Paired.Ac r λ_ _ z=>⟨z.1,ht _ _ z.2.1,z.2.2⟩
section
variable {P:Program}{w:World}{H:Hp}{h:Heap}{a:Addr}
theorem GX{u:HO}(ok:cG P w H h)(e:Rd H a u):bc P w H h a u:=e.ok ok
theorem uK{kvs:List (Key×V)}(ok:cG P w H h)(e:Rd H a (.dK kvs)):kvs.length<=sizeLine/\(a==sysModules)=false/\∃vs,KV kvs vs/\h.DictOf (bL P w) a vs:=
 show bc P w H h a (.dK kvs) from GX ok e
theorem Az{kvs:List (Key×V)}(ok:cG P w H h)(e:H a=some (.dK kvs)):kvs.length<=sizeLine/\(a==sysModules)=false/\∃vs,KV kvs vs/\h.DictOf (bL P w) a vs:=uK ok (.inl e)
theorem pT{ks:List Key}(ok:cG P w H h)(e:H a=some (.tup (ks.map kV))):(tupleKind (bL P w)).is h ks a:=by
 obtain⟨_,its,r,o,h1,h2,n,h3⟩:=(show bc P w H h a (.tup (ks.map kV)) from ok a _ e)
 exact⟨o,its.toArray,n,h1,h2,h3,by simpa using tw r⟩
theorem uL{kvs:List (List Key×V)}(ok:cG P w H h)(e:Rd H a (.dT kvs)):kvs.length<=sizeLine/\(a==sysModules)=false /\
  ∃xs,KT H kvs xs/\h.DictOfH (tupleKind (bL P w)) a xs:=by
 obtain⟨z,y,xs,r,o,es,ep,h1,h2,h3,h4,h5⟩:=(show bc P w H h a (.dT kvs) from GX ok e)
 refine⟨z,y,xs,r,o,es,ep,h1,h2,h3,h4,λx hx=>?_,h5⟩;have all:∀{l:List (List Key×V)} {m:List (List Key×Addr×Value)},KT H l m->∀x∈m,(tupleKind (bL P w)).is h x.1 x.2.1:=by
  intro l m q;induction q with
  |nil=>intro x hx;exact nomatch hx
  |@cons p q ps qs hq t ih=>
   intro x hx;rcases aah.mp hx with e|hx
   ·subst e;exact pT ok (by rw[<-hq.1];exact hq.2.1)
   ·exact ih x hx
 exact all r x hx
theorem O6{kvs:List (List Key×V)}(ok:cG P w H h)(e:H a=some (.dT kvs)):kvs.length<=sizeLine/\(a==sysModules)=false /\
  ∃xs,KT H kvs xs/\h.DictOfH (tupleKind (bL P w)) a xs:=uL ok (.inl e)
end
def iC(H:Hp)(a:Addr)(y:V)(r:Option V):Prop:=
 (∃kvs k,Rd H a (.dK kvs)/\y=kV k/\r=dZ kvs k)\/∃kvs k b,Rd H a (.dT kvs)/\y=.ref b/\H b=some (.tup (k.map kV))/\r=dZ kvs k
def vy(H:Hp)(a:Addr)(y v:V)(H':Hp):Prop:=
 (∃kvs k,H a=some (.dK kvs)/\y=kV k/\kvs.length<sizeLine/\H'=upd H a (.dK (putK kvs k v))) \/
 ∃kvs k b,H a=some (.dT kvs)/\y=.ref b/\H b=some (.tup (k.map kV))/\kvs.length<sizeLine/\H'=upd H a (.dT (putK kvs k v))
theorem iC.k{H:Hp}{a:Addr}{kvs:List (Key×V)}{k:Key}(e:H a=some (.dK kvs)):iC H a (kV k) (dZ kvs k):=.inl ⟨kvs,k,.inl e,rfl,rfl⟩
theorem vy.k{H:Hp}{a:Addr}{kvs:List (Key×V)}{k:Key}{v:V}(e:H a=some (.dK kvs))(hl:kvs.length<sizeLine):vy H a (kV k) v (upd H a (.dK (putK kvs k v))):=.inl ⟨kvs,k,e,rfl,hl,rfl⟩
section
variable {X:Cx}{pins:List (Addr×Obj)}{σ:St}{H:Hp}{s:Shared}{a:Addr}{y v:V}{u r:Value}{o:Option V}{A:Around}{E:Value->Shared->Prop}
theorem Inv.big(I:Inv X pins σ H s):sysModules<s.heap.objs.size:=by have h:mainGlobals<s.heap.objs.size:=(I.mod.glob.keeps I.bk).lt;exact ac0 (by decide) h
theorem B1{Q:Value->Shared->Prop}(hu:A.units+1<cLine)(I:Inv X pins σ H s)(g:iC H a y (some v))(ry:RelV y u)(h:∀w' s',Inv X pins σ H s'->RelV v w'->Q w' s') :
  wpAny (model X.prog X.w) A (getItem (.ref a) u) Q E s:=by
 rcases g with⟨kvs,k,e,ey,l⟩|⟨kvs,k,b,e,ey,eb,l⟩
 ·subst ey;obtain⟨z,hd,vs,rel,dd⟩:=uK I.aG e;obtain⟨w',hw,lG⟩:=eJ.some_of (v:=v) (o:=valueAt vs k) (by rw[l];exact rel.val k);exact wpAny_getItem_of (mX ry) dd.mapOf hw (h w' _ (I.tok _) lG)
 ·subst ey;cases (show u=Value.ref b from ry);obtain⟨z,hd,xs,rel,dd⟩:=uL I.aG e;obtain⟨w',hw,lG⟩:=eJ.some_of (v:=v) (o:=(atKey xs k).map (·.2)) (by rw[l];exact rel.val k);obtain⟨p,hp,jt⟩:=aap.mp hw;refine wpAny_getItem_heap (tupleKind_room_in1 hu) (pT I.aG eb) dd hp ?_;rw[jt];exact h w' _ (I.tok _) lG
theorem IA{Q:Value->Shared->Prop}(hu:A.units+1<cLine)(I:Inv X pins σ H s)(g:iC H a y o)(ry:RelV y u)(h:∀s',Inv X pins σ H s'->Q (.bool (!o.isSome)) s') :
  wpAny (model X.prog X.w) A (compareOp .NotIn u (.ref a)) Q E s:=by
 rcases g with⟨kvs,k,e,ey,l⟩|⟨kvs,k,b,e,ey,eb,l⟩
 ·subst ey;obtain⟨z,hd,vs,rel,dd⟩:=uK I.aG e;refine wpAny_notIn_of (mX ry) hd dd.mapOf ?_;rw[<-(rel.val k).lO,<-l];exact h _ (I.tok _)
 ·subst ey;cases (show u=Value.ref b from ry);obtain⟨z,hd,xs,rel,dd⟩:=uL I.aG e;refine wpAny_notIn_heap (tupleKind_room_in1 hu) (pT I.aG eb) hd dd ?_;have q:=(rel.val k).lO;rw[aeU] at q;rw[<-q,<-l];exact h _ (I.tok _)
theorem qV{h':Heap}{t':Nat}{ob:HO}(I:Inv X pins σ H s)(mu:By (H a))(hs:Heap.SameBut a s.heap h')(he:∃q,h'.get? a=some q)(new:bc X.prog X.w (upd H a ob) h' a ob) :
  Inv X pins σ (upd H a ob) {s with heap:=h',toks:=t' }:=
 I.write (x:=a) (e:=a) mu (.inl rfl) (λb q hb z=>(hs.2 b hb).trans z) he new
theorem B3{P:Program}{w:World}{H':Hp}{h':Heap}{kvs:List (Key×V)}{vs:List (Key×Value)}(z:kvs.length<=sizeLine)(hd:(a==sysModules)=false)(rel:KV kvs vs)(dd:h'.DictOf (bL P w) a vs) :
  bc P w H' h' a (.dK kvs):=⟨z,hd,vs,rel,dd⟩
theorem B6{H':Hp}{Q:Unit->Shared->Prop}(hu:A.units+1<cLine)(I:Inv X pins σ H s)(g:vy H a y v H')(ry:RelV y u)(rv:RelV v r)(h:∀s',Inv X pins σ H' s'->Q () s') :
  wpAny (model X.prog X.w) A (setItem (.ref a) u r) Q E s:=by
 rcases g with⟨kvs,k,e,ey,l,eH⟩|⟨kvs,k,b,e,ey,eb,l,eH⟩
 ·subst ey eH;obtain⟨z,hd,vs,rel,dd⟩:=Az I.aG e;have hz:vs.length<=sizeLine:=by rw[<-rel.length];exact z
  have hl:(putK kvs k v).length<=sizeLine:=by have:=jF kvs k v;omega
  refine wpAny_setItem_pairs (hsz:=hz) (mX ry) dd λh' vz hs=>h _ ?_;have he:∃q,h'.get? a=some q:=let ⟨q,_,_,hq,_⟩:=vz;⟨q,hq⟩
  exact qV I (by rw[e];exact True.intro) hs he (B3 hl hd (rel.put k rv) vz)
 ·subst ey eH;cases (show u=Value.ref b from ry);obtain⟨z,hd,xs,rel,dd⟩:=O6 I.aG e;have hz:xs.length<=sizeLine:=by rw[<-acO rel];exact z
  have hl:(putK kvs k v).length<=sizeLine:=by have:=jF kvs k v;omega
  refine wpAny_setItem_heap (hsz:=hz) (tupleKind_room_in1 hu) (pT I.aG eb) dd λh' vz hs=>h _ ?_;obtain⟨q,es,ep,hq,h2,h3,h4,_,h5⟩:=vz;refine qV I (by rw[e];exact True.intro) hs ⟨q,hq⟩ ⟨hl,hd,_,(rel.put k eb rv).keeps λc ys ec=>?_,q,es,ep,hq,h2,h3,h4,h5⟩;rw[aq (eG ec e (λz=>nomatch z))];exact ec
end
def KU(i:Expr):Prop:=∀ov iv,subscripted i false ov iv=operate [ov,iv] (getItem ov iv)
theorem IB{prog:Program}{w:World}{A:Around}{E:Value->Shared->Prop}{s:Shared}{env:Env}{value slice:Expr}{pos:Pos}{T id:String}{Q:Value->Shared->Prop}
  (hl:typeLookup (.type T) "__getitem__" = pure (some (.builtin id))) (hs:KU slice)
  (h:wpAny (model prog w) A (eval value env) (λo s₁=>wpAny (model prog w) A (eval slice env) (λi s₂=>s₂.TypeIs o T/\wpAny (model prog w) A (getItem o i) Q E s₂) E s₁) E s) :
  wpAny (model prog w) A (eval (.Subscript value slice pos) env) Q E s:=by
 refine aeh (wpAny_mono h (λo s₁ h₁=>wpAny_mono h₁ (λi s₂ h₂=>?_) λ_ _ x=>x) λ_ _ x=>x);obtain⟨hT,h₂⟩:=h₂;unfold subscriptTail;refine wpAny_bind ?_;rw[getitemInPython_of_ne hT.not_modules];refine wpAny_bind (wpAny_specialOf hT hl ?_);have fin:wpAny (model prog w) A (subscripted slice false o i) (λr s₃=>wpAny (model prog w) A (letTemporaryGo value o r>>=λ_=>pure r) Q E s₃) E s₂:=by rw[hs o i];exact wpAny_operating (wpAny_mono h₂ (λr s₃ h₃=>wpAny_bind (wpAny_letTemporaryGo (wpAny_pure h₃))) λ_ _ x=>x)
 first
  |exact wpAny_pure (wpAny_bind fin)
  |exact wpAny_bind (wpAny_pure (wpAny_bind fin))
  |exact wpAny_bind fin
theorem yn{X:Cx}{pins:List (Addr×Obj)}{σ:St}{H:Hp}{s:Shared}{a:Addr}{y:V}{o:Option V}(I:Inv X pins σ H s)(g:iC H a y o):s.TypeIs (.ref a) "dict" := by
 rcases g with⟨kvs,k,e,_,_⟩|⟨kvs,k,b,e,_,_,_⟩
 ·obtain⟨_,_,vs,_,dd⟩:=uK I.aG e;exact dd.typeIs
 ·obtain⟨_,_,xs,_,dd⟩:=uL I.aG e;exact dd.typeIs
def O7(td ty:TE):TE:=λσ H Q=>td σ H λx H1=>ty σ H1 λy H2=>∃a v,x=.ref a/\iC H2 a y (some v)/\Q v H2
def IC(ty td:TE):TE:=λσ H Q=>ty σ H λy H1=>td σ H1 λx H2=>∃a o,x=.ref a/\iC H2 a y o/\Q (.bl (!o.isSome)) H2
def O8(td ty tv:TE):TS:=λD σ H=>tv σ H λv H1=>td σ H1 λx H2=>ty σ H2 λy H3=>∃a H4,x=.ref a/\vy H3 a y v H4/\D.nx σ H4
section
variable {X:Cx}{o i e value:Expr}{pos pos' Uc:Pos}{td ty tv:TE}
theorem yS(hu:X.A.units+1<cLine)(ho:PE X o td)(hi:PE X i ty)(hs:KU i):PE X (.Subscript o i pos) (O7 td ty):=by intro pins s σ H Q I h;refine IB PySem.F.slot_dict_getitem.lookup hs (aH (ho pins s σ H _ I h) λu s1 ⟨x,H1,I1,rx,q1⟩=>aH (hi pins s1 σ H1 _ I1 q1) λiv s2 ⟨y,H2,I2,ry,a,v,ex,g,q2⟩=>?_);subst ex;obtain rfl:u=Value.ref a:=rx;exact⟨yn I2 g,B1 hu I2 g ry λw' s3 I3 lG=>⟨v,H2,I3,lG,q2⟩⟩
theorem B7(hu:X.A.units+1<cLine)(hi:PE X i ty)(ho:PE X o td):PC X .NotIn i o (IC ty td):=by intro pins s σ H Q I h;refine aH (hi pins s σ H _ I h) λiv s1 ⟨y,H1,I1,ry,q1⟩=>aH (ho pins s1 σ H1 _ I1 q1) λu s2 ⟨x,H2,I2,rx,a,ov,ex,g,q2⟩=>?_;subst ex;obtain rfl:u=Value.ref a:=rx;exact IA hu I2 g ry λs3 I3=>⟨.bl (!ov.isSome),H2,I3,rfl,q2⟩
theorem ID(hu:X.A.units+1<cLine)(ho:PE X o td)(hi:PE X i ty)(hv:PE X value tv)(hs:swapsWith value (some (.Subscript o i pos')) pos.line X.env=pure false) :
  PS X (.Assign [.Subscript o i pos'] value pos) (O8 td ty tv):=by
 intro pins s σ H D I h;refine wpAny_Assign_Subscript (aH (hv pins s σ H _ I h) λr s1 ⟨v,H1,I1,rv,q1⟩=>aH (ho pins s1 σ H1 _ I1 q1) λu s2 ⟨x,H2,I2,rx,q2⟩=>aH (hi pins s2 σ H2 _ I2 q2) λiv s3 ⟨y,H3,I3,ry,a,H4,ex,g,q3⟩=>?_) hs;subst ex;obtain rfl:u=Value.ref a:=rx;exact B6 hu I3 g ry rv λs4 I4=>⟨σ,H4,I4,q3⟩
end
theorem vA{P:Program}{w:World}{H:Hp}(h:Heap)(hb:sysModules<h.objs.size):bc P w H (h.push {cls:=.type "dict",data:=.dict #[]}) h.objs.size (.dK []):=
 ⟨aaG _,beq_eq_false_iff_ne.mpr (aaI (aar hb)),[],.nil,afl h⟩
def KW:TE:=λ_ H Q=>∀p,H p=none->Q (.ref p) (upd H p (.dK []))
section
variable {X:Cx}{pos:Pos}
theorem EL:PE X (.Dict [] [] pos) KW:=λpins s σ H Q I h =>wpAny_Dict_empty ⟨.ref s.heap.objs.size,_,I.laid (a:=s.heap.objs.size) (o:=.dK []) (t':=s.toks) (λ_ _ q=>aab _ q) (aac _) (vA s.heap I.big),rfl,h _ (I.aG.fresh (aac _))⟩
end
def vB:List (TE×TE)->St->Hp->(List (V×V)->Hp->Prop)->Prop
 |[],_,H,Q=>Q [] H
 |(tk,tv)::r,σ,H,Q=>tk σ H λx H1=>tv σ H1 λy H2=>vB r σ H2 λps H3=>Q ((x,y)::ps) H3
abbrev VV:List (V×V)->List (Value×Value)->Prop:=Paired λp q=>RelV p.1 q.1/\RelV p.2 q.2
def GY(X:Cx)(pos:Pos)(keys:List (Option Expr))(values:List Expr)(trs:List (TE×TE)):Prop:=
 ∀(pins:List (Addr×Obj)) (s:Shared) (σ:St) (H:Hp) (Q:List (V×V)->Hp->Prop),Inv X pins σ H s->vB trs σ H Q ->
  wpAny (model X.prog X.w) X.A (evalPairs (pairTrees keys values X.env pos)) (λvs s'=>∃ps H',Inv X pins σ H' s'/\VV ps vs/\Q ps H') X.xe s
theorem IE{X:Cx}{pos:Pos}:GY X pos [] [] []:=λpins s σ H Q I h=>pairTrees_nil_walk ⟨[],H,I,.nil,h⟩
theorem EM{X:Cx}{pos:Pos}{k v:Expr}{ks:List (Option Expr)}{vs:List Expr}{tk tv:TE}{trs:List (TE×TE)}(hk:PE X k tk)(hv:PE X v tv)(hr:GY X pos ks vs trs) :
  GY X pos (some k::ks) (v::vs) ((tk,tv)::trs):=λpins s σ H Q I h=>
 pairTrees_cons_walk (aH (hk pins s σ H _ I h) λu s1 ⟨x,H1,I1,rx,q1⟩=>aH (hv pins s1 σ H1 _ I1 q1) λw2 s2 ⟨y,H2,I2,ry,q2⟩ =>aH (hr pins s2 σ H2 _ I2 q2) λws s3 ⟨ps,H3,I3,rel,q3⟩=>⟨(x,y)::ps,H3,I3,.cons ⟨rx,ry⟩ rel,q3⟩)
def jQ(kvs more:List (Key×V)):List (Key×V):=more.foldl (λacc kv=>putK acc kv.1 kv.2) kvs
theorem KV.merge:∀{more:List (Key×V)} {rs:List (Key×Value)} {kvs:List (Key×V)} {vs:List (Key×Value)},KV more rs->KV kvs vs->KV (jQ kvs more) (merged vs rs):=by
 intro more rs kvs vs r;unfold KV at r;induction r generalizing kvs vs with
 |nil=>intro q;exact q
 |@cons p q ps qs h t ih=>
  intro r0;have e:KV (putK kvs p.1 p.2) (stored vs q.1 q.2):=by
   have:=r0.put p.1 h.2
   rw[<-h.1];exact this
  exact ih e
theorem k7:∀(more kvs:List (Key×V)),(jQ kvs more).length<=kvs.length+more.length
 |[],kvs=>by show kvs.length<=kvs.length+0;omega
 |p::r,kvs=>by
  have h1:=k7 r (putK kvs p.1 p.2);have h2:=jF kvs p.1 p.2;show(jQ (putK kvs p.1 p.2) r).length<=_
  rw[aaH];omega
theorem pU{P:Program}{w:World}:∀{kvs:List (Key×V)} {ws:List (Value×Value)},VV (kvs.map λkv=>(kV kv.1,kv.2)) ws->∃rs,Carries (bL P w) ws rs/\KV kvs rs
 |[],_,r=>by rw[adE] at r;cases r;exact⟨[],True.intro,.nil⟩
 |p::kvs,_,r=>by
  rw[aaE] at r;cases r with
  |@cons a b as bs h t =>obtain⟨rs,c,q⟩:=pU (P:=P) (w:=w) t;obtain⟨b1,b2⟩:=b;exact⟨(p.1,b2)::rs,⟨mX h.1,rfl,c⟩,.cons ⟨rfl,h.2⟩ q⟩
def O9(trs:List (TE×TE)):TE:=λσ H Q=>∀p,H p=none->vB trs σ (upd H p (.dK [])) λps H2=>H2 p=some (.dK [])/\∃kvs:List (Key×V),ps=kvs.map (λkv=>(kV kv.1,kv.2))/\kvs.length<=15/\Q (.ref p) (upd H2 p (.dK (jQ [] kvs)))
theorem IF{X:Cx}{pos:Pos}{keys:List (Option Expr)}{values:List Expr}{trs:List (TE×TE)}(h:GY X pos keys values trs)(hall:keys.all (·.isSome)=true)(hl:keys.length=values.length)(h0:keys≠[])
  (h15:keys.length<=15):PE X (.Dict keys values pos) (O9 trs):=by
 intro pins s σ H Q I q;have hn:=I.aG.fresh (aac s.heap.objs.size);have I1:=I.laid (a:=s.heap.objs.size) (o:=.dK []) (h':=s.heap.push {cls:=.type "dict",data:=.dict #[]}) (t':=s.toks) (λ_ _ q=>aab _ q) (aac _) (vA s.heap I.big);refine wpAny_Dict_walk (knd:=bL X.prog X.w) hall hl h0 h15 (aH (h pins _ σ _ _ I1 (q _ hn)) λws s2 ⟨ps,H2,I2,rel,e,kvs,ep,lk,q2⟩=>?_);subst ep;obtain⟨rs,c,rk⟩:=pU (P:=X.prog) (w:=X.w) rel;obtain⟨z,hd,Zs,r0,dd⟩:=Az I2.aG e;cases r0;refine⟨rs,c,dd,λh' vz hs=>⟨.ref s.heap.objs.size,_,?_,rfl,q2⟩⟩;have hz:(jQ [] kvs).length<=sizeLine:=by have h1:=k7 kvs [];rw[abJ] at h1;rw[adh];omega
 have he:∃q,h'.get? s.heap.objs.size=some q:=let ⟨q,_,_,hq,_⟩:=vz;⟨q,hq⟩
 exact qV I2 (by rw[e];exact True.intro) hs he (B3 hz hd (rk.merge .nil) vz)
section
variable {κ:Type}[DecidableEq κ]
theorem g7:∀{l:List κ} {k:κ},l.Nodup->¬ k∈l->(l++[k]).Nodup
 |[],k,_,_=>by simp
 |a::r,k,h,hk=>by
  obtain⟨h1,h2⟩:=aaT.mp h;show(a::(r++[k])).Nodup
  refine aaT.mpr ⟨λm=>?_,g7 h2 λm=>hk (aah.mpr (Or.inr m))⟩;rcases aas.mp m with q|q
  ·exact h1 q
  ·exact hk (aah.mpr (Or.inl (aaf.mp q).symm))
end
section
variable {M:Model}{A:Around}{E:Value->Shared->Prop}{s:Shared}
def cU(env:Env):List (Str×NameKind)->List (Str×Addr)->List (Str×Addr)
 |[],acc=>acc
 |(n,k)::r,acc=>if (k==NameKind.free)=true then cU env r ((n,(env.cells.lookup n).getD 0)::acc) else cU env r acc
theorem lP{env:Env}(f:Str×NameKind->List (Str×Addr)->Sem (ForInStep (List (Str×Addr))))
  (hf:∀n k cs,f (n,k) cs=if (k==NameKind.free)=true then (do let a <-cellOf env n;pure (.yield ((n,a)::cs))) else pure (.yield cs)) :
  ∀(names:List (Str×NameKind)) (acc:List (Str×Addr)),(∀p∈names,p.2=.free->∃c,env.cells.lookup p.1=some c)->forIn names acc f=pure (cU env names acc)
 |[],acc,_=>by rw[adf];rfl
 |(n,k)::r,acc,h=>by
  have hr:∀p∈r,p.2=.free->∃c,env.cells.lookup p.1=some c:=λp hp=>h p (aae _ hp);rw[adQ,hf,cU];by_cases hk:(k==NameKind.free)=true
  ·obtain⟨c,hc⟩:=h (n,k) aal (by simpa using hk);have BE:env.cells.lookup n=some c:=hc;rw[if_pos hk,if_pos hk];have e:cellOf env n=pure c:=by unfold cellOf;rw[BE]
   rw[e,BE];exact lP f hf r _ hr
  ·rw[if_neg hk,if_neg hk];exact lP f hf r _ hr
theorem fG{sc:Scope}{env:Env}(h:∀p∈sc.names,p.2=.free->∃c,env.cells.lookup p.1=some c):closureFor sc env=pure (cU env sc.names []):=by unfold closureFor;have e:=lP (env:=env) (λ(x:Str×NameKind) (r:List (Str×Addr))=>if (x.2==NameKind.free)=true then (do let a <-cellOf env x.1;pure (ForInStep.yield ((x.1,a)::r))) else pure (ForInStep.yield r)) (λ_ _ _=>rfl) sc.names [] h;exact(congrArg (λm=>m>>=λcs=>pure cs) e)
theorem oM{env:Env}{x:Str}{c:Addr}:∀{names:List (Str×NameKind)} {acc:List (Str×Addr)},(x,c)∈cU env names acc->(x,c)∈acc\/((x,NameKind.free)∈names/\c=(env.cells.lookup x).getD 0)
 |[],_,h=>.inl h
 |(n,k)::r,acc,h=>by
  unfold cU at h;split at h
  ·rename_i hk
   have dM:k=.free:=by simpa using hk
   rcases oM h with q|⟨q,e⟩
   ·rcases aah.mp q with q|q
    ·cases q;exact .inr ⟨by rw[dM];exact aal,rfl⟩
    ·exact .inl q
   ·exact .inr ⟨aae _ q,e⟩
  ·rcases oM h with q|⟨q,e⟩
   ·exact .inl q
   ·exact .inr ⟨aae _ q,e⟩
theorem gH{β:Type}{x:Str}{c:β}:∀{l:List (Str×β)},(x,c)∈l->∃c',l.lookup x=some c'
 |[],h=>nomatch h
 |(n,k)::r,h=>by
  cases hx:x==n with
  |true=>exact⟨k,by simp[aaW,hx]⟩
  |false=>
   rcases aah.mp h with q|q
   ·cases q;simp at hx
   ·obtain⟨c',e⟩:=gH q;exact⟨c',by simp[aaW,hx,e]⟩
theorem kj{env:Env}{x:Str}:∀{names:List (Str×NameKind)} {acc:List (Str×Addr)},((x,NameKind.free)∈names\/∃c,(x,c)∈acc)->∃c,(x,c)∈cU env names acc
 |[],acc,h=>by
  rcases h with h|⟨c,h⟩
  ·exact nomatch h
  ·exact⟨c,h⟩
 |(n,k)::r,acc,h=>by
  unfold cU;split
  ·rename_i hk
   apply kj;rcases h with h|⟨c,h⟩
   ·rcases aah.mp h with q|q
    ·cases q;exact .inr ⟨_,aal⟩
    ·exact .inl q
   ·exact .inr ⟨c,aae _ h⟩
  ·rename_i hk
   apply kj;rcases h with h|⟨c,h⟩
   ·rcases aah.mp h with q|q
    ·cases q;simp at hk
    ·exact .inl q
   ·exact .inr ⟨c,h⟩
theorem dj:∀(names:List (Str×NameKind)) (n:Nat) (acc:List (Str×Addr)),cellsFrom n names acc=cellsFrom n names []++acc
 |[],_,_=>rfl
 |(x,k)::r,n,acc=>by
  unfold cellsFrom;split
  ·rw[dj r (n+1) ((x,n)::acc),dj r (n+1) [(x,n)]];simp
  ·exact dj r n acc
theorem iD{x:Str}{c:Addr}:∀{names:List (Str×NameKind)} {n:Nat} {acc:List (Str×Addr)},(x,c)∈cellsFrom n names acc->(x,c)∈acc\/(x,NameKind.cell)∈names
 |[],_,_,h=>.inl h
 |(m,k)::r,n,acc,h=>by
  unfold cellsFrom at h;split at h
  ·rename_i hk
   have dM:k=.cell:=by simpa using hk
   rcases iD h with q|q
   ·rcases aah.mp q with q|q
    ·cases q;exact .inr (by rw[dM];exact aal)
    ·exact .inl q
   ·exact .inr (aae _ q)
  ·rcases iD h with q|q
   ·exact .inl q
   ·exact .inr (aae _ q)
theorem fH{x:Str}:∀{names:List (Str×NameKind)} {n:Nat} {acc:List (Str×Addr)},((x,NameKind.cell)∈names\/∃c,(x,c)∈acc)->∃c,(x,c)∈cellsFrom n names acc
 |[],n,acc,h=>by
  rcases h with h|⟨c,h⟩
  ·exact nomatch h
  ·exact⟨c,h⟩
 |(m,k)::r,n,acc,h=>by
  unfold cellsFrom;split
  ·apply fH;rcases h with h|⟨c,h⟩
   ·rcases aah.mp h with q|q
    ·cases q;exact .inr ⟨_,aal⟩
    ·exact .inl q
   ·exact .inr ⟨c,aae _ h⟩
  ·rename_i hk
   apply fH;rcases h with h|⟨c,h⟩
   ·rcases aah.mp h with q|q
    ·cases q;simp at hk
    ·exact .inl q
   ·exact .inr ⟨c,h⟩
theorem kl{β:Type}{x:Str}:∀(l1 l2:List (Str×β)),(l1++l2).lookup x=(l1.lookup x).or (l2.lookup x)
 |[],_=>by simp
 |(n,k)::r,l2=>by
  cases hx:x==n with
  |true=>simp[aaW,hx]
  |false=>simp[aaW,hx,kl r l2]
theorem jG{scope:Scope}{globals:Addr}{cl:List (Str×Addr)}{qual:Str}{env:Env}{Q:Env->Shared->Prop}
  (hQ:Q {scope,locals:=s.heap.objs.size,globals,cells:=cellsFrom (s.heap.objs.size+1) scope.names cl,qual,func:=none,code:=env.code,frame:=env.frame,builtins:=env.builtins}
   {s with heap:=pushCells (s.heap.push {cls:=.type "dict",data:=.dict #[]}) scope.names}) :
  wpAny M A (newFunctionEnv scope globals cl [] qual none .none (some env)) Q E s:=by
 have z:(s.heap.push {cls:=.type "dict",data:=.dict #[]}).objs.size=s.heap.objs.size+1:=aa1 ..;show wpAny M A (alloc {cls:=.type "dict",data:=.dict #[]}>>=_) Q E s
 apply wpAny_bind;apply wpAny_alloc;apply wpAny_bind;refine wpAny_layCells _ (λ_ k _=>by by_cases y:k=NameKind.cell<;>simp[y]) _ _ _ _ ?_;dsimp only;rw[adf,z];exact wpAny_bind (wpAny_pure (wpAny_pure hQ))
theorem g8{env:Env}{x:Str}:∀(names:List (Str×NameKind)),
  (names.map λ(n,k)=>if (k==NameKind.free&&env.scope.kind==.function&&env.kindOf n==some .cell) then (n,NameKind.cell) else (n,k)).lookup x =
   (names.lookup x).map λk=>if (k==NameKind.free&&env.scope.kind==.function&&env.kindOf x==some .cell)=true then NameKind.cell else k
 |[]=>by simp
 |(n,k)::r=>by
  have ih:=g8 (env:=env) (x:=x) r;cases hx:x==n with
  |true=>
   have e:x=n:=by simpa using hx
   subst e;rw[aaE];dsimp only;by_cases hc:(k==NameKind.free&&env.scope.kind==.function&&env.kindOf x==some .cell)=true
   ·rw[if_pos hc,aaW,aaW,hx];dsimp only[ac1];rw[if_pos hc]
   ·rw[if_neg hc,aaW,aaW,hx];dsimp only[ac1];rw[if_neg hc]
  |false=>
   rw[aaE];dsimp only;by_cases hc:(k==NameKind.free&&env.scope.kind==.function&&env.kindOf n==some .cell)=true
   ·rw[if_pos hc,aaW,aaW,hx];exact ih
   ·rw[if_neg hc,aaW,aaW,hx];exact ih
end
def du(X:Cx)(own:List Str)(fr:List Nat)(scope:Scope)(s2:Shared)(H2:Hp)(fp:List Addr):Cx where
 prog:=X.prog
 w:=X.w
 K:=X.K
 mg:=X.mg
 base:=X.base
 A:=X.A
 N:=own++fr.map (λi=>X.N.getD i Str.empty)
 s₀:=s2
 H₀:=H2
 env:={scope:=relabel scope X.env,locals:=s2.heap.objs.size+1,globals:=X.env.globals,cells:=cellsFrom (s2.heap.objs.size+2) scope.names (cU X.env scope.names []),qual:=X.env.qual,func:=none,code:=X.env.code,frame:=X.env.frame,builtins:=X.env.builtins}
 outer:=X.stack
 stack:=X.stack
 ex:=fp
 fn:=λx=>scope.names.lookup x==some .cell
 calm:=X.calm
 pn:=[]
 xe:=λ_ _=>False
def dS(own:List Str)(fr:List Nat)(σ:St):St:=List.replicate own.length none++fr.map λi=>(σ[i]?).join
def B8(osc:List (Str×NameKind))(N:List Str)(own:List Str)(fr:List Nat)(sc:Scope):Bool:=
 decide (sc.kind=.function)&&decide ((sc.names.map (·.1)).Nodup) &&
 sc.names.all (λy=>!(y.2==.free)||(osc.lookup y.1==some .cell||osc.lookup y.1==some .free)) &&
 fr.all (λi=>decide (i<N.length)&&(sc.names.lookup (N.getD i Str.empty)==some .free))
structure gI(X:Cx)(own:List Str)(fr:List Nat)(sc:Scope):Prop where
 kind:sc.kind=.function
 nd:(sc.names.map (·.1)).Nodup
 yT:∀y∈sc.names,y.2=.free->X.env.scope.names.lookup y.1=some .cell\/X.env.scope.names.lookup y.1=some .free
 Wc:∀i∈fr,i<X.N.length
 Wd:∀i∈fr,sc.names.lookup (X.N.getD i Str.empty)=some .free
theorem bQ{X:Cx}{own:List Str}{fr:List Nat}{sc:Scope}{osc:List (Str×NameKind)}{N:List Str}(h1:X.env.scope.names=osc)(h2:X.N=N)(h:B8 osc N own fr sc=true):gI X own fr sc:=by
 unfold B8 at h;simp only[abk,decide_eq_true_eq,abF] at h;obtain⟨⟨⟨h3,h4⟩,h5⟩,h6⟩:=h;refine⟨h3,h4,λy hy hf=>?_,λi hi=>?_,λi hi=>?_⟩
 ·have:=h5 y hy
  rw[h1];simpa [hf] using this
 ·rw[h2];exact(h6 i hi).1
 ·rw[h2];simpa using(h6 i hi).2
theorem bX{x:Str}{k:NameKind}:∀{l:List (Str×NameKind)},(l.map (·.1)).Nodup->(x,k)∈l->l.lookup x=some k
 |[],_,h=>nomatch h
 |(n,q)::r,nd,h=>by
  rcases aah.mp h with e|e
  ·cases e;simp[aaW]
  ·have nd':=aaT.mp nd;have hne:(x==n)=false:=by
    have:x≠n:=λz=>nd'.1 (by rw[<-z];exact aaK.mpr ⟨_,e,rfl⟩)
    simpa using this
   rw[aaW,hne];exact bX nd'.2 e
section
variable {X:Cx}{pins:List (Addr×Obj)}{σ:St}{H:Hp}{s:Shared}{own:List Str}{fr:List Nat}{sc:Scope}{fp:List Addr}
abbrev hC(s:Shared)(sc:Scope)(h1:Heap):Heap:=pushCells (h1.push {cls:=.type "dict",data:=.dict #[]}) sc.names
theorem oN(I:Inv X pins σ H s)(S:gI X own fr sc)(hfp:∀b∈fp,gF X pins H b){h1:Heap}(hz:h1.objs.size=s.heap.objs.size+1)(hk:∀b o,s.heap.get? b=some o->h1.get? b=some o)(hfl:∀b∈fp,@LT.lt Nat _ b s.heap.objs.size) :
  Inv (du X own fr sc s H fp) [] (dS own fr σ) H {s with heap:=hC s sc h1}:=by
 have kk:∀b o,s.heap.get? b=some o->(hC s sc h1).get? b=some o:=λb o e=>pushCells_keeps _ _ b o (aab _ (hk b o e));have We:(hC s sc h1).Ns (s.heap.objs.size+1) (λ_=>none):=by have q:=(Heap.Ns.new h1 (.type "dict")).keeps (pushCells_keeps sc.names _);rw[hz] at q;exact q
 have ok:=cellsFrom_ok sc.names (h1.push {cls:=.type "dict",data:=.dict #[]}) (s.heap.objs.size+2) [] ⟨λ_ _ hm=>(nomatch hm),List.Pairwise.nil⟩ (by rw[aa1,hz];exact aac _);rw[aa1,hz] at ok;have Pa:∀y∈sc.names,y.2=.free->∃c,X.env.cells.lookup y.1=some c:=λy hy hf=>I.ok.has y.1 (by
  rcases S.yT y hy hf with q|q
  ·exact .inl q
  ·exact .inr q)
 have old:∀x c,(cU X.env sc.names []).lookup x=some c->X.env.cells.lookup x=some c/\(x,NameKind.free)∈sc.names:=λx c e=>by
  rcases oM (aaY e) with q|⟨q,e2⟩
  ·exact nomatch q
  ·obtain⟨c',e3⟩:=Pa _ q rfl;have QQ:X.env.cells.lookup x=some c':=e3;rw[QQ] at e2
   have:c=c':=e2
   subst this;exact⟨QQ,q⟩
 have cs:∀x c,(du X own fr sc s H fp).env.cells.lookup x=some c->((cellsFrom (s.heap.objs.size+2) sc.names []).lookup x=some c/\@LE.le Nat _ (s.heap.objs.size+2) c)\/(X.env.cells.lookup x=some c/\(x,NameKind.free)∈sc.names/\@LT.lt Nat _ c s.heap.objs.size):=λx c e=>by
  have e':(cellsFrom (s.heap.objs.size+2) sc.names (cU X.env sc.names [])).lookup x=some c:=e;rw[dj,kl] at e';cases q:(cellsFrom (s.heap.objs.size+2) sc.names []).lookup x with
  |some c'=>
   rw[q] at e'
   have:c'=c:=by simpa using e'
   subst this;exact .inl ⟨rfl,(ok.empty x c' (aaY q)).2⟩
  |none =>rw[q] at e';obtain⟨e1,e2⟩:=old x c (by simpa using e');obtain⟨v,hv⟩:=I.cell x c e1;exact .inr ⟨e1,e2,hv.lt⟩
 have Wf:(du X own fr sc s H fp).Ok:=by
  refine⟨I.ok.mod,S.kind,I.ok.glob,I.ok.blt,aa7 _,λx y c h1 h2=>?_,λx hx=>?_,λx c hf e=>?_,I.ok.hd,I.ok.frames,.inl rfl,λb hb=>⟨?_,λx c e=>?_⟩,λb o e=>I.bs b o e,aam I.ok.nH I.sz,λb o e hb=>?_,λb hb z=>?_,I.stack,I.mU⟩
  ·rcases cs x c h1 with⟨q1,g1⟩|⟨q1,_,g1⟩
   ·rcases cs y c h2 with⟨q2,g2⟩|⟨q2,_,g2⟩
    ·exact name_of_addr ok.apart (aaY q1) (aaY q2)
    ·omega
   ·rcases cs y c h2 with⟨q2,g2⟩|⟨q2,_,g2⟩
    ·omega
    ·exact I.ok.inj x y c q1 q2
  ·-- a cell or free name of Wg block has its cell
   have hx':(relabel sc X.env).names.lookup x=some .cell\/(relabel sc X.env).names.lookup x=some .free:=hx;have hl:sc.names.lookup x=some .cell\/sc.names.lookup x=some .free:=by
    unfold relabel at hx';rw[g8] at hx';cases q:sc.names.lookup x with
    |none=>rw[q] at hx';simp at hx'
    |some k =>rw[q] at hx';cases k<;>simp at hx'⊢
   have hm:∃c,(x,c)∈cellsFrom (s.heap.objs.size+2) sc.names (cU X.env sc.names []):=by
    rcases hl with hl|hl
    ·exact fH (.inl (aaY hl))
    ·exact fH (.inr (kj (.inl (aaY hl))))
   obtain⟨c,hm⟩:=hm;exact gH hm
  ·have QR:sc.names.lookup x=some .cell:=by simpa using(show(sc.names.lookup x==some .cell)=true from hf)
   show @LE.le Nat _ s.heap.objs.size c
   rcases cs x c e with⟨_,g⟩|⟨_,q,_⟩
   ·omega
   ·rw[bX S.nd q] at QR;cases QR
  ·have:=hfl b hb
   show @Ne Nat b (s.heap.objs.size+1)
   omega
  ·intro z;subst z;rcases cs x c e with⟨_,g⟩|⟨q,_,_⟩
   ·have:=hfl c hb;omega
   ·exact(hfp c hb).2.2.2.2.1 x c q rfl
  ·rcases(hfp b hb).2.2.2.1 with z|z
   ·exact I.ok.qR b o e z
   ·have z1:@LT.lt Nat _ b X.base.objs.size:=aag e;have z2:X.base.objs.size<=X.s₀.heap.objs.size:=I.ok.nH;have z3:@LE.le Nat _ X.s₀.heap.objs.size b:=z;omega
  ·rcases aah.mp (I.gE b z) with e|e
   ·exact(hfp b hb).2.1 e
   ·exact(hfp b hb).2.2.1 e
 refine⟨Wf,rfl,I.bare,Un.kept kk,⟨_,We,λi x v h1 h2 h3=>?_⟩,λx c e=>?_,I.aG.fresh (aa7 _),λx c e=>?_,λp hp=>absurd (show p∈([]:List (Addr×Obj)) from hp) (by simp),I.aG.kept kk,?_⟩
 ·-- an outer name Zd is read
  have hi:own.length<=i:=by
   by_cases hi:i<own.length
   ·exfalso;unfold dS at h2;rw[aa6 (by simpa using hi),abP] at h2;split at h2<;>cases h2
   ·omega
  have h1':(own++fr.map (λi=>X.N.getD i Str.empty))[i]?=some x:=h1;rw[abn hi,aan] at h1';unfold dS at h2;rw[abn (by simpa using hi),aan,abX] at h2;cases e:fr[i-own.length]? with
  |none=>rw[e] at h1';cases h1'
  |some k=>
   rw[e] at h1' h2;have QS:k∈fr:=aak e;have ex:X.N.getD k Str.empty=x:=by simpa using h1'
   have ev:(σ[k]?).join=some v:=by simpa using h2
   have Wh:=S.Wc k QS;have eN:X.N[k]?=some x:=by rw[<-ex];simp[List.getD,Wh]
   have eσ:σ[k]?=some (some v):=by
    cases q:σ[k]? with
    |none=>rw[q] at ev;cases ev
    |some o=>rw[q] at ev;cases o with
     |none=>cases ev
     |some v'=>have:v'=v:=(by simpa using ev);subst this;rfl
   have hfr:=S.Wd k QS;rw[ex] at hfr;have hmem:(x,NameKind.free)∈sc.names:=aaY hfr;have Wi:=S.yT _ hmem rfl;have hkd':X.env.scope.names.lookup x=some .cell\/X.env.scope.names.lookup x=some .free:=Wi;obtain⟨m,hn,hl⟩:=I.loc;obtain⟨u,r,l⟩:=hl k x v eN eσ (hkd'.elim (λz=>.inr (.inl z)) λz=>.inr (.inr z));refine⟨u,r,?_⟩;rcases l with⟨z,_⟩|⟨_,c,hc,iQ⟩
   ·exfalso;have z':X.env.scope.names.lookup x=some .local:=z;rcases hkd' with q|q<;>(rw[q] at z';cases z')
   ·refine .inr ⟨?_,c,?_,iQ.keeps kk⟩
    ·show(relabel sc X.env).names.lookup x=some .cell\/(relabel sc X.env).names.lookup x=some .free
     unfold relabel;rw[g8,hfr];simp only[ac1];split
     ·exact .inl rfl
     ·exact .inr rfl
    ·show(cellsFrom (s.heap.objs.size+2) sc.names (cU X.env sc.names [])).lookup x=some c
     rw[dj,kl];have h0:(cellsFrom (s.heap.objs.size+2) sc.names []).lookup x=none:=by
      cases q:(cellsFrom (s.heap.objs.size+2) sc.names []).lookup x with
      |none=>rfl
      |some c'=>
       exfalso;rcases iD (aaY q) with z|z
       ·exact nomatch z
       ·rw[bX S.nd z] at hfr;cases hfr
     rw[h0];obtain⟨c',Wj⟩:=kj (env:=X.env) (acc:=[]) (.inl hmem);obtain⟨c2,e2⟩:=gH Wj;obtain⟨e3,_⟩:=old x c2 e2;rw[hc] at e3;rw[e2];simpa using e3.symm
 ·rcases cs x c e with⟨q,_⟩|⟨q,_,_⟩
  ·exact⟨_,(ok.empty x c (aaY q)).1⟩
  ·obtain⟨v,hv⟩:=I.cell x c q;exact⟨v,hv.keeps kk⟩
 ·rcases cs x c e with⟨_,g⟩|⟨q,_,_⟩
  ·exact I.aG.fresh (by omega)
  ·exact I.dX x c q
 ·unfold dS;show _=(own++fr.map (λi=>X.N.getD i Str.empty)).length
  simp
theorem oO{own:List Str}{fr:List Nat}{sc:Scope}{fp:List Addr}{H1:Hp}{s1:Shared}{σ1:St}{Pb:List (Addr×Obj)}{h':Heap}{o:HO}{D:Addr}
  (I:Inv X pins σ H s) (hfp:∀b∈fp,gF X pins H b) (I1:Inv (du X own fr sc s H fp) Pb σ1 H1 s1) (hD:@LE.le Nat _ s.heap.objs.size D) (hDn:H1 D=none) (hDC:D≠s.heap.objs.size+1)
  (hs:Heap.SameBut (s.heap.objs.size+1) s1.heap h') (hO:bc X.prog X.w (upd H1 D o) h' D o) (tk:Nat):Inv X pins σ (upd H1 D o) {s1 with heap:=h',toks:=tk}:=by
 have u:=I1.base;have QT:H1 (s.heap.objs.size+1)=none:=I1.free;have hDo:∀b ob,s.heap.get? b=some ob->b≠D:=λb ob e z=>by
  have:=aag e
  have z':@Eq Nat b D:=z;have q:@LT.lt Nat _ b s.heap.objs.size:=this;omega
 have hCo:∀b ob,s.heap.get? b=some ob->b≠s.heap.objs.size+1:=λb ob e z=>by have q:@LT.lt Nat _ b s.heap.objs.size:=aag e;have z':@Eq Nat b (s.heap.objs.size+1):=z;omega
 have KY:H D=none:=I.aG.fresh hD;have cut:∀b ob,s.heap.get? b=some ob->∀oc,s1.heap.get? b=some oc->h'.get? b=some oc:=λb ob e oc q=>(hs.2 b (hCo b ob e)).trans q;refine Inv.pJ (ch:=fp) I (s':={s1 with heap:=h',toks:=tk}) I1.os ?_ ?_ I1.bare λb hb=>⟨(hfp b hb).2.2.2.1,(hfp b hb).2.1,(hfp b hb).2.2.2.2.1,(hfp b hb).2.2.2.2.2⟩
 ·refine⟨λb ob e n hb hx=>cut b ob e _ (u.keep b ob e n hb hx),λb ob e n hb hx=>?_,λb ob e n hx=>?_,λb ob e hx=>?_,λb xs e=>?_,λb ob xs e=>?_,λb ps e=>?_⟩
  ·obtain⟨sl,q⟩:=u.slot b ob e n hb hx;exact⟨sl,cut b ob e _ q⟩
  ·rw[aq (hDo b ob e)];exact u.free b ob e n hx
  ·obtain⟨o',q⟩:=u.there b ob e hx;exact⟨o',cut b ob e _ q⟩
  ·rw[aq (au e KY)];exact u.eg b xs e
  ·rw[aq (au e KY)];exact u.dW b ob xs e
  ·rw[aq (au e KY)];exact u.eB b ps e
 ·intro b ob e;by_cases hb:b=D
  ·subst hb;rw[af] at e;cases e;exact hO
  ·rw[aq hb] at e;refine(I1.aG b ob e).fO (λc q hc g=>?_) (λc q=>by rw[aq (au q hDn)];exact q) λc xs q=>by rw[aq (au q hDn)];exact q
   refine(hs.2 c ?_).trans g;rcases hc with z|z
   ·rw[z];exact au e QT
   ·exact au z QT
end
abbrev nR:Value->Shared->Prop:=λ_ _=>False
def IG(env:Env)(c:Expr)(b:Bool):Sem (ForInStep Bool):=
 if b=true then (isTrue c env (eval c env)>>=λb'=>pure (.yield b')) else pure (.yield b)
def km(env:Env)(cs:List Expr):Sem Bool:=forIn cs true (IG env)
structure gp where
 add:Expr
 pV:Expr
 src:Expr
 cs:List Expr
 sc:Scope
 pos:Pos
namespace gp
variable (B:gp)
abbrev expr:Expr:=.ListComp B.add [⟨B.pV,B.src,B.cs,0⟩] B.sc B.pos
section
variable (prog:Program)(w:World)(A:Around)(env:Env)(it acc:Value)
abbrev Tame{α:Type}(e:Sem α)(Q:α->Shared->Prop)(s:Shared):Prop:=wpAny (model prog w) A e Q nR s
def EN(J:Shared->Prop):Bool->Shared->Prop
 |false,s=>J s
 |true,s=>Tame prog w A (eval B.add env) (λx=>Tame prog w A (call (.builtin "list.append") [acc,x]) λ_=>J) s
def AA(J:Shared->Prop)(v:Value):Shared->Prop:=
 Tame prog w A (letOwnedTupleGo B.pV it v) λ_=>Tame prog w A (assign B.pV env v) λ_=>Tame prog w A (km env B.cs) (B.EN prog w A env acc J)
def EO(D J:Shared->Prop):Option Value->Shared->Prop
 |none=>D
 |some v=>B.AA prog w A env it acc J v
end
theorem loops{B:gp}{prog:Program}{w:World}{A:Around}{env:Env}{it acc:Value}{R:Result->Shared->Prop}(G:Nat->Shared->Prop)
  (turn:∀k t,G k t->Tame prog w A (pyNext it) (B.EO prog w A env it acc (R (.ok .next)) λu=>∃j,j<k/\G j u) t)
  {k:Nat} {t:Shared} (g:G k t):codeAny (model prog w) A (.compLoop B.expr 0 it acc env) R t:=by
 have one:∀k t,G k t->Tame prog w A (compTurn B.expr 0 it acc env) (λx t'=>match x with|.done r=>R (.ok r) t'|.again c=>c=.compLoop B.expr 0 it acc env/\∃j,j<k/\G j t') t:=by
  intro k t g;rw[show B.expr=.ListComp B.add [⟨B.pV,B.src,B.cs,0⟩] B.sc B.pos from rfl,compTurn_list];apply wpAny_bind;apply wpAny_standAt;apply wpAny_bind;refine aH (turn k t g) λx t1 h1=>?_;match x,h1 with
  |none,h1=>exact wpAny_pure h1
  |some v,h1=>
   apply wpAny_bind;refine aH h1 λ_ t2 h2=>?_;apply wpAny_bind;refine aH h2 λ_ t3 h3=>?_;apply wpAny_bind;refine aH h3 λb t4 h4=>?_;match b,h4 with
   |false,h4=>exact wpAny_pure ⟨rfl,h4⟩
   |true,h4 =>apply wpAny_bind;apply wpAny_bind;refine aH h4 λy t5 h5=>?_;apply wpAny_bind;refine aH h5 λ_ t6 h6=>?_;exact wpAny_pure (wpAny_pure ⟨rfl,h6⟩)
 exact aeE rfl G (λk t g=>wpAny_noted (wpAny_mono (one k t g) (λ_ _ q=>q) λ_ _ f=>f.elim)) k g
end gp
def iE(X:Cx)(ifs:List Expr)(t:TT):Prop:=
 ∀(pins:List (Addr×Obj)) (s:Shared) (σ:St) (H:Hp) (Q:Bool->Hp->Prop),Inv X pins σ H s->t σ H Q ->
  wpAny (model X.prog X.w) X.A (km X.env ifs) (TP X pins σ Q) X.xe s
def dN:TT:=λ_ H Q=>Q true H
theorem bT{X:Cx}:iE X [] dN:=λ_ _ _ H _ I h=>wpAny_tests_nil ⟨H,I,h⟩
theorem fR{X:Cx}{c:Expr}{t:TT}(h:PT X c t):iE X [c] t:=λpins s σ H Q I q=>wpAny_tests_one (h pins s σ H Q I q)
def GK(n:Nat)(g:TG):Prop:=∀v σ H Q,g v σ H Q->g v σ H λσ' H'=>Q σ' H'/\σ'.length=σ.length/\∀j,n<=j->σ'[j]?=σ[j]?
def GZ(n:Nat)(g:lF):Prop:=∀vs σ H Q,g vs σ H Q->g vs σ H λσ' H'=>Q σ' H'/\σ'.length=σ.length/\∀j,n<=j->σ'[j]?=σ[j]?
theorem bJ{n i:Nat}(h:i<n):GK n (bF i):=λv σ H Q q=>⟨q,by simp,λj hj=>by rw[acj (by omega)]⟩
theorem IH{n:Nat}:GZ n qS:=λvs σ H Q q=>⟨q.1,q.2,rfl,λ_ _=>rfl⟩
theorem vC{n:Nat}{t:TG}{u:lF}(m:∀v σ H Q Q',(∀σ' H',Q σ' H'->Q' σ' H')->t v σ H Q->t v σ H Q')(mu:∀v σ H Q Q',(∀σ' H',Q σ' H'->Q' σ' H')->u v σ H Q->u v σ H Q')(h1:GK n t)(h2:GZ n u):GZ n (jr t u):=λvs σ H Q ⟨v,r,e,q⟩ =>⟨v,r,e,m _ _ _ _ _ (λσ' H' ⟨q',l1,k1⟩=>mu _ _ _ _ _ (λσ2 H2 ⟨q2,l2,k2⟩=>⟨q2,l2.trans l1,λj hj=>(k2 j hj).trans (k1 j hj)⟩) (h2 _ _ _ _ q')) (h1 _ _ _ _ q)⟩
theorem KZ{K:PySem.W.Frag}{n k:Nat}{t:lF}(h:GZ n t):GK n (Af K k t):=λv σ H Q ⟨a,xs,e,sq,l,q⟩=>⟨a,xs,e,sq,l,h _ _ _ _ q⟩
theorem qW{i:Nat}:∀v σ H Q Q',(∀σ' H',Q σ' H'->Q' σ' H')->bF i v σ H Q->bF i v σ H Q':=λ_ _ _ _ _ m q=>m _ _ q
theorem tD:∀v σ H Q Q',(∀σ' H',Q σ' H'->Q' σ' H')->qS v σ H Q->qS v σ H Q':=λ_ _ _ _ _ m q=>⟨q.1,m _ _ q.2⟩
theorem AB{t:TG}{u:lF}(m:∀v σ H Q Q',(∀σ' H',Q σ' H'->Q' σ' H')->t v σ H Q->t v σ H Q')(mu:∀v σ H Q Q',(∀σ' H',Q σ' H'->Q' σ' H')->u v σ H Q->u v σ H Q'):∀v σ H Q Q',(∀σ' H',Q σ' H'->Q' σ' H')->jr t u v σ H Q->jr t u v σ H Q':=
 λ_ _ _ _ _ mq ⟨v,r,e,q⟩=>⟨v,r,e,m _ _ _ _ _ (λ_ _ q'=>mu _ _ _ _ _ mq q') q⟩
theorem vD{K:PySem.W.Frag}{n k i j:Nat}(h1:i<n)(h2:j<n):GK n (Af K k (jr (bF i) (jr (bF j) qS))):=
 KZ (vC qW (AB qW tD) (bJ h1) (vC qW tD (bJ h2) IH))
def gJ(own:List Str)(fr:List Nat)(g:TG)(tt:TT)(te:TE)(σ:St)(Q:VK)(J:It)(H1:Hp):Prop:=
 ∃W:Nat->Nat->List V->Hp->Prop,(∃m,W 0 m [] H1)/\∀i m ys H2,W i m ys H2->ys.length<=sizeLine /\
  ((J.stop i H2/\∀D,H2 D=none->Q (.ref D) (upd H2 D (.lst ys))) \/
  (J.go i H2/\∀x H3,J.sN i H2 x H3->g x (dS own fr σ) H3 λσ4 H4=>tt σ4 H4 λb H5=>if b=true then te σ4 H5 λy H6=>∃m',m'<m/\W (i+1) m' (ys++[y]) H6 else ∃m',m'<m/\W (i+1) m' ys H5))
def QU(own:List Str)(fr:List Nat)(wi:TI)(g:TG)(tt:TT)(te:TE):TE:=λσ H Q=>wi σ H (gJ own fr g tt te σ Q)
section
variable {X:Cx}{own:List Str}{fr:List Nat}{sc:Scope}{tg iter elt:Expr}{ifs:List Expr}{pos:Pos}{wi:TI}{g:TG}{tt:TT}{te:TE}
theorem yU{pins:List (Addr×Obj)}{σ:St}{H2:Hp}{s2:Shared}{Q:VK}{it:Addr}{fp:List Addr}{tn:Nat->Heap->Prop}{J:It}{RR:Value->Addr->Result->Shared->Prop}{E:Value->Shared->Prop}(hc:X.calm=true)(S:gI X own fr sc)(gk:GK own.length g)
  (hg:∀s H fp,PG (du X own fr sc s H fp) tg g) (ht:∀s H fp,iE (du X own fr sc s H fp) ifs tt) (he:∀s H fp,PE (du X own fr sc s H fp) elt te)
  (I2:Inv X pins σ H2 s2) (T:Turn X.prog X.w X.K tg J fp it tn) (st2:tn 0 s2.heap) (f2:∀b∈fp,gF X pins H2 b) (L:gJ own fr g tt te σ Q J H2)
  (hRR:∀D C s',(∃m,s'.heap.Ns C m)->@LE.le Nat _ s2.heap.objs.size C->(∃H',H' C=none/\Q (.ref D) H'/\∀h' tk,Heap.SameBut C s'.heap h'->Inv X pins σ H' {s' with heap:=h',toks:=tk})->RR (.ref D) C (.ok .next) s') :
  wpAny (model X.prog X.w) X.A (newList []) (λacc s₃=>wpAny (model X.prog X.w) X.A (newFunctionEnv sc X.env.globals (cU X.env sc.names []) [] X.env.qual none .none (some X.env)) (λlQ s₄ =>codeAny (model X.prog X.w) X.A (.compStart (.ListComp elt [⟨tg,iter,ifs,0⟩] sc pos) 0 (.ref it) acc {lQ with scope:=relabel sc X.env}) (RR acc lQ.locals) s₄) E s₃) E s2:=by
 obtain⟨W,⟨m0,w0⟩,turn⟩:=L;refine wpAny_newObj_type (jG ?_);dsimp only;generalize cW:s2.heap.push {cls:=.type "list",dict:=none,data:=.seq ([]:List Value).toArray}=h1;have hz:h1.objs.size=s2.heap.objs.size+1:=by rw[<-cW,aa1]
 have hk1:∀b o,s2.heap.get? b=some o->h1.get? b=some o:=λb o e=>by rw[<-cW];exact aab _ e
 have B9:h1.get? s2.heap.objs.size=some {cls:=.type "list",data:=.seq ([]:List Value).toArray}:=by rw[<-cW];exact aaq _ rfl
 have hfl:∀b∈fp,@LT.lt Nat _ b s2.heap.objs.size:=λb hb=>by obtain⟨o,e,_⟩:=T.obj _ _ st2 b hb;exact aag e
 have I3:=oN I2 S f2 hz hk1 hfl;rw[hz];generalize hY:du X own fr sc s2 H2 fp=Y at I3;have k8:(hC s2 sc h1).get? s2.heap.objs.size=some {cls:=.type "list",data:=.seq ([]:List Value).toArray}:=pushCells_keeps _ _ _ _ (aab _ B9);have lH:tn 0 (hC s2 sc h1):=T.keep _ _ _ st2 λb _ o e=>pushCells_keeps _ _ _ _ (aab _ (hk1 b o e));have eP:Y.prog=X.prog:=by rw[<-hY];rfl
 have eW:Y.w=X.w:=by rw[<-hY];rfl
 have eK:Y.K=X.K:=by rw[<-hY];rfl
 have eA:Y.A=X.A:=by rw[<-hY];rfl
 have eX:Y.xe=nR:=by rw[<-hY];rfl
 have tE:Y.calm=true:=by rw[<-hY];exact hc
 have vE:({scope:=relabel sc X.env,locals:=s2.heap.objs.size+1,globals:=X.env.globals,cells:=cellsFrom (s2.heap.objs.size+1+1) sc.names (cU X.env sc.names []),qual:=X.env.qual,func:=none,code:=X.env.code,frame:=X.env.frame,builtins:=X.env.builtins}:Env)=Y.env:=by rw[<-hY];rfl
 have eL:Y.env.locals=s2.heap.objs.size+1:=by rw[<-hY];rfl
 rw[vE];have vF:PG Y tg g:=hY▸hg s2 H2 fp;have B':iE Y ifs tt:=hY▸ht s2 H2 fp;have jR:PE Y elt te:=hY▸he s2 H2 fp;have dfp:s2.heap.objs.size∉fp:=λz=>aaV _ (hfl _ z);have dC:s2.heap.objs.size≠s2.heap.objs.size+1:=aar (aba _);have pW:∀x c,Y.env.cells.lookup x=some c->c≠s2.heap.objs.size:=λx c e z=>by obtain⟨v,o,q,d⟩:=I3.cell x c e;rw[z] at q;have q':=k8.symm.trans q;cases q';cases d
 have vG:s2.heap.objs.size∉Y.fs:=by
  rw[<-hY];intro z;rcases aah.mp (I2.gE _ z) with e|e
  ·exact aaV _ (by have:=I2.lt;rw[<-e] at this;exact this)
  ·exact I2.Ad (aac _) e
 have vH:@LE.le Nat _ Y.s₀.heap.objs.size s2.heap.objs.size:=by rw[<-hY];exact aac _
 have fpY:∀{H':Hp} {pp:List (Addr×Obj)},(∀b∈fp,H' b=none)->(∀p∈pp,p.1∉fp)->∀b∈fp,gF Y pp H' b:=λ{H' pp} hn hp b hb=>by
  refine⟨hn b hb,?_,?_,?_,?_,λp hq z=>?_⟩
  ·have:=hfl b hb;rw[eL];intro z;have z':@Eq Nat b (s2.heap.objs.size+1):=z;omega
  ·rw[<-hY];intro z;rcases aah.mp (I2.gE _ z) with e|e
   ·exact(f2 b hb).2.1 e
   ·exact(f2 b hb).2.2.1 e
  ·exact .inl (by rw[<-hY];exact hb)
  ·exact(I3.ok.yF b (by rw[<-hY];exact hb)).2
  ·rcases aas.mp hq with q|q
   ·have:p∈([]:List (Addr×Obj)):=by rw[<-hY] at q;exact q
    exact nomatch this
   ·exact hp p q (z▸hb)
 have vI:∀{H':Hp} {s':Shared} {σ':St} {ob:Obj},Inv Y [] σ' H' s'->H' s2.heap.objs.size=none->s'.heap.get? s2.heap.objs.size=some ob->(∀v,ob.data≠.cell v)->Inv Y [(s2.heap.objs.size,ob)] σ' H' s':=λ{H' s' σ' ob} J0 hn e d=>
  J0.dI λp hp=>by
   have:p=(s2.heap.objs.size,ob):=by simpa using hp
   subst this;exact⟨e,hn,by rw[eL];exact dC,vG,d⟩
 have lR:∀{ob:Obj} (p:Addr×Obj),p∈[(s2.heap.objs.size,ob)]->p.1∉fp:=λ{ob} p hp=>by
  have:p=(s2.heap.objs.size,ob):=by simpa using hp
  subst this;exact dfp
 have loop:codeAny (model X.prog X.w) X.A (.compLoop (.ListComp elt [⟨tg,iter,ifs,0⟩] sc pos) 0 (.ref it) (.ref s2.heap.objs.size) Y.env) (RR (.ref s2.heap.objs.size) (s2.heap.objs.size+1)) {s2 with heap:=hC s2 sc h1}:=by
  refine gp.loops (B:=⟨elt,tg,iter,ifs,sc,pos⟩) (λn s'=>∃i ys us k H',W i n ys H'/\Inv Y [] (dS own fr σ) H' s'/\tn i s'.heap/\(∀b∈fp,H' b=none)/\H' s2.heap.objs.size=none/\s'.heap.get? s2.heap.objs.size=some {cls:=.type "list",data:=.seq (List.toArray us) k}/\Vals ys us) ?_ (k:=m0)
   ⟨0,[],[],_,H2,w0,I3,lH,λb hb=>(f2 b hb).1,I2.aG.fresh (aac _),k8,.nil⟩
  rintro n s' ⟨i,ys,us,k,H',w',J0,gG,tG,hDn,hDo,rv⟩;obtain⟨Ca,lS⟩:=turn i n ys H' w';have J1:=vI J0 hDn hDo (λv z=>nomatch z);rcases lS with⟨stop,fin⟩|⟨go,step⟩
  ·have d0:=T.done Y eP eW eK tE i _ s' _ H' nR J1 (fpY tG lR) gG stop;rw[eA] at d0;refine wpAny_mono d0 (λr s4 ⟨hr,J4⟩=>?_) λ_ _ z=>z;subst hr;have pD:=(J4.pin (s2.heap.objs.size,_) (aaj _ aal)).1;refine hRR _ _ s4 ?_ (aa7 _) ⟨upd H' s2.heap.objs.size (.lst ys),?_,fin _ hDn,λh' tk hs=>?_⟩
   ·obtain⟨m,hn,_⟩:=J4.loc;rw[eL] at hn;exact⟨m,hn⟩
   ·rw[aq (aaI dC),<-eL];exact J4.free
   ·subst hY;have hO:bc X.prog X.w (upd H' s2.heap.objs.size (.lst ys)) h' s2.heap.objs.size (.lst ys):=⟨Ca,us,k,rv,(hs.2 _ dC).trans pD⟩
    exact oO I2 f2 J4 (aac _) hDn dC hs hO tk
  ·have d0:=T.item Y eP eW eK tE i _ s' _ H' nR J1 (fpY tG lR) gG go;rw[eA] at d0;refine wpAny_mono d0 (λr s4 ⟨u,hr,h4⟩=>?_) λ_ _ z=>z;subst hr;refine wpAny_mono h4 (λ_ s5 ⟨x,H5,J5,r5,y5,iY,vh⟩=>?_) λ_ _ z=>z;have Cb:=J5.pinned (fpY vh lR) (T.obj _ _ iY);have s1:=vF _ s5 _ H5 x u _ Cb r5 (gk _ _ _ _ (step x H5 y5));rw[eP,eW,eA,eX] at s1;refine wpAny_mono s1 (λ_ s6 ⟨σ6,H6,J6,q6,tH⟩=>?_) λ_ _ z=>z;have tI:=B' _ s6 σ6 H6 _ J6 q6;rw[eP,eW,eA,eX] at tI;refine wpAny_mono tI (λok s7 ⟨H7,J7,q7⟩=>?_) λ_ _ z=>z;have low:∀{H8:Hp} {s8:Shared},Inv Y ([(s2.heap.objs.size,({cls:=.type "list",data:=.seq (List.toArray us) k}:Obj))]++fm fp s5.heap) σ6 H8 s8 ->
     Inv Y (fm fp s5.heap) σ6 H8 s8/\H8 s2.heap.objs.size=none/\s8.heap.get? s2.heap.objs.size=some {cls:=.type "list",data:=.seq (List.toArray us) k}/\(∀b∈fp,H8 b=none)/\tn (i+1) s8.heap:=λ{H8 s8} J8=>by
    have p8:=J8.pin (s2.heap.objs.size,_) (aaj _ (aax _ aal));refine⟨J8.dI λp hp=>J8.pin p (aaj _ (aaj _ hp)),p8.2.1,p8.1,λb hb=>?_,T.keep _ _ _ iY λb hb o e=>(J8.pin (b,o) (aaj _ (aaj _ (dD hb e)))).1⟩;obtain⟨o,e,d⟩:=T.obj _ _ iY b hb;exact(J8.pin (b,o) (aaj _ (aaj _ (dD hb e)))).2.1
   have weak:∀{H8:Hp} {s8:Shared} {pp:List (Addr×Obj)},Inv Y pp σ6 H8 s8->Inv Y [] (dS own fr σ) H8 s8:=λ{H8 s8 pp} J8=>(J8.weak tH.1.symm (λj v e=>by
    by_cases hj:j<own.length
    ·exfalso;unfold dS at e;rw[aa6 (by simpa using hj),abP] at e;split at e<;>cases e
    ·rw[tH.2 j (adB.mp hj)];exact e)).dI λp hp=>nomatch hp
   cases ok with
   |false=>
    obtain⟨m',hm,w7⟩:=(show ∃m',m'<n/\W (i+1) m' ys H7 by simpa using q7)
    obtain⟨_,l1,l2,l3,l4⟩:=low J7;exact⟨m',hm,i+1,ys,us,k,H7,w7,weak J7,l4,l3,l1,l2,rv⟩
   |true=>
    have Cc:te σ6 H7 λy H6=>∃m',m'<n/\W (i+1) m' (ys++[y]) H6:=by simpa using q7
    have s3:=jR _ s7 σ6 H7 _ J7 Cc;rw[eP,eW,eA,eX] at s3;show wpAny _ _ _ _ _ _
    refine wpAny_mono s3 (λxv s8 ⟨y,H8,J8,r8,m',hm,w8⟩=>?_) λ_ _ z=>z;obtain⟨K0,l1,l2,l3,l4⟩:=low J8;refine append_at (hsz:=by rw[aai,<-rv.length];exact Ca) l2 λh' hs' K1=>?_;have J9:Inv Y [] (dS own fr σ) H8 {s8 with heap:=h' }:=by
     refine(weak K0).turned (t':=s8.toks) (it:=s2.heap.objs.size) (λb o hb e=>(hs'.2 b hb).trans e) l1 (by rw[eL];exact dC) (.inr vH) pW λp hp=>?_
     have:p∈([]:List (Addr×Obj)):=by rw[<-hY] at hp;exact hp
     exact nomatch this
    refine⟨m',hm,i+1,ys++[y],us++[xv],k+1,H8,w8,J9,?_,l3,l1,?_,rv.append (.cons r8 .nil)⟩
    ·exact T.keep _ _ _ l4 λb hb o e=>(hs'.2 b (λz=>dfp (z▸hb))).trans e
    ·rw[K1];simp
 exact codeAny_compStart_list loop (T.self X.A 0 _ _ _ lH loop)
theorem cV(own:List Str)(fr:List Nat)(hc:X.calm=true)(S:gI X own fr sc)(gk:GK own.length g)(hi:PI X tg iter wi)
  (hg:∀s H fp,PG (du X own fr sc s H fp) tg g) (ht:∀s H fp,iE (du X own fr sc s H fp) ifs tt) (he:∀s H fp,PE (du X own fr sc s H fp) elt te)
  (hs:∀x,foldedSetIterable iter X.env x=pure x:=by intro _;rfl):PE X (.ListComp elt [⟨tg,iter,ifs,0⟩] sc pos) (QU own fr wi g tt te):=by
 intro pins s σ H Q I h;rw[eval_ListComp];have ko:closureFor sc X.env=pure (cU X.env sc.names []):=fG λy hy hf=>I.ok.has y.1 (by
  rcases S.yT y hy hf with q|q
  ·exact .inl q
  ·exact .inr q)
 refine wpAny_comprehension_free (use:=none) rfl hs ko S.kind (λy hy hl=>bX S.nd (by rw[<-hl];exact hy)) ?_;refine aH (hi pins s σ H _ I h) λv s1 h1=>aH h1 λitv s2 h2=>?_;obtain⟨it,fp,tn,J,H2,e,I2,T,st2,f2,L⟩:=h2;subst e;exact yU hc S gk hg ht he I2 T st2 f2 L λD C s' ⟨m,hn⟩ _ ⟨H',_,q,hi⟩=>⟨m,hn,λh' hs'=>⟨.ref D,H',hi h' s'.toks hs',rfl,q⟩⟩
end
theorem pX{X:Cx}{pins:List (Addr×Obj)}{σ:St}{H2:Hp}{s2 s':Shared}{i:Nat}{x:Str}{pos':Pos}{D:Addr}{C:Addr}{R:St->Hp->Prop}{E:Value->Shared->Prop}(I2:Inv X pins σ H2 s2)(hN:X.N.Nodup)(hi:X.N[i]?=some x)(hx:X.env.scope.names.lookup x=some .local)
  (ns:∃m,s'.heap.Ns C m) (le:@LE.le Nat _ s2.heap.objs.size C) (h:∃H',H' C=none/\R (σ.set i (some (.ref D))) H'/\∀h' tk,Heap.SameBut C s'.heap h'->Inv X pins σ H' {s' with heap:=h',toks:=tk}) :
  wpAny (model X.prog X.w) X.A (assign (.Name x pos') X.env (.ref D)) (λ_ pQ=>∃m,pQ.heap.Ns C m/\∀h',Heap.SameBut C pQ.heap h'->∃σ1 H1,Inv X pins σ1 H1 {pQ with heap:=h' }/\R σ1 H1) E s':=by
 obtain⟨H',hC,q,hv⟩:=h;have I':Inv X pins σ H' s':=hv s'.heap s'.toks (acF _ _);have lt:∀{b:Addr} {o:Obj},s2.heap.get? b=some o->b≠C:=λ{b o} e z=>by have l1:@LT.lt Nat _ b s2.heap.objs.size:=aag e;have z':@Eq Nat b C:=z;omega
 have QV:X.env.locals≠C:=by obtain⟨m,⟨o,_,_,e,_⟩,_⟩:=I2.loc;exact lt e
 have iQ:∀y c,X.env.cells.lookup y=some c->c≠C:=λy c e=>by obtain⟨v,o,e1,_⟩:=I2.cell y c e;exact lt e1
 refine aeO (sL I' hN hi (.inl hx) (show RelV (.ref D) (.ref D) from rfl) (λs3 I3 ⟨a,hs,ha⟩=>?_) (.inr hx));have aC:a≠C:=by
  rcases ha with e|e
  ·rw[e];exact QV
  ·exact iQ _ _ e
 obtain⟨m,hn⟩:=ns;refine⟨m,hn.sameBut hs (aaI aC),λh' hs'=>⟨_,H',?_,q⟩⟩;refine I3.turned (t':=s3.toks) (it:=C) (λb o hb e=>(hs'.2 b hb).trans e) hC (aaI QV) (.inr ?_) iQ λp hp=>?_
 ·have:=I2.sz
  exact aam this le
 ·exact lt (I2.pin p hp).1
theorem qX{X:Cx}{sc:Scope}{tg iter elt:Expr}{ifs:List Expr}{pos vJ pos':Pos}{wi:TI}{g:TG}{tt:TT}{te:TE}{i:Nat}{x:Str}(own:List Str)(fr:List Nat)(hN:X.N.Nodup)(hix:X.N[i]?=some x)(hx:X.env.scope.names.lookup x=some .local)(hc:X.calm=true)(S:gI X own fr sc)(gk:GK own.length g)(hi:PI X tg iter wi)
  (hg:∀s H fp,PG (du X own fr sc s H fp) tg g) (ht:∀s H fp,iE (du X own fr sc s H fp) ifs tt) (he:∀s H fp,PE (du X own fr sc s H fp) elt te)
  (hsw:swapsWith (.ListComp elt [⟨tg,iter,ifs,0⟩] sc pos) (some (.Name x pos')) vJ.line X.env=pure true:=by rfl)
  (hs:∀x,foldedSetIterable iter X.env x=pure x:=by intro _;rfl):PS X (.Assign [.Name x pos'] (.ListComp elt [⟨tg,iter,ifs,0⟩] sc pos) vJ) (Ag (QU own fr wi g tt te) (bF i)):=by
 intro pins s σ H D I h;rw[ad7 _ _ _ _ hsw];apply wpAny_bind;apply wpAny_standAt;apply wpAny_bind;show wpAny _ _ (comprehension (.ListComp elt [⟨tg,iter,ifs,0⟩] sc pos) sc X.env _ (newList []) false (eval iter X.env) (some (assign (.Name x pos') X.env))>>=_) _ _ s
 apply wpAny_bind;have ko:closureFor sc X.env=pure (cU X.env sc.names []):=fG λy hy hf=>I.ok.has y.1 (by
  rcases S.yT y hy hf with q|q
  ·exact .inl q
  ·exact .inr q)
 refine wpAny_mono (wpAny_comprehension_free (use:=some (assign (.Name x pos') X.env)) (Q:=λ_ s'=>SP X pins D .next s') rfl hs ko S.kind (λy hy hl=>bX S.nd (by rw[<-hl];exact hy)) ?_) (λ_ s' q=>wpAny_pure (wpAny_pure q)) λ_ _ z=>z;refine aH (hi pins s σ H _ I h) λv s1 h1=>aH h1 λitv s2 h2=>?_;obtain⟨it,fp,tn,J,H2,e,I2,T,st2,f2,L⟩:=h2;subst e;exact yU hc S gk hg ht he I2 T st2 f2 L λD0 C s' ns le h=>pX (R:=D.nx) I2 hN hix hx ns le h
def Cd(x:Str):It:=⟨λi _=>i<x.cps.size,λi H v H'=>H'=H/\∃c,x.cps[i]?=some c/\v=.str ⟨#[c]⟩,λi _=>i=x.cps.size⟩
theorem K2{M:Model}{A:Around}{E:Value->Shared->Prop}{s:Shared}{tg:Expr}{it:Addr}{x:Str}{t:Tok}{Q:Unit->Shared->Prop}(hQ:Q () s):wpAny M A (letOwnedTupleGo tg (.ref it) (.str x t)) Q E s:=by unfold letOwnedTupleGo;cases tg<;>exact wpAny_pure hQ
theorem ER{P:Program}{w:World}{K:PySem.W.Frag}{tg:Expr}{it:Addr}{x:Str}{t:Tok}{ty:String}(W:∀A:Around,A.handled=none->Walks P w A it [it] [it] x.cps.size (SignAt x) (λi h=>h.IsStrIter it ty x t i))
  (hself:∀(A:Around) (i:Nat) (s:Shared) (Q:Value->Shared->Prop) (E:Value->Shared->Prop),s.heap.IsStrIter it ty x t i->Q (.ref it) s->wpAny (model P w) A (pyIter (.ref it)) Q E s) :
  Turn P w K tg (Cd x) [it] it (λi h=>h.IsStrIter it ty x t i) where
 mem:=by simp
 obj:=λi h st b hb=>by
  have e:b=it:=by simpa using hb
  subst e;obtain⟨o,e,c,d⟩:=st;exact⟨o,e,λv z=>by rw[d] at z;cases z⟩
 keep:=λi h h' st k=>by obtain⟨o,e,r⟩:=st;exact⟨o,k it (by simp) o e,r⟩
 item:=by intro X hP hw hK hc i pins s σ H E I hf st hg;subst hP hw hK;obtain⟨f0,f1,f2,f3,f4,f5⟩:=hf it (by simp);refine(W X.A (I.ok.hd hc)).item i s _ _ hg st λv h' tk hv gG kk=>?_;obtain⟨c,u,hx,rfl⟩:=hv;have I1:Inv X pins σ H {s with heap:=h',toks:=tk}:=I.turned (λb o hb e=>kk b o (by simpa using hb) e) f0 f1 f3 f4 f5;exact⟨_,rfl,K2 ⟨.str ⟨#[c]⟩,H,I1,⟨u,rfl⟩,⟨rfl,c,hx,rfl⟩,gG,λb hb=>(hf b hb).1⟩⟩
 done:=by intro X hP hw hK hc i pins s σ H E I hf st hg;subst hP hw hK;obtain⟨f0,f1,f2,f3,f4,f5⟩:=hf it (by simp);have vF:i=x.cps.size:=hg;subst vF;exact(W X.A (I.ok.hd hc)).done s _ _ st λh' tk kk=>⟨rfl,I.turned (λb o hb e=>kk b o (by simpa using hb) e) f0 f1 f3 f4 f5⟩
 self:=hself
section
variable {X:Cx}{tg:Expr}
def Um(tl:TE):TI:=λσ H R=>tl σ H λx H1=>∃z,x=.str z/\R (Cd z) H1
theorem Ce{l:Expr}{tl:TE}(hl:PE X l tl):PI X tg l (Um tl):=by
 intro pins s σ H R I h;refine aH (hl pins s σ H _ I h) λv s1 ⟨x,H1,I1,r1,q1⟩=>?_;obtain⟨z,rfl,q⟩:=q1;obtain⟨t,rfl⟩:=r1;have fin:∀ty:String,(∀A:Around,A.handled=none->Walks X.prog X.w A s1.heap.objs.size [s1.heap.objs.size] [s1.heap.objs.size] z.cps.size (SignAt z) (λi h=>h.IsStrIter s1.heap.objs.size ty z t i)) ->
   (∀(A:Around) (i:Nat) (s:Shared) (Q:Value->Shared->Prop) (E:Value->Shared->Prop),s.heap.IsStrIter s1.heap.objs.size ty z t i->Q (.ref s1.heap.objs.size) s->wpAny (model X.prog X.w) A (pyIter (.ref s1.heap.objs.size)) Q E s) ->
   Kq X pins σ tg R (.ref s1.heap.objs.size) {s1 with heap:=s1.heap.push {cls:=.type ty,data:=.fields #[.str z t,.int 0 0]} }:=λty W hself=>by
  refine⟨s1.heap.objs.size,[s1.heap.objs.size],_,_,H1,rfl,I1.kept (t':=s1.toks) λb o e=>aab _ e,ER W hself,⟨_,aaq _ rfl,rfl,rfl⟩,λb hb=>?_,q⟩;have e:b=s1.heap.objs.size:=by simpa using hb
  subst e;exact I1.vf (aac _) (I1.aG.fresh (aac _))
 cases ha:z.cps.all (· < 128)
 ·exact wpAny_pyIter_wide ha (fin _ (λA hA=>Walks.strWide hA _ z t) λA i s Q E st q=>wpAny_pyIter_striter_wide st q)
 ·exact wpAny_pyIter_ascii ha (fin _ (λA hA=>Walks.strAscii hA _ z t) λA i s Q E st q=>wpAny_pyIter_striter_ascii st q)
theorem nU:∀{bs:List Bool} {us:List Value} {i:Nat} {u:Value},Vals (bs.map V.bl) us->us[i]?=some u->∃b,bs[i]?=some b/\u=.bool b
 |[],_,i,u,.nil,e=>by simp at e
 |b::bs,_,0,u,.cons r _,e=>by simp at e;subst e;exact⟨b,rfl,r⟩
 |b::bs,_,i+1,u,.cons _ t,e=>by obtain⟨b',h1,h2⟩:=nU (i:=i) (u:=u) t (by simpa using e);exact⟨b',by simpa using h1,h2⟩
theorem range_all(bs:List Bool):((List.range bs.length).all λi=>bs.getD i false)=bs.all id:=by
 induction bs with
 |nil=>rfl
 |cons b bs ih=>
  rw[aaH,adX,acP,acu,acP];have e:((λi=>(b::bs).getD i false)∘Nat.succ)=λi=>bs.getD i false:=by funext i;simp
  rw[e,ih];simp
theorem fU(hc:X.calm=true):bV X (.builtin "all") (λxs H Q=>∃(p:Addr) (bs:List Bool),xs=[.ref p]/\ar X.K H p (bs.map V.bl)/\Q (.bl (bs.all id)) H):=by
 rintro pins s σ H xs us Q I r ⟨p,bs,rfl,hq,q⟩;obtain⟨u,rfl,rx⟩:=vals1 r;cases rx;obtain⟨its,rv,pl,hz⟩:=I.list hq;have hlt:p<s.heap.objs.size:=by obtain⟨o,n,e,_⟩:=pl;exact aag e
 have hlen:its.length=bs.length:=by rw[<-rv.length,aaa]
 refine call_all_walk (wpAny_pyIter_list pl.isList ?_);refine⟨s.heap.objs.size,_,_,its.toArray.size,_,_,λi=>bs.getD i false,rfl,aei (A:=X.A.in1) (I.ok.hd hc) s.heap.objs.size p (aar hlt) its.toArray,⟨⟨_,aaq _ rfl,rfl,rfl⟩,pl.isList.push _⟩,λi v s' Q' E' hP hQ=>?_,λh' tk hk=>?_⟩
 ·obtain⟨b,h1,rfl⟩:=nU rv (by simpa using hP);refine wpAny_truthy_bool ?_;have e:bs.getD i false=b:=by rw[List.getD,h1];rfl
  rw[<-e];exact hQ
 ·rw[aai,hlen,range_all];refine⟨.bl _,H,?_,rfl,q⟩;have J:Inv X pins σ H {s with heap:=h',toks:=tk}:=I.kept λb o e=>hk b o (λz=>absurd (aag e) (by rw[aaf.mp z];exact aaV _)) (aab _ e);exact J
theorem bO{T:String}:bV X (.builtin "isinstance") (λxs H Q=>∃x t b,xs=[x,.ty T]/\cn X.K H x t/\PySem.W.kitOne X.K t (.type T)=some b/\Q (.bl b) H):=by rintro pins s σ H xs us Q I r ⟨x,t,b,rfl,ty,e,q⟩;obtain⟨u,v,rfl,ru,rv⟩:=vals2 r;cases rv;exact BR I ru ty e λtk=>⟨.bl b,H,I.tok _,rfl,q⟩
theorem gq:∀{ys:List Str} {us:List Value},Vals (ys.map V.str) us->StrsAre us ys
 |[],_,.nil=>.nil
 |y::ys,_,.cons r t=>by obtain⟨k,rfl⟩:=(show ∃k,_=Value.str y k from r);exact .cons y k (gq t)
theorem II:KI X "str.join" (λx vs H Q=>∃(sep:Str) (p:Addr) (ys:List Str),x=.str sep/\vs=[.ref p]/\ar X.K H p (ys.map V.str)/\(ys.map (·.length)).sum+ys.length*sep.length<=16777216/\Q (.str (Txt.join sep ys)) H):=by rintro pins s σ H x xs v us Q I rx r ⟨sep,p,ys,rfl,rfl,hq,hl,q⟩;obtain⟨u,rfl,ru⟩:=vals1 r;cases ru;obtain⟨t,rfl⟩:=rx;obtain⟨its,rv,pl,hz⟩:=I.list hq;exact join_list pl.isList (by simpa using gq rv) hl λt' k=>⟨.str _,H,I.tok _,⟨t',rfl⟩,q⟩
def Uo:V->Option Int->Option Int->Hp->VK->Prop:=λx lo hi H Q=>∃z,x=.str z/\z.length<=sizeLine/\Q (.str (Txt.slice z lo hi)) H
theorem Cf:KH X Uo:=by
 rintro pins s σ H x v vl vu lo hi sl Q I rx hs pl pu ⟨z,rfl,hz,q⟩;obtain⟨t,rfl⟩:=rx;refine⟨"str",_,F.slot_str_getitem.lookup,typeIs_str _ _ _,?_⟩;have fin:∀t' k,EP X pins σ Q (.str (Txt.slice z lo hi) t') {s with toks:=k}:=λt' k=>⟨.str _,H,I.tok _,⟨t',rfl⟩,q⟩
 cases pl with
 |none=>
  cases pu with
  |none=>exact ab5 (l:=none) (u:=none) (st:=none) hs rfl (post_val_or_str ⟨aam (ac2 z _ _) hz,λt' k=>fin t' k⟩)
  |int j uj=>exact ab5 (l:=none) (u:=some (j,uj)) (st:=none) hs rfl (post_val_or_str ⟨aam (ac2 z _ _) hz,λt' k=>fin t' k⟩)
 |int i ui=>
  cases pu with
  |none=>exact ab5 (l:=some (i,ui)) (u:=none) (st:=none) hs rfl (post_val_or_str ⟨aam (ac2 z _ _) hz,λt' k=>fin t' k⟩)
  |int j uj=>exact ab5 (l:=some (i,ui)) (u:=some (j,uj)) (st:=none) hs rfl (post_val_or_str ⟨aam (ac2 z _ _) hz,λt' k=>fin t' k⟩)
theorem tJ:cJ X (compareOp .LtE) (λx y H Q=>∃i j,x=.str i/\y=.str j/\Q (.bl (!decide (j.cps.toList<i.cps.toList))) H):=by rintro pins s σ H x y v u Q I rx ry ⟨i,j,rfl,rfl,q⟩;obtain⟨t,rfl⟩:=rx;obtain⟨t',rfl⟩:=ry;exact PySem.P.le_str ⟨.bl _,H,I,rfl,by simpa using q⟩
theorem nW:∀{xs:List V} {us:List Value},xs.length=us.length->(∀(j:Nat) (u:Value),us[j]?=some u->∃x,xs[j]?=some x/\RelV x u)->Vals xs us
 |[],[],_,_=>.nil
 |[],_::_,h,_=>by simp at h
 |_::_,[],h,_=>by simp at h
 |x::xs,u::us,h,g=>by
  obtain⟨x',e,r⟩:=g 0 u rfl
  have:x=x':=by simpa using e
  subst this;exact .cons r (nW (by simpa using h) λj w e=>by simpa using g (j+1) w (by simpa using e))
end
theorem oP{own:List Str}{fr:List Nat}{g:TG}{tt:TT}{te:TE}{σ:St}{Q:VK}{lo:Int}{n:Nat}{H:Hp}(Pv:Nat->List V->Hp->Prop)(h0:Pv 0 [] H)(hlen:∀i ys H,i<=n->Pv i ys H->ys.length<=sizeLine)
  (hs:∀i ys H (R:List V->Hp->Prop),i<n->Pv i ys H->(∀dF H',Pv (i+1) dF H'->R dF H')->g (.int (lo+i)) (dS own fr σ) H λσ4 H4=>tt σ4 H4 λb H5=>if b=true then te σ4 H5 λy H6=>R (ys++[y]) H6 else R ys H5)
  (hd:∀ys H,Pv n ys H->∀D,H D=none->Q (.ref D) (upd H D (.lst ys))):gJ own fr g tt te σ Q (sO lo n) H:=by
 refine⟨λi m ys H=>m=n-i/\i<=n/\Pv i ys H,⟨n,rfl,aaG _,h0⟩,?_⟩;rintro i m ys H2 ⟨rfl,hi,p⟩;refine⟨hlen i ys H2 hi p,?_⟩;by_cases h:i<n
 ·refine .inr ⟨h,λx H3 hy=>?_⟩;obtain⟨rfl,rfl⟩:=hy;exact hs i ys _ (λdF H'=>∃m',m'<n-i/\(m'=n-(i+1)/\i+1<=n/\Pv (i+1) dF H')) h p λdF H' q=>⟨n-(i+1),by omega,rfl,h,q⟩
 ·have e:i=n:=by omega
  subst e;exact .inl ⟨aac _,hd ys H2 p⟩
theorem cu{K:PySem.W.Frag}{a:Addr}{xs:List V}{own:List Str}{fr:List Nat}{g:TG}{tt:TT}{te:TE}{σ:St}{Q:VK}{H:Hp}(Pv:Nat->List V->Hp->Prop)(h0:Pv 0 [] H)(hlen:∀i ys H,i<=xs.length->Pv i ys H->ys.length<=sizeLine)
  (hl:∀i ys H,i<=xs.length->Pv i ys H->ar K H a xs)
  (hs:∀i x ys H (R:List V->Hp->Prop),xs[i]?=some x->Pv i ys H->(∀dF H',Pv (i+1) dF H'->R dF H')->g x (dS own fr σ) H λσ4 H4=>tt σ4 H4 λb H5=>if b=true then te σ4 H5 λy H6=>R (ys++[y]) H6 else R ys H5)
  (hd:∀ys H,Pv xs.length ys H->∀D,H D=none->Q (.ref D) (upd H D (.lst ys))):gJ own fr g tt te σ Q (pK K a) H:=by
 refine⟨λi m ys H=>m=xs.length-i/\i<=xs.length/\Pv i ys H,⟨xs.length,rfl,aaG _,h0⟩,?_⟩;rintro i m ys H2 ⟨rfl,hi,p⟩;refine⟨hlen i ys H2 hi p,?_⟩;have q:=hl i ys H2 hi p;by_cases h:i<xs.length
 ·refine .inr ⟨⟨xs,xs[i],q,by simp[h]⟩,λx H3 hy=>?_⟩;obtain⟨rfl,hy⟩:=hy;exact hs i x ys _ (λdF H'=>∃m',m'<xs.length-i/\(m'=xs.length-(i+1)/\i+1<=xs.length/\Pv (i+1) dF H')) (hy xs q) p λdF H' q=>⟨xs.length-(i+1),by omega,rfl,h,q⟩
 ·have e:i=xs.length:=by omega
  subst e;exact .inl ⟨⟨xs,q,aac _⟩,hd ys H2 p⟩
theorem K3{K:PySem.W.Frag}{a:Addr}{xs:List V}{own:List Str}{fr:List Nat}{g:TG}{tt:TT}{te:TE}{σ:St}{Q:VK}{H:Hp}(Pv:Nat->List V->Hp->Prop)(h0:Pv 0 [] H)(hlen:∀i ys H,i<=xs.length->Pv i ys H->ys.length<=sizeLine)
  (hl:∀i ys H,i<=xs.length->Pv i ys H->aZ K H a xs)
  (hs:∀i x ys H (R:List V->Hp->Prop),xs[i]?=some x->Pv i ys H->(∀dF H',Pv (i+1) dF H'->R dF H')->g x (dS own fr σ) H λσ4 H4=>tt σ4 H4 λb H5=>if b=true then te σ4 H5 λy H6=>R (ys++[y]) H6 else R ys H5)
  (hd:∀ys H,Pv xs.length ys H->∀D,H D=none->Q (.ref D) (upd H D (.lst ys))):gJ own fr g tt te σ Q (Kr K a) H:=by
 refine⟨λi m ys H=>m=xs.length-i/\i<=xs.length/\Pv i ys H,⟨xs.length,rfl,aaG _,h0⟩,?_⟩;rintro i m ys H2 ⟨rfl,hi,p⟩;refine⟨hlen i ys H2 hi p,?_⟩;have q:=hl i ys H2 hi p;by_cases h:i<xs.length
 ·refine .inr ⟨⟨xs,xs[i],q,by simp[h]⟩,λx H3 hy=>?_⟩;obtain⟨rfl,hy⟩:=hy;exact hs i x ys _ (λdF H'=>∃m',m'<xs.length-i/\(m'=xs.length-(i+1)/\i+1<=xs.length/\Pv (i+1) dF H')) (hy xs q) p λdF H' q=>⟨xs.length-(i+1),by omega,rfl,h,q⟩
 ·have e:i=xs.length:=by omega
  subst e;exact .inl ⟨⟨xs,q,aac _⟩,hd ys H2 p⟩
theorem bc.there{P:Program}{w:World}{H:Hp}{h:Heap}{a:Addr}{o:HO}(x:bc P w H h a o):∃u,h.get? a=some u:=by
 cases o with
 |lst xs=>obtain⟨_,_,_,_,e⟩:=x;exact⟨_,e⟩
 |tup xs=>obtain⟨_,_,_,o,e,_⟩:=x;exact⟨_,e⟩
 |dK kvs=>obtain⟨_,_,_,_,o,_,_,e,_⟩:=x;exact⟨_,e⟩
 |dT kvs=>obtain⟨_,_,_,_,o,_,_,e,_⟩:=x;exact⟨_,e⟩
 |set S n=>obtain⟨o,_,_,_,e,_⟩:=x;exact⟨_,e⟩
 |ins C dx fs=>obtain⟨_,_,_,e,_⟩:=x;exact⟨_,e⟩
 |own y=>exact x
 |xd fs=>obtain⟨_,⟨_,_,_,e,_⟩,_⟩:=x;exact⟨_,e⟩
 |Gs lo hi=>obtain⟨_,_,_,e⟩:=x;exact⟨_,e⟩
 |gD ob u=>obtain⟨e,_⟩:=x;exact⟨_,e⟩
 |sG ps=>exact⟨_,(show h.get? a=some _ from x)⟩
 |met f y=>exact⟨_,(show h.get? a=some _ from x)⟩
 |ext φ=>obtain⟨_,e,_⟩:=x;exact e
structure Cg(P:Program)(w:World)(outer:List Env)(H:Hp)(s:Shared)(H':Hp)(a:Addr)(cls:Value)(s':Shared):Prop where
 os:s'.os=s.os
 bare:AllBare s'.gens
 un:Un (cj outer) [] H H' s.heap s'.heap
 aG:cG P w H' s'.heap
 an:H' a=none
 K4:∃(B:Heap) (a0:Value),Heap.FlyingW B outer a cls a0 s'.heap/\∀b o,s'.heap.get? b=some o->((∃q,s.heap.get? b=some q)\/∃u,H' b=some u)->b∉cj outer->B.get? b=some o
def jS(P:Program)(w:World):gj:=λouter H s E e s'=>∃a cls H',e=.ref a/\Cg P w outer H s H' a cls s'/\E cls none H'
theorem G0{P:Program}{w:World}{X:Cx}:Passes (jS P w) X E0:=λ_ _ _ _ _ _ _ ⟨_,_,_,_,_,h⟩=>h.elim
section
variable {CX:gj}{P:Program}{w:World}{K:PySem.W.Frag}{mg:Str->Option Value}{base:Heap}{N:List Str}{qual:Str}{scope:Scope}{f:Addr}{cdv:Value}{A:Around}{outer:List Env}{s s1 s2:Shared}{H H1 H2:Hp}{E:XK}
 {pins:List (Addr×Obj)} {σ:St} {a:Addr} {cls a0:Value} {B h':Heap}
theorem qY(I:Inv (cT CX P w K mg base N qual scope f cdv A outer s H E) pins σ H1 s1)(os:s2.os=s1.os)(bare:AllBare s2.gens)
  (un:Un (cj (envOfC qual scope s.heap.objs.size f cdv::outer)) [] H1 H2 s1.heap s2.heap) (aG:cG P w H2 s2.heap) (an:H2 a=none)
  (hB:∀b o,s2.heap.get? b=some o->((∃q,s1.heap.get? b=some q)\/∃u,H2 b=some u)->b∉cj (envOfC qual scope s.heap.objs.size f cdv::outer)->B.get? b=some o)
  (hfl:Heap.FlyingW B outer a cls a0 h') (hsl:∀b∈cj outer,∀o,s2.heap.get? b=some o->∃sl,h'.get? b=some {o with slots:=sl}):Cg P w outer H s H2 a cls {s2 with heap:=h' }:=by
 have fr:cj (envOfC qual scope s.heap.objs.size f cdv::outer)=s.heap.objs.size::cj outer:=rfl;have old:∀b o,s.heap.get? b=some o->b≠s.heap.objs.size:=λb o e=>aar (aag e);have nin:∀b,b≠s.heap.objs.size->b∉cj outer->b∉cj (envOfC qual scope s.heap.objs.size f cdv::outer):=λb h1 h2 z=>by
  rw[fr] at z;rcases aah.mp z with z|z
  ·exact h1 z
  ·exact h2 z
 have u1:Un (cj outer) [] H H1 s.heap s1.heap:=I.base;have hst:∀b∈cj (envOfC qual scope s.heap.objs.size f cdv::outer),H2 b=none:=λb hb=>by obtain⟨_,o,e,_⟩:=I.stack.mem (show b∈(envOfC qual scope s.heap.objs.size f cdv::outer).filterMap (·.frame) from hb);exact un.free b o e (I.mU b hb) (by simp)
 have Ci:∀b o,s.heap.get? b=some o->∃o',s2.heap.get? b=some o':=λb o e=>by obtain⟨o1,e1⟩:=u1.there b o e (by simp);exact un.there b o1 e1 (by simp)
 have inB:∀b o,s.heap.get? b=some o->b∉cj outer->∀o2,s2.heap.get? b=some o2->h'.get? b=some o2:=λb o e hb o2 e2=>by obtain⟨o1,e1⟩:=u1.there b o e (by simp);exact hfl.1 b o2 (hB b o2 e2 (.inl ⟨o1,e1⟩) (nin b (old b o e) hb))
 have yV:∀b u,H2 b=some u->∀o2,s2.heap.get? b=some o2->h'.get? b=some o2:=λb u e o2 e2 =>hfl.1 b o2 (hB b o2 e2 (.inr ⟨u,e⟩) λz=>by rw[hst b z] at e;cases e)
 refine⟨os.trans I.os,bare,⟨λb o e n hb hx=>?_,λb o e n hb hx=>?_,λb o e n hx=>?_,λb o e hx=>?_,λb xs e=>un.eg b xs (u1.eg b xs e),λb o u e=>un.dW b o u (u1.dW b o u e),λb ps e=>?_⟩,λb u e=>?_,an,⟨B,a0,hfl,λb o e hh hb=>?_⟩⟩
 ·exact inB b o e hb o (un.keep b o (u1.keep b o e n hb hx) (u1.free b o e n hx) (nin b (old b o e) hb) hx)
 ·obtain⟨sl,e1⟩:=u1.slot b o e n hb hx;obtain⟨Wk,e2⟩:=un.any e1 (u1.free b o e n hx) hx;obtain⟨K5,e3⟩:=hsl b hb _ e2;exact⟨K5,e3⟩
 ·obtain⟨o1,e1⟩:=u1.there b o e hx;exact un.free b o1 e1 (u1.free b o e n hx) hx
 ·obtain⟨o2,e2⟩:=Ci b o e;by_cases hb:b∈cj outer
  ·obtain⟨sl,e3⟩:=hsl b hb _ e2;exact⟨_,e3⟩
  ·exact⟨o2,inB b o e hb o2 e2⟩
 ·obtain⟨m1,e1⟩:=u1.eB b ps e;obtain⟨m2,e2⟩:=un.eB b _ e1;exact⟨m1++m2,by rw[e2,adi]⟩
 ·refine(aG b u e).fO (λc v hc q=>?_) (λ_ q=>q) λ_ _ q=>q;rcases hc with z|z
  ·subst z;exact yV c u e v q
  ·exact yV c _ z v q
 ·rcases hh with⟨q,hq⟩|⟨u,hu⟩
  ·obtain⟨o2,e2⟩:=Ci b q hq;have e3:=inB b q hq hb o2 e2;have e':h'.get? b=some o:=e;rw[e3] at e';cases e';obtain⟨o1,e1⟩:=u1.there b q hq (by simp);exact hB b _ e2 (.inl ⟨o1,e1⟩) (nin b (old b q hq) hb)
  ·obtain⟨o2,e2⟩:=(aG b u hu).there;have e3:=yV b u hu o2 e2;have e':h'.get? b=some o:=e;rw[e3] at e';cases e';exact hB b _ e2 (.inr ⟨u,hu⟩) λz=>by rw[hst b z] at hu;cases hu
theorem IJ{K:PySem.W.Frag}{h:Heap}{mg:Str->Option Value}{x:Str}{C:Addr}{bmB:List Value}{newId:String}(X:K.In h)(b:mg x=some (.ref C))(q:PySem.W.excIn K C bmB newId=true):OwnCls x C bmB newId mg h:=by
 have no:∀{P:Prop},false=true->P:=λz=>absurd z aaw;unfold PySem.W.excIn at q;split at q<;>first|exact no q|skip
 next dict data slots found=>
 split at q<;>first|exact no q|skip
 next first above w0 w1 w2 w3 made w5 order listed=>
 simp only[abk] at q;obtain⟨⟨⟨⟨⟨Cj,isNew⟩,noDel⟩,tail⟩,ok⟩,noInit⟩:=q;have eC:first=C:=beq_iff_eq.mp Cj
 have eN:made=newId:=beq_iff_eq.mp isNew;have eD:data.hasDel=false:=by simpa using noDel
 have eS:slots=#[w0,w1,w2,w3,some (.builtin made),w5]:=abR.mp (by rw[listed]);cases data;simp only at order eD;subst eC eN order eD eS;exact {bound:=b,obj:=⟨above,_,_,_,_,_,_,_,_,_,dict,w0,w1,w2,w3,w5,_,X _ _ found,.of_isNs (adk X ok),PySem.W.nsMap_none_of_in X ok (by simpa using noInit),aeF X tail⟩}
def Ck(C:Addr)(t:TA)(E:XK):TS:=λD σ H=>t σ H λvs H1=>vs.length<=sizeLine/\E (.ref C) none H1
theorem vK{x:Str}{C:Addr}{bm:List Value}{Bn newId d8:String}{np cM pos:Pos}{e₀:Expr}{rest:List Expr}{t:TA}(hx:Gl (cT (jS P w) P w K mg base N qual scope f cdv A outer s H E) x)(b:mg x=some (.ref C))(q:PySem.W.excIn K C bm newId=true)(FB:ExcBaseFacts Bn newId d8 bm)
  (ha:PA (cT (jS P w) P w K mg base N qual scope f cdv A outer s H E) (e₀::rest) t) (hd:(x==("__debug__" : Str))=false:=by decide)
  (he:starEach (e₀::rest) (envOfC qual scope s.heap.objs.size f cdv)=(false,eval e₀ (envOfC qual scope s.heap.objs.size f cdv))::starEach rest (envOfC qual scope s.heap.objs.size f cdv):=by rfl)
  (hplain:(backTo cM (starEach rest (envOfC qual scope s.heap.objs.size f cdv))).any (·.1)=false:=by rfl) :
  PS (cT (jS P w) P w K mg base N qual scope f cdv A outer s H E) (.Raise (some (.Call (.Name x np) (e₀::rest) [] cM)) none pos) (Ck C t E):=by
 intro pins s0 σ H0 D I h;obtain⟨tl,Nn,nm,q',bs,hdct,sn,sub,ab,col,dd,k0,k1,k2,k3,k5,mN,hC,hN,K6,T⟩:=(IJ I.mod.sI b q).obj;refine wpAny_Raise_call_subT (C:=C) (nm:=nm) (q:=q') (N:=Nn) (bs:=bs) (bm:=tl) (hdct:=hdct) (sn:=sn) (sub:=sub) (ab:=ab) (col:=col) (dd:=dd) (k0:=k0) (k1:=k1) (k2:=k2) (k3:=k3) (k5:=k5)
  FB (mN:=mN) (T.hasType FB.hasBase) (I.ok.hd rfl) (by show(backTo cM (starEach (e₀::rest) (envOfC qual scope s.heap.objs.size f cdv))).any _=false;rw[he];show(false||(backTo cM (starEach rest (envOfC qual scope s.heap.objs.size f cdv))).any (·.1))=false;rw[hplain];rfl) K6 (gc I hx b ⟨rfl,?_⟩ hd)
 have hA:=ha cM pins s0 σ H0 _ I h;have jR:starEach (e₀::rest) (cT (jS P w) P w K mg base N qual scope f cdv A outer s H E).env=(false,eval e₀ (cT (jS P w) P w K mg base N qual scope f cdv A outer s H E).env)::starEach rest (cT (jS P w) P w K mg base N qual scope f cdv A outer s H E).env:=he;rw[jR] at hA⊢;refine acZ (wpAny_mono hA (λus s2 ⟨vs,H2,I2,rv,hz,hE⟩=>⟨rfl,by rw[<-rv.length];exact hz,I2.bk _ _ hC,hN.keeps I2.bk,T.keeps I2.bk,λh' e hx'=>?_⟩) λ_ _ y=>y);have hfr:(A.deeper (envOfC qual scope s.heap.objs.size f cdv)).frames=some (envOfC qual scope s.heap.objs.size f cdv::outer):=I2.ok.frames;have gK:∀env∈(envOfC qual scope s.heap.objs.size f cdv::outer),∀b,env.frame=some b->b∈cj (envOfC qual scope s.heap.objs.size f cdv::outer):=λenv he b hb=>abG.mpr ⟨env,he,hb⟩;have noH:∀b,s2.heap.get? b=none->H2 b=none:=λb e=>by
  cases z:H2 b with
  |none=>rfl
  |some u=>obtain⟨o,eo⟩:=(I2.aG b u z).there;rw[e] at eo;cases eo
 show wpAny _ _ (leaving _ _) _ _ _
 refine wpAny_leaves_madeW (base:=PySem.W.hideAll s2.heap (cj (envOfC qual scope s.heap.objs.size f cdv::outer))) (h:=s2.heap) hfr rfl (λb o q=>adj _ q) (adY I2.stack gK) hx' λZt t x1 x2 x3 x4=>⟨e,.ref C,H2,rfl,?_,hE⟩
 refine qY (s2:={s2 with heap:=h' }) I2 rfl I2.bare (Un.kept hx'.keeps) (I2.aG.kept hx'.keeps) (noH e hx'.new) (λb o eb hh hb=>?_) x1 λb hb o eb=>x4 b o eb ?_
 ·have key:∀o',s2.heap.get? b=some o'->(PySem.W.hideAll s2.heap (cj (envOfC qual scope s.heap.objs.size f cdv::outer))).get? b=some o:=λo' e'=>by have e2:=hx'.keeps b o' e';have e3:h'.get? b=some o:=eb;rw[e2] at e3;cases e3;exact ac9 _ e' hb
  rcases hh with⟨o',e'⟩|⟨u,hu⟩
  ·exact key o' e'
  ·obtain⟨o',e'⟩:=(I2.aG b u hu).there;exact key o' e'
 ·obtain⟨_,o',e',d⟩:=I2.stack.mem (show b∈(envOfC qual scope s.heap.objs.size f cdv::outer).filterMap (·.frame) from aae _ hb);have e2:=hx'.keeps b o' e';have e3:h'.get? b=some o:=eb;rw[e2] at e3;cases e3;exact d
end
abbrev TX:=St->Hp->VK->XK->Prop
def K7(sp:Sp)(dvs:List V)(t:TA):TX:=λσ H Q R=>t σ H λvs H1=>sp (vs++dvs) H1 Q R
section
variable {X:Cx}{k:Nat}{f C:Addr}{fd:FuncData}{ps:List Str}{sp:Sp}{dvs:List V}{ds:List Value}{x m:Str}{p pos apos:Pos}{e o:Expr}{es:List Expr}{ta:TE}{t:TA}
theorem mY{M:Model}{A:Around}{E:Value->Shared->Prop}{pins:List (Addr×Obj)}{σ:St}{H:Hp}{s:Shared}{i:Nat}{x:Str}{jH:Pos}{Q:Unit->Shared->Prop}(I:Inv X pins σ H s)(hN:X.N.Nodup)(hi:X.N[i]?=some x)(hk:X.env.scope.names.lookup x=some .local)
  (h:∀s',Inv X pins (σ.set i none) H s'->Q () s'):wpAny M A (do bindName X.env x .none;unbindBehindTheSuite X.env x jH) Q E s:=by
 obtain⟨m,hn,hl⟩:=id I.loc;have Es:(X.env.scope.kind==.class||(X.env.scope.kind==.module&&X.env.locals !=X.env.globals))=false:=by rw[I.ok.kind];rfl
 have Gx:i<σ.length:=by rw[I.len];exact(aaB.mp hi).1
 have lE:=I.lE;refine wpAny_nameGoes_keeps hk hn Es λh' v yG hs=>h _ ?_;obtain⟨oL,_,_,QH,_⟩:=id hn;have tracked:cG X.prog X.w H h':=λb ob e=>by
  refine(I.aG b ob e).fO (λc w' hc q=>(hs.2 c ?_).trans q) (λ_ q=>q) λ_ _ q=>q;rintro rfl;have pI:=I.free;rcases hc with rfl|hc
  ·rw[pI] at e;cases e
  ·rw[pI] at hc;cases hc
 refine⟨I.ok,I.os,I.bare,⟨λb o e n hb hx=>?_,λb o e n hb hx=>?_,I.base.free,λb o e hx=>?_,I.base.eg,I.base.dW,I.base.eB⟩,⟨_,yG,λj y v' e1 e2 e3=>?_⟩,λy c e=>?_,I.free,I.dX,λp hp=>?_,tracked,by simpa using I.len⟩
 ·exact(hs.2 b (aar (aaD (aag e) I.ok.above))).trans (I.base.keep b o e n hb hx)
 ·obtain⟨sl,e1⟩:=I.base.slot b o e n hb hx;exact⟨sl,(hs.2 b (aar (aaD (aag e) I.ok.above))).trans e1⟩
 ·obtain⟨o',e1⟩:=I.base.there b o e hx;exact⟨o',(hs.2 b (aar (aaD (aag e) I.ok.above))).trans e1⟩
 ·by_cases hj:j=i
  ·subst hj;rw[acJ Gx] at e2;cases e2
  ·rw[acj (aaI hj)] at e2;obtain⟨u',r',q⟩:=hl j y v' e1 e2 e3;refine⟨u',r',?_⟩;rcases q with⟨k,e⟩|⟨k,c,e,z⟩
   ·refine .inl ⟨k,?_⟩
    have:y≠x:=λe=>hj (oE hN e1 (e▸hi))
    simp[this,e]
   ·exact .inr ⟨k,c,e,z.sameBut hs (lE y c e)⟩
 ·obtain⟨w',z⟩:=I.cell y c e;exact⟨w',z.sameBut hs (lE y c e)⟩
 ·obtain⟨e,n,ne,nf,d⟩:=I.pin p hp;exact⟨(hs.2 p.1 ne).trans e,n,ne,nf,d⟩
end
def Up(a:Addr)(cls:Value):HO:=.ext λh=>∃o vs,h.get? a=some o/\o.cls=cls/\o.data=.fields vs
section
variable {X:Cx}{pins:List (Addr×Obj)}{σ:St}{H1 H2:Hp}{s1 s2:Shared}{a:Addr}{cls a0:Value}{B h':Heap}
abbrev Cx.catch(X:Cx)(a:Addr):Cx:={X with A:=X.A.mark (some (.ref a)),calm:=false}
theorem Cx.Ok.catch{X:Cx}(ok:X.Ok)(a:Addr):(X.catch a).Ok:=
 ⟨ok.mod,ok.kind,ok.glob,ok.blt,ok.above,ok.inj,ok.has,ok.yE,λz=>Bool.noConfusion (show false=true from z),ok.frames,ok.BB,ok.yF,ok.bs,ok.nH,ok.qR,ok.va,ok.g0,ok.sJ⟩
theorem Inv.catch{H:Hp}{s:Shared}(I:Inv X pins σ H s)(a:Addr):Inv (X.catch a) pins σ H s:=⟨I.ok.catch a,I.os,I.bare,I.base,I.loc,I.cell,I.free,I.dX,I.pin,I.aG,I.len⟩
theorem Inv.mZ{H:Hp}{s:Shared}(ok:X.Ok)(I:Inv ((X.catch a).nM) pins σ H s):Inv X pins σ H s:=⟨ok,I.os,I.bare,I.base,I.loc,I.cell,I.free,I.dX,I.pin,I.aG,I.len⟩
theorem Cm(I:Inv X pins σ H1 s1)(fl:Cg X.prog X.w X.stack H1 s1 H2 a cls s2)(hB:∀b o,s2.heap.get? b=some o->((∃q,s1.heap.get? b=some q)\/∃u,H2 b=some u)->b∉cj X.stack->B.get? b=some o)
  (hfl:Heap.FlyingW B X.stack a cls a0 h') (hsl:∀b∈cj X.stack,∀o,s2.heap.get? b=some o->∃sl,h'.get? b=some {o with slots:=sl}) :
  Inv X pins σ H2 {s2 with heap:=h' }/\Inv X pins σ (upd H2 a (Up a cls)) {s2 with heap:=h' }:=by
 have un:=fl.un;have hst:∀b∈cj X.stack,H2 b=none:=λb hb=>by obtain⟨_,o,e,_⟩:=I.stack.mem (show b∈X.stack.filterMap (·.frame) from hb);exact un.free b o e (I.mU b hb) (by simp)
 have inB:∀b o,s1.heap.get? b=some o->b∉cj X.stack->∀o2,s2.heap.get? b=some o2->h'.get? b=some o2:=λb o e hb o2 e2=>hfl.1 b o2 (hB b o2 e2 (.inl ⟨o,e⟩) hb);have yV:∀b u,H2 b=some u->∀o2,s2.heap.get? b=some o2->h'.get? b=some o2:=λb u e o2 e2=>hfl.1 b o2 (hB b o2 e2 (.inr ⟨u,e⟩) λz=>by rw[hst b z] at e;cases e);have Cn:Un (cj X.stack) [] H1 H2 s1.heap h':=by
  refine⟨λb o e n hb hx=>inB b o e hb o (un.keep b o e n hb hx),λb o e n hb hx=>?_,un.free,λb o e hx=>?_,un.eg,un.dW,un.eB⟩
  ·obtain⟨Wk,e2⟩:=un.any e n hx;obtain⟨K5,e3⟩:=hsl b hb _ e2;exact⟨K5,e3⟩
  ·obtain⟨o2,e2⟩:=un.there b o e hx;by_cases hb:b∈cj X.stack
   ·obtain⟨sl,e3⟩:=hsl b hb _ e2;exact⟨_,e3⟩
   ·exact⟨o2,inB b o e hb o2 e2⟩
 have hok':cG X.prog X.w H2 h':=λb u e=>by
  refine(fl.aG b u e).fO (λc v hc q=>?_) (λ_ q=>q) λ_ _ q=>q;rcases hc with z|z
  ·subst z;exact yV c u e v q
  ·exact yV c _ z v q
 obtain⟨oe,vs,he,hc,hd,_⟩:=hfl.first
 have anew:s1.heap.get? a=none:=by
  cases q:s1.heap.get? a with
  |none=>rfl
  |some o=>
   exfalso;by_cases hb:a∈cj X.stack
   ·obtain⟨_,o',e',d⟩:=hfl.2.2.1.mem (show a∈X.stack.filterMap (·.frame) from hb);rw[he] at e';cases e';exact d vs hd
   ·obtain⟨o2,e2⟩:=un.there a o q (by simp)
    have:=hB a o2 e2 (.inl ⟨o,q⟩) hb
    rw[hfl.2.1] at this;cases this
 have K8:H1 a=none:=by
  cases z:H1 a with
  |none=>rfl
  |some u=>obtain⟨o,eo⟩:=(I.aG a u z).there;rw[anew] at eo;cases eo
 refine⟨I.pJ (ch:=[]) (s':={s2 with heap:=h' }) fl.os Cn hok' fl.bare (λb z=>nomatch z),I.pJ (ch:=[]) (s':={s2 with heap:=h' }) fl.os ?_ ?_ fl.bare (λb z=>nomatch z)⟩
 ·have na:∀b o,s1.heap.get? b=some o->b≠a:=λb o e z=>by rw[z,anew] at e;cases e
  refine⟨Cn.keep,Cn.slot,λb o e n hx=>by rw[aq (na b o e)];exact Cn.free b o e n hx,Cn.there,λb xs e=>?_,λb o u e=>?_,λb ps e=>?_⟩
  ·rw[aq (au e K8)];exact un.eg b xs e
  ·rw[aq (au e K8)];exact un.dW b o u e
  ·rw[aq (au e K8)];exact un.eB b ps e
 ·intro b u e;by_cases hb:b=a
  ·subst hb;rw[af] at e;cases e;refine⟨⟨oe,vs,he,hc,hd⟩,⟨oe,he⟩,λg1 g2 ⟨o,Co,q1,q2,q3⟩ k=>⟨o,Co,k o q1,q2,q3⟩⟩
  ·rw[aq hb] at e;refine(hok' b u e).fO (λc v _ q=>q) (λc q=>by rw[aq (au q fl.an)];exact q) λc xs q=>by rw[aq (au q fl.an)];exact q
end
section
variable {prog:Program}{w:World}{A:Around}{E:Value->Shared->Prop}{h:Heap}{g:Array GenState}{d:Drawn}{t:Nat}{os:OsState}{K:PySem.W.Frag}{a C:Addr}{o:Obj}{vs:Array Value}
theorem owner_class:(".".intercalate ("object.__class__".cutAt '.').dropLast)="object" := by decide +kernel
theorem uE{R:Result->Shared->Prop}(X:K.In h)(hx:h.get? a=some o)(hc:o.cls=.ref C)(m1:PySem.W.mroIn K C (.type "object")=some true)(hq:R (.ok (.ret (.ref C))) ⟨h,g,d,t,os⟩) :
  codeAny (model prog w) A (.call (.builtin "getset_descriptor.__get__") ⟨[.builtin "object.__class__",.ref a,.ref C],[]⟩) R ⟨h,g,d,t,os⟩:=by
 have vL:(⟨h,g,d,t,os⟩:Shared).TypeIs (.builtin "object.__class__") "getset_descriptor" := acU;have L1:=ade (M:=model prog w) X m1;rw[<-owner_class] at L1;refine codeAny_call_builtin aep.plain F.entry_gs_get (aep.check _ _ _ _ _ _ _ _ vL (F.args_gs_get _ _ _) ?_);repeat (any_goals (first|assumption|(with_reducible refine abf hx ?_;rw[hc])|with_reducible refine L1.at ?_|wp_step))
 refine⟨acv _ (by decide +kernel),codeAny_builtin F.entry_object_class ?_⟩;repeat (any_goals (first|assumption|(with_reducible refine abf hx ?_;rw[hc])|wp_step))
theorem pY{tk:Tok}{Q:PySem.Fin->Shared->Prop}(X:K.In h)(hx:h.get? a=some o)(hc:o.cls=.ref C)(m1:PySem.W.mroIn K C (.type "object")=some true)(g3:PySem.W.findIn K (.ref C) "__class__" = some (some (.builtin "object.__class__")))
  (hq:Q (.done (.ret (.ref C))) ⟨h,g,d,t,os⟩):wpAny (model prog w) A (Builtin.«object.__getattribute__» ⟨[.ref a,.str "__class__" tk],[]⟩) Q E ⟨h,g,d,t,os⟩:=by
 have vL:(⟨h,g,d,t,os⟩:Shared).TypeIs (.builtin "object.__class__") "getset_descriptor" := acU;have L3:=abw (M:=model prog w) X g3;have f5:=acU;have f6:=aep.lookup;have f7:=F.slot_gs_set.lookup;repeat (any_goals (first|assumption|(with_reducible refine abf hx ?_;rw[hc])|with_reducible refine L3.at ?_|wp_step))
 refine uE X hx hc m1 ?_;repeat (any_goals (first|assumption|wp_step))
theorem tK{M:Model}{G3:Value}{Q:Unit->Shared->Prop}(X:K.In h)(hx:h.get? a=some o)(hc:o.cls=.ref C)(m2:PySem.W.mroIn K C (.type "BaseException")=some true)(hq:Q () ⟨h,g,d,t,os⟩) :
  wpAny M A (checkBuiltinCall "BaseException.__getattribute__" ⟨[.ref a,G3],[]⟩) Q E ⟨h,g,d,t,os⟩:=by
 have hk:builtinKind "BaseException.__getattribute__" = some .slot:=by decide +kernel
 have K9:splitId "BaseException.__getattribute__" = some ("BaseException","__getattribute__"):=by decide +kernel
 have L2:=ade (M:=M) X m2;have ha:=F.args_bexc_ga (.ref a) G3;simp only[checkBuiltinCall,hk,K9];refine wpAny_bind ?_
 ·unfold isInstance;repeat (first|(with_reducible refine abf hx ?_;rw[hc])|with_reducible refine L2.at ?_|wp_step)
  exact hq
theorem qZ{tk:Tok}{R:Result->Shared->Prop}(X:K.In h)(hx:h.get? a=some o)(hc:o.cls=.ref C)(m1:PySem.W.mroIn K C (.type "object")=some true)(m2:PySem.W.mroIn K C (.type "BaseException")=some true)
  (g3:W.findIn K (.ref C) "__class__" = some (some (.builtin "object.__class__"))) (hq:R (.ok (.ret (.ref C))) ⟨h,g,d,t,os⟩) :
  codeAny (model prog w) A (.call (.builtin "BaseException.__getattribute__") ⟨[.ref a,.str "__class__" tk],[]⟩) R ⟨h,g,d,t,os⟩:=
 codeAny_call_builtin acG.ga.plain afm (tK X hx hc m2 (pY X hx hc m1 g3 hq))
theorem vM{tk:Tok}{Q:Value->Shared->Prop}(X:K.In h)(hx:h.get? a=some o)(hc:o.cls=.ref C)(m1:PySem.W.mroIn K C (.type "object")=some true)(m2:PySem.W.mroIn K C (.type "BaseException")=some true)
  (g1:W.findIn K (.ref C) "__getattribute__" = some (some (.builtin "BaseException.__getattribute__"))) (g2:W.findIn K (.ref C) "__getattr__" = some none) (g3:W.findIn K (.ref C) "__class__" = some (some (.builtin "object.__class__")))
  (hq:Q (.ref C) ⟨h,g,d,t,os⟩):wpAny (model prog w) A (getAttrBy (.ref a) (.str "__class__" tk) false) Q E ⟨h,g,d,t,os⟩:=by
 have f3:=acG.ga.bind (.ref a);have L1:=abw (M:=model prog w) X g1;have L2:=abw (M:=model prog w) X g2;have Cp:(Value.builtin "BaseException.__getattribute__"==Value.builtin "object.__getattribute__")=false:=by decide +kernel
 have G4:(onTheHeap (Value.ref C)&&Value.builtin "BaseException.__getattribute__"==Value.builtin "object.__getattribute__")=false:=by rw[Cp];rfl
 repeat (any_goals (first|assumption|(with_reducible refine abf hx ?_;rw[hc])|with_reducible refine L1.at ?_|with_reducible refine L2.at ?_|wp_step))
 refine qZ X hx hc m1 m2 g3 ?_;repeat (any_goals (first|assumption|wp_step))
end
structure gL(K:PySem.W.Frag)(C:Addr):Prop where
 cl:(PySem.W.clsIn K C).isSome=true
 m1:PySem.W.mroIn K C (.type "object")=some true
 m2:PySem.W.mroIn K C (.type "BaseException")=some true
 g1:PySem.W.findIn K (.ref C) "__getattribute__" = some (some (.builtin "BaseException.__getattribute__"))
 g2:PySem.W.findIn K (.ref C) "__getattr__" = some none
 g3:PySem.W.findIn K (.ref C) "__class__" = some (some (.builtin "object.__class__"))
theorem ES{K:PySem.W.Frag}{a C:Addr}(x:gL K C):PySem.W.KitX K (.ref a) (.ref C) (λh=>∃o vs,h.get? a=some o/\o.cls=.ref C/\o.data=.fields vs) where
 ty:=λM h _ ⟨o,vs,ho,hc,_⟩=>by
  have L:=(adH (M:=M) (part:=none) ho)
  have e:PySem.W.Looks M h (typeOf (.ref a)) o.cls:=(adH ho).andThen .now;rw[hc] at e;exact e
 it:=λ_ _ X _=>by
  obtain⟨Wl,lJ⟩:=acs.mp x.cl;unfold PySem.W.clsIn at lJ;split at lJ
  ·rename_i c' d' Wm Bz ho
   intro A' Q' E' s' k q;unfold isType loadHead;exact wpAny_bind (wpAny_loadPart (k _ _ (X _ _ ho)) (wpAny_pure q))
  ·cases lJ
 ne:=λh tp dd its n sl X Wn=>by
  obtain⟨Wl,lJ⟩:=acs.mp x.cl;refine aeV.mpr λq=>?_;have e:C=tp:=agy (beq_iff_eq.mp q);subst e;unfold PySem.W.clsIn at lJ;split at lJ
  ·rename_i c' d' Wm Bz ho
   have z:=(X _ _ ho).symm.trans Wn;cases z
  ·cases lJ
 ca:=λ{prog w A E Q s} X ⟨o,vs,ho,hc,hd⟩ k=>by obtain⟨h,g,d,t,os⟩:=s;unfold getAttr? getAttrBy?;refine wpAny_bind (wpAny_mkText (wpAny_bind (wpAny_attempt ?_)));exact vM X ho hc x.m1 x.m2 x.g1 x.g2 x.g3 (wpAny_pure k)
def fg(σ:List Str)(z:Str):List Str:=if z∈σ then σ else z::σ
def dist(zs:List Str):List Str:=zs.foldl fg []
theorem kq{σ:List Str}{z k:Str}:k∈fg σ z ↔ k∈σ\/k=z:=by
 unfold fg;split
 ·exact⟨.inl,λh=>h.elim id λe=>by rw[e];assumption⟩
 ·rw[aah];exact or_comm
theorem kr(σ:List Str)(z:Str):(fg σ z).length=if z∈σ then σ.length else σ.length+1:=by unfold fg;split<;>simp
theorem lT(zs:List Str)(z:Str):dist (zs++[z])=fg (dist zs) z:=by simp[dist,adx]
theorem yW:∀(zs σ:List Str),(zs.foldl fg σ).length<=σ.length+zs.length
 |[],σ=>by simp
 |z::zs,σ=>by have h:=yW zs (fg σ z);rw[kr] at h;simp only[abY,aaH];split at h<;>omega
theorem q9(zs:List Str):(dist zs).length<=zs.length:=by have h:=yW zs [];rw[abJ,abK] at h;exact h
theorem yX:∀(zs σ:List Str),zs.Nodup->(∀z∈zs,z∉σ)->(zs.foldl fg σ).length=σ.length+zs.length
 |[],σ,_,_=>by simp
 |z::zs,σ,nd,h=>by
  rw[aaT] at nd;simp only[abY,aaH];rw[yX zs (fg σ z) nd.2 λy hy q=>?_,kr,if_neg (h z aal)]
  ·omega
  ·rcases kq.mp q with q|q
   ·exact h y (aae _ hy) q
   ·exact nd.1 (q▸hy)
theorem IK{zs:List Str}(nd:zs.Nodup):(dist zs).length=zs.length:=by have h:=yX zs [] nd λ_ _ h=>nomatch h;rw[abJ,abK] at h;exact h
theorem rd:∀{its:List Value} {zs:List Str} {i:Nat} {v:Value},StrsAre its zs->its[i]?=some v->∃z t,zs[i]?=some z/\v=.str z t:=by
 intro its zs i v h;induction h generalizing i with
 |nil=>intro e;simp at e
 |cons z t _ ih=>
  intro e;cases i with
  |zero=>simp at e;exact⟨z,t,rfl,e.symm⟩
  |succ i=>exact ih (by simpa using e)
theorem eU:∀{its:List Value} {zs:List Str},StrsAre its zs->its.length=zs.length:=by
 intro its zs h;induction h with
 |nil=>rfl
 |cons z t _ ih=>simp[ih]
theorem rg:∀{its:List Value} {zs:List Str},StrsAre its zs->Vals (zs.map V.str) its:=by
 intro its zs h;induction h with
 |nil=>exact .nil
 |cons z t _ ih=>exact .cons ⟨t,rfl⟩ ih
section
variable {prog:Program}{w:World}{A:Around}{I S:Addr}{fp wr:List Addr}{G:Array GenState->Array GenState->Prop}{P:Nat->Value->Prop}{St:Nat->Shared->Prop}{zs:List Str}{R:Result->Shared->Prop}
abbrev fv(prog:Program)(w:World)(h:Heap)(S:Addr)(zs:List Str):Prop:=h.SetOf (strKind prog w) S (λk=>decide (k∈dist zs)) (dist zs).length
theorem fv.keep{h h':Heap}(x:fv prog w h S zs)(k:∀o,h.get? S=some o->h'.get? S=some o):fv prog w h' S zs:=by obtain⟨o,es,ep,t,ho,r⟩:=x;exact⟨o,es,ep,t,k o ho,r⟩
theorem fv.more{h:Heap}{z:Str}(x:h.SetOf (strKind prog w) S (λk=>decide (k∈dist zs)||decide (k=z)) (if decide (z∈dist zs)=true then (dist zs).length else (dist zs).length+1)):fv prog w h S (zs++[z]):=by
 have e1:(λk=>decide (k∈dist (zs++[z])))=λk=>decide (k∈dist zs)||decide (k=z):=by funext k;rw[lT,abz];simp[kq]
 have e2:(dist (zs++[z])).length=if decide (z∈dist zs)=true then (dist zs).length else (dist zs).length+1:=by rw[lT,kr];simp
 unfold fv;rw[e1,e2];exact x
theorem vN(W:WalksS prog w A.in1 I fp wr G zs.length P St)(off:S∉fp)(hz:∀i v,P i v->∃z t,zs[i]?=some z/\v=.str z t)(small:zs.length+1<scanBound) :
  ∀(left i:Nat) (s:Shared),i+left=zs.length->St i s->fv prog w s.heap S (zs.take i) ->
   (∀s',Moved (S::wr) G s s'->fv prog w s'.heap S zs->R (.ok (.ret .none)) s')->codeAny (model prog w) A (.builtin "set.update.loop" ⟨[.ref S,.ref I],[]⟩) R s
 |0,i,s,hi,st,x,k=>by have e:zs.take i=zs:=aaR (by omega);rw[show i=zs.length by omega] at st;refine codeAny_builtin abx ?_;rw[abj abd _];apply wpAny_bind;refine W.done s _ _ st λs' m=>?_;exact wpAny_pure (k s' (m.mono λb hb=>aae _ hb) (by rw[e] at x;exact x.keep λo ho=>m.heap S o (λhs=>off (W.sub _ hs)) ho))
 |left+1,i,s,hi,st,x,k=>by
  refine codeAny_builtin abx ?_;rw[abj abd _];apply wpAny_bind;refine W.item i s _ _ (by omega) st λv s1 p Cq m=>?_;obtain⟨z,t,ez,rfl⟩:=hz i v p;have x1:=x.keep λo ho=>m.heap S o (λhs=>off (W.sub _ hs)) ho;have et:zs.take (i+1)=zs.take i++[z]:=by rw[aaC,ez];rfl
  have yes:(strKind prog w).is z (.str z t)=true:=by show Value.isStrOf z (.str z t)=true;simp[Value.isStrOf]
  show wpAny _ A.in1 (holding [Value.str z t] (setAdd S (.str z t))>>=_) _ _ s1
  apply wpAny_bind;apply wpAny_holding;show wpAny _ A.in1 (holding _ _) _ _ _
  apply wpAny_holding;apply wpAny_bind;refine(strKind prog w).pyHash yes ?_;have aJ:=q9 (zs.take i);rw[aaP] at aJ;refine wpAny_setAddHashed_of (knd:=strKind prog w) (s:={s1 with toks:=s1.toks+1}) yes rfl x1 (by omega) λh2 sb x2=>?_;refine wpAny_pure ⟨abO abd _,vN W off hz small left (i+1) _ (by omega) ?_ (by rw[et];exact fv.more x2) λs3 m3 x3=>?_⟩
  ·exact W.frame _ s1 _ _ Cq (aa7 _) λb hb o e=>(sb.2 b λz'=>off (z'▸hb)).trans e
  ·refine k s3 (ae4 W.gtrans ((m.mono λb hb=>aae _ hb).then_heap (aa7 _) λb o hb e=>?_) m3) x3;exact(sb.2 b λz'=>hb (by rw[z'];exact aal)).trans e
end
section
variable {prog:Program}{w:World}{A:Around}{E:Value->Shared->Prop}{s:Shared}
theorem m5{T newId d8:String}{args:List Value}{Q:Value->Shared->Prop}(ft:TypeCalled T newId d8)(hc:checkTypeCall T ⟨args,[]⟩=pure ())
  (h:codeAny (model prog w) A.in1 (.call (.builtin newId) ⟨.type T::args,[]⟩) (wants (λx t=>t.TypeIs x T/\codeAny (model prog w) A.in1 (.call (.builtin d8) ⟨x::args,[]⟩) (wants (λr t'=>r=.none/\Q x t') E) t) E) s) :
  wpAny (model prog w) A (call (.type T) args) Q E s:=by
 have q1:=ft.made;have q2:=ft.sub;have q3:=ft.notType;have q4:=ft.canCreate;have q5:=ft.init.lookup;obtain⟨_,_,q6⟩:=ft.mro;apply acX;apply codeAny_of_tree;show wpAny _ _ (callAny (.type T) _) _ _ _
 apply wpAny_pure;refine⟨acv _ (by decide +kernel),codeAny_builtin PySem.F.entry_type_call ?_⟩;rw[Around.under_plain (weight_type_call_type T args []) rfl];repeat (any_goals (first|wp_step|assumption))
 apply codeAny_mono h;rintro(e|f) t k
 ·exact k
 cases f<;>first|exact k.elim|skip
 rename_i x
 have q7:=ft.init.bind x;obtain⟨ty,k⟩:=k;repeat (any_goals (first|wp_step|assumption))
 apply codeAny_mono k;rintro(e|f) t' k'
 ·exact k'
 cases f<;>first|exact k'.elim|skip
 obtain⟨z,k'⟩:=k';cases z;repeat (any_goals (first|wp_step|assumption))
theorem Cr{l:Addr}{its:List Value}{zs:List Str}{Q:Value->Shared->Prop}(hh:A.handled=none)(hl:s.heap.IsList l its.toArray)(hz:StrsAre its zs)(small:zs.length+1<scanBound)
  (h:∀(h':Heap) (tk:Nat),fv prog w h' s.heap.objs.size zs->(∀b o,s.heap.get? b=some o->h'.get? b=some o)->Q (.ref s.heap.objs.size) {s with heap:=h',toks:=tk}) :
  wpAny (model prog w) A (call (.type "set") [.ref l]) Q E s:=by
 refine m5 abq (ab8 _) (code_set_new_1 (.ref l) λled=>?_);generalize cW:s.heap.push {cls:=.type "set",dict:=none,data:=.set #[] 0 (.fresh 0 0 led)}=h1;have kp:∀b o,s.heap.get? b=some o->h1.get? b=some o:=λb o e=>by rw[<-cW];exact aab _ e
 have sz:h1.objs.size=s.heap.objs.size+1:=by rw[<-cW];exact aa1 ..
 have new:h1.get? s.heap.objs.size=some {cls:=.type "set",dict:=none,data:=.set #[] 0 (.fresh 0 0 led)}:=by rw[<-cW];exact aaq _ rfl
 have ty:({s with heap:=h1}:Shared).TypeIs (.ref s.heap.objs.size) "set" := ⟨_,new,rfl⟩
 refine⟨ty,codeAny_call_builtin abq.init.plain ab9 (check_set_init_1 ty ?_)⟩;have el:its.length=zs.length:=eU hz;obtain⟨⟨c,d,dt,sl⟩,ho,rfl,n,rfl⟩:=hl;have gT:=kp _ _ ho;have lt:@LT.lt Nat _ l s.heap.objs.size:=aag ho;have il:h1.IsList l its.toArray:=⟨_,gT,rfl,n,rfl⟩
 have n1:=ac3;have n2:=acm;have n3:(Value.type "list"==Value.type "dict")=false:=by decide
 unfold Builtin.«set.__init__» noKeywords Builtin.Frozenset.updateFrom;generalize pi:pyIter=it;wp_walk
 subst pi;apply wpAny_pyIter_list il;apply wpAny_bind;apply wpAny_runValue;have W:=(aei (prog:=prog) (w:=w) (A:=A.in1.in1.in1) (by simpa using hh) h1.objs.size l (by rw[sz];exact aar (aa2 lt)) its.toArray).toS;have e0:its.toArray.size=zs.length:=by rw[aai];exact el
 rw[e0] at W;refine vN (zs:=zs) W ?_ (λi v p=>?_) small zs.length 0 _ (abK _) ⟨⟨_,aaq _ rfl,rfl,rfl⟩,il.push _⟩ ?_ λt m x=>?_
 ·rw[sz];intro q;rcases aah.mp q with q|q
  ·exact absurd q (aar (aba _))
  ·exact absurd (aaf.mp q) (abS lt)
 ·have p':its[i]?=some v:=by simpa using p
  exact rd hz p'
 ·exact(setObjOf_fresh (knd:=strKind prog w) led).setOf (aab _ new) (by decide)
 ·obtain⟨h2,g2,d2,t2,o2⟩:=t;cases (show g2=s.gens from m.gens);cases (show d2=s.drawn from m.drawn);cases (show o2=s.os from m.os);apply wpAny_pure;refine wpAny_pure ⟨rfl,h h2 t2 x λb o e=>m.heap b o ?_ (aab _ (kp b o e))⟩;have lb:@LT.lt Nat _ b s.heap.objs.size:=aag e;rw[sz];intro q;rcases aah.mp q with q|q
  ·exact absurd q (aar lb)
  ·exact absurd (aaf.mp q) (aar (aa2 lb))
end
def gU(a b:Str):Bool:=decide (a.cps.toList<=b.cps.toList)
theorem gu{a b:Str}:gU a b=true ↔ a.cps.toList<=b.cps.toList:=by simp[gU]
theorem tL{a b c:Str}(h:gU a b=true)(k:gU b c=true):gU a c=true:=gu.mpr (List.le_trans (gu.mp h) (gu.mp k))
theorem ET{a b:Str}(h:gU a b=true)(k:gU b a=true):a=b:=by have e:=afa (gu.mp h) (gu.mp k);cases a;cases b;simp only[af3];exact abR.mp e
theorem Cs(a b:Str):(gU a b||gU b a)=true:=by
 rcases List.le_total a.cps.toList b.cps.toList with h|h
 ·simp[gu.mpr h]
 ·simp[gu.mpr h]
def aK(zs:List Str):List Str:=zs.mergeSort gU
theorem eV(zs:List Str):(aK zs).Perm zs:=List.mergeSort_perm _ _
theorem pZ(zs:List Str):(aK zs).Pairwise λa b=>gU a b=true:=List.pairwise_mergeSort (le:=gU) (λ_ _ _ h k=>tL h k) Cs zs
theorem tN:∀(l:List Str) (p:Str),risingS p l=true->(p::l).Pairwise λa b=>gU a b=true
 |[],p,_=>by simp
 |x::r,p,h=>by
  have h':(!ltCps x.cps.toList p.cps.toList&&risingS x r)=true:=h;rw[abk] at h';have ih:=tN r x h'.2;have px:gU p x=true:=by
   have:=h'.1
   rw[ltCps_eq] at this;refine gu.mpr ?_;intro q;rw[decide_eq_true q] at this;cases this
  refine abT.mpr ⟨λy hy=>?_,ih⟩;rcases aah.mp hy with rfl|hy
  ·exact px
  ·exact tL px ((abT.mp ih).1 y hy)
theorem tO:∀(l:List Str),sortedS l=true->l.Pairwise λa b=>gU a b=true
 |[],_=>.nil
 |x::r,h=>tN r x h
theorem yY:∀{l m:List Str},l.Perm m->(l.Pairwise λa b=>gU a b=true)->(m.Pairwise λa b=>gU a b=true)->l=m
 |[],m,p,_,_=>(List.nil_perm.mp p).symm
 |x::l,[],p,_,_=>absurd p (by simp)
 |x::l,y::m,p,a,b=>by
  have a':=abT.mp a;have b':=abT.mp b;have e:x=y:=by
   rcases aah.mp (p.mem_iff.mp aal) with q|q
   ·exact q
   rcases aah.mp (p.mem_iff.mpr aal) with q'|q'
   ·exact q'.symm
   ·exact ET (a'.1 y q') (b'.1 x q)
  subst e;rw[yY ((List.perm_cons _).mp p) a'.2 b'.2]
theorem lU{zs ss:List Str}(p:ss.Perm zs)(h:ss.Pairwise λa b=>gU a b=true):ss=aK zs:=yY (p.trans (eV zs).symm) h (pZ zs)
theorem cy(zs:List Str):(aK zs).length=zs.length:=(eV zs).length_eq
section
variable {X:Cx}
theorem p5:bV X (.builtin "sorted") (λxs H Q=>∃(p:Addr) (zs:List Str),xs=[.ref p]/\ar X.K H p (zs.map V.str)/\zs.length<64/\∀l,H l=none->Q (.ref l) (upd H l (.lst ((aK zs).map V.str)))):=by
 rintro pins s σ H xs us Q I r ⟨p,zs,rfl,hq,aJ,q⟩;obtain⟨u,rfl,rx⟩:=vals1 r;cases rx;obtain⟨its,rv,pl,hz⟩:=I.list hq;have el:=eU (gq rv);refine sorted_strs pl.isList (gq rv) (by omega) λout ss a1 a2 a3=>?_;have e:=lU a2 (tO ss a3);subst e;obtain⟨n,hn⟩:=sortedAll_at s.heap its out;have lb:((aK zs).map V.str).length<=sizeLine:=by rw[aaa,cy];exact aam (aaU aJ) (by decide)
 refine⟨.ref (s.heap.objs.size+1),_,I.laid (t':=s.toks) (o:=.lst ((aK zs).map V.str)) (λb o e=>sortedAll_old e) (aa7 _) ?_,rfl,q _ (I.aG.fresh (aa7 _))⟩;exact⟨lb,out.toList,n,rg a1,by rw[hn]⟩
end
def Al(K:PySem.W.Frag)(H:Hp):Nat->V->V->Prop
 |0,x,y=>cQ x=true/\x=y
 |n+1,x,y=>(cQ x=true/\x=y)\/∃p q xs ys,x=.ref p/\y=.ref q/\((ar K H p xs/\ar K H q ys)\/(aZ K H p xs/\aZ K H q ys))/\xs.length=ys.length/\∀(i:Nat) a b,xs[i]?=some a->ys[i]?=some b->Al K H n a b
def K'(K:PySem.W.Frag)(H:Hp)(n:Nat)(x y:V):Prop:=
 ∃p q xs ys,x=.ref p/\y=.ref q/\((ar K H p xs/\ar K H q ys)\/(aZ K H p xs/\aZ K H q ys))/\xs.length=ys.length/\∀(i:Nat) a b,xs[i]?=some a->ys[i]?=some b->Al K H n a b
theorem vO{x:V}(h:cQ x=true):gm x x=true:=by cases x<;>first|(exact absurd h aaw)|simp[gm]
theorem all_range(n:Nat):(List.range n).all (λ_=>true)=true:=by simp
section
variable {X:Cx}{pins:List (Addr×Obj)}{σ:St}{H:Hp}{s:Shared}
theorem Pd(I:Inv X pins σ H s):∀(n:Nat) (x y:V) (u v:Value) (A:Around),Al X.K H n x y->RelV x u->RelV y v->A.units+n<cLine->SeqAt.EqAt A s u v true:=by
 intro n;induction n with
 |zero =>rintro x y u v A ⟨f,rfl⟩ ru rv _;have h:=pR (A:=A) (s:=s) ru rv f f;rw[vO f] at h;exact h
 |succ n ih=>
  rintro x y u v A h ru rv hu;rcases h with⟨f,rfl⟩|⟨p,q,xs,ys,rfl,rfl,h,el,k⟩
  ·have h:=pR (A:=A) (s:=s) ru rv f f;rw[vO f] at h;exact h
  ·cases ru;cases rv;by_cases QW:p=q
   ·subst QW;exact afj _
   refine agq QW ?_;have low:A.in1.units+n<cLine:=by rw[afy];omega
   have item:∀{is js:List Value},Vals xs is->Vals ys js->∀j (h1:j<is.toArray.size) (h2:j<js.toArray.size),SeqAt.EqAt A.in1 s is.toArray[j] js.toArray[j] true:=λ{is js} ri rj j h1 h2=>by
    have b1:j<xs.length:=by rw[ri.length];simpa using h1
    have b2:j<ys.length:=by rw[rj.length];simpa using h2
    obtain⟨u',e1,r1⟩:=ri.get (aad b1);obtain⟨v',e2,r2⟩:=rj.get (aad b2);have c1:is.toArray[j]=u':=by
     rw[abL]
     have:=aad (l:=is) (i:=j) (by simpa using h1)
     rw[this] at e1;exact aat e1
    have c2:js.toArray[j]=v':=by
     rw[abL]
     have:=aad (l:=js) (i:=j) (by simpa using h2)
     rw[this] at e2;exact aat e2
    rw[c1,c2];exact ih _ _ _ _ _ (k j _ _ (aad b1) (aad b2)) r1 r2 low
   rcases h with⟨hp,hq⟩|⟨hp,hq⟩
   ·obtain⟨is,ri,pi,_⟩:=I.list hp;obtain⟨js,rj,pj,_⟩:=I.list hq;have z:=agv (A:=A) (e:=λ_=>true) pi.isList pj.isList (by simp only[aai];rw[<-ri.length,<-rj.length];exact el) (by omega) (item ri rj);rw[all_range] at z;exact z
   ·obtain⟨is,ri,pi,_⟩:=I.tuple hp;obtain⟨js,rj,pj,_⟩:=I.tuple hq;have z:=ags (A:=A) (e:=λ_=>true) pi pj (by omega) (item ri rj);have e:(is.toArray.size==js.toArray.size)=true:=by simp only[aai,beq_iff_eq];rw[<-ri.length,<-rj.length];exact el
    rw[all_range,e] at z;exact z
theorem ju(I:Inv X pins σ H s){n:Nat}{xs ys:List V}{A:Around}(low:A.in1.units+n<cLine)(k:∀(i:Nat) a b,xs[i]?=some a->ys[i]?=some b->Al X.K H n a b){is js:List Value}(ri:Vals xs is)(rj:Vals ys js) :
  ∀j (h1:j<is.toArray.size) (h2:j<js.toArray.size),SeqAt.EqAt A.in1 s is.toArray[j] js.toArray[j] true:=λj h1 h2=>by
 have b1:j<xs.length:=by rw[ri.length];simpa using h1
 have b2:j<ys.length:=by rw[rj.length];simpa using h2
 obtain⟨u',e1,r1⟩:=ri.get (aad b1);obtain⟨v',e2,r2⟩:=rj.get (aad b2);have c1:is.toArray[j]=u':=by
  rw[abL]
  have:=aad (l:=is) (i:=j) (by simpa using h1)
  rw[this] at e1;exact aat e1
 have c2:js.toArray[j]=v':=by
  rw[abL]
  have:=aad (l:=js) (i:=j) (by simpa using h2)
  rw[this] at e2;exact aat e2
 rw[c1,c2];exact Pd I n _ _ _ _ _ (k j _ _ (aad b1) (aad b2)) r1 r2 low
end
section
variable {X:Cx}
theorem EU(n:Nat)(hu:X.A.units+n+1<cLine):cJ X (compareOp .Eq) (λx y H Q=>K' X.K H n x y/\Q (.bl true) H):=by
 rintro pins s σ H x y v u Q I rx ry ⟨⟨p,q,xs,ys,rfl,rfl,h,el,k⟩,fin⟩;cases rx;cases ry;have low:X.A.in1.units+n<cLine:=by rw[afy];omega
 rcases h with⟨hp,hq⟩|⟨hp,hq⟩
 ·obtain⟨is,ri,pi,_⟩:=I.list hp;obtain⟨js,rj,pj,_⟩:=I.list hq;refine afn (e:=λ_=>true) pi.isList pj.isList (by simp only[aai];rw[<-ri.length,<-rj.length];exact el) (by omega) (ju I low k ri rj) ?_;exact aT I fin (all_range _).symm
 ·obtain⟨is,ri,pi,_⟩:=I.tuple hp;obtain⟨js,rj,pj,_⟩:=I.tuple hq;refine afb (e:=λ_=>true) pi pj (by omega) (ju I low k ri rj) ?_;have e:(is.toArray.size==js.toArray.size)=true:=by simp only[aai,beq_iff_eq];rw[<-ri.length,<-rj.length];exact el
  refine aT I fin ?_;rw[all_range,e];rfl
theorem vP(n:Nat)(hu:X.A.units+n+1<cLine):cJ X (compareOp .NotEq) (λx y H Q=>K' X.K H n x y/\Q (.bl false) H):=by
 rintro pins s σ H x y v u Q I rx ry ⟨⟨p,q,xs,ys,rfl,rfl,h,el,k⟩,fin⟩;cases rx;cases ry;have low:X.A.in1.units+n<cLine:=by rw[afy];omega
 rcases h with⟨hp,hq⟩|⟨hp,hq⟩
 ·obtain⟨is,ri,pi,_⟩:=I.list hp;obtain⟨js,rj,pj,_⟩:=I.list hq;refine aby (aeG (e:=λ_=>true) pi.isList pj.isList (by simp only[aai];rw[<-ri.length,<-rj.length];exact el) (by omega) (ju I low k ri rj)) ?_;refine aT I fin ?_;rw[all_range];rfl
 ·obtain⟨is,ri,pi,_⟩:=I.tuple hp;obtain⟨js,rj,pj,_⟩:=I.tuple hq;refine aby (aes (e:=λ_=>true) pi pj (by omega) (ju I low k ri rj)) ?_;have e:(is.toArray.size==js.toArray.size)=true:=by simp only[aai,beq_iff_eq];rw[<-ri.length,<-rj.length];exact el
  refine aT I fin ?_;rw[all_range,e];rfl
def IL(K:PySem.W.Frag)(te:TE):TE:=λσ H Q=>te σ H λx H1=>∃(p:Addr) (zs:List Str),x=.ref p/\ar K H1 p (zs.map V.str)/\zs.length+1<scanBound/\Q (.int (dist zs).length) H1
theorem Ct{e:Expr}{te:TE}{xl xs:Str}{p1 p2 Uq g9:Pos}(hc:X.calm=true)(he:PE X e te)(gl:Gl X xl)(ml:X.mg xl=none)(vl:bootBuiltins xl=some (.builtin "len"))(gs:Gl X xs)(ms:X.mg xs=none)(vs:bootBuiltins xs=some (.type "set"))
  (hn1:xl≠"__name__" := by decide) (hd1:(xl==("__debug__" : Str))=false:=by decide) (hn2:xs≠"__name__" := by decide) (hd2:(xs==("__debug__" : Str))=false:=by decide)
  (hs:starEach [e] X.env=[(false,eval e X.env)]:=by rfl):PE X (.Call (.Name xl p1) [.Call (.Name xs p2) [e] [] g9] [] Uq) (IL X.K te):=by
 intro pins s σ H Q I h;refine aa8 (d7 I gl ml vl ?_ hn1 hd1);refine acY ?_ rfl rfl;show wpAny _ _ (spliced [(false,eval (.Call (.Name xs p2) [e] [] g9) X.env)]) _ _ s
 refine acq ?_;refine aa8 (d7 I gs ms vs ?_ hn2 hd2);refine aa0 (aH (aa he ae hs g9 pins s σ H (λvs H1=>∃x,vs=[x]/\∃(p:Addr) (zs:List Str),x=.ref p/\ar X.K H1 p (zs.map V.str)/\zs.length+1<scanBound/\Q (.int (dist zs).length) H1) I ?_) λus s1 h1=>?_) hs rfl
 ·have mono:=h;refine ?_;show te σ H _
  exact(show te σ H (λx H1=>∃x',[x]=[x']/\∃(p:Addr) (zs:List Str),x'=.ref p/\ar X.K H1 p (zs.map V.str)/\zs.length+1<scanBound/\Q (.int (dist zs).length) H1) from by
   have e:(λ(x:V) (H1:Hp)=>∃x',[x]=[x']/\∃(p:Addr) (zs:List Str),x'=.ref p/\ar X.K H1 p (zs.map V.str)/\zs.length+1<scanBound/\Q (.int (dist zs).length) H1)=λx H1=>∃(p:Addr) (zs:List Str),x=.ref p/\ar X.K H1 p (zs.map V.str)/\zs.length+1<scanBound/\Q (.int (dist zs).length) H1:=by
    funext x H1
    refine propext ⟨λ⟨x',e,r⟩=>?_,λr=>⟨x,rfl,r⟩⟩;cases e;exact r
   rw[e];exact h)
 ·obtain⟨Co,H1,I1,r1,x,rfl,p,zs,rfl,hq,small,q⟩:=h1;obtain⟨u,rfl,ru⟩:=vals1 r1;cases ru;obtain⟨its,rv,pl,_⟩:=I1.list hq;refine Cr (I1.ok.hd hc) pl.isList (gq rv) small λh' tk T kp=>?_;refine acE ?_;obtain⟨o,es,ep,t,ho,hex,hd,_,_,hb,hf,hN⟩:=T;have I2:Inv X pins σ H1 {s1 with heap:=h',toks:=tk}:=I1.kept (t':=tk) kp;have fit:(es.size:Int)<2 ^ 63:=by
   have:es.size<scanBound:=hb
   have z:scanBound<=4096:=by decide
   have:(es.size:Int)<4096:=by omega
   exact Int.lt_of_lt_of_le this (by decide)
  rw[<-hN] at q;exact call_len_set ho hex hd hf fit ⟨.int es.size,H1,I2.tok _,⟨_,rfl⟩,q⟩
theorem vQ:bV X (.builtin "divmod") (λxs H Q=>∃i j,xs=[.int i,.int j]/\0<j/\j<2 ^ 64/\∀p,H p=none->Q (.ref p) (upd H p (.tup [.int (i / j),.int (i % j)]))):=by
 rintro pins s σ H xs us Q I r ⟨i,j,rfl,h1,h2,q⟩;obtain⟨u,w',rfl,⟨t,rfl⟩,⟨t',rfl⟩⟩:=vals2 r;have small:j.natAbs.log2<9000:=by
  have a:j.natAbs<2 ^ 64:=by omega
  have b:j.natAbs≠0:=by omega
  have c:=(af8 b).mpr a;omega
 refine divmod_int (by omega) ?_ (.inl (PyProof.noPylong_of_log2 small));rw[ado i (by omega),adp i (by omega)];refine⟨.ref s.heap.objs.size,_,I.laid (o:=.tup [.int (i / j),.int (i % j)]) (λb o e=>aab _ e) (aac _) ⟨?_,[.int (i / j) s.toks,.int (i % j) (s.toks+1)],.cons ⟨_,rfl⟩ (.cons ⟨_,rfl⟩ .nil),⟨_,aaq s.heap rfl,rfl,0,rfl⟩⟩,rfl,q _ I.fresh⟩;show 2<=sizeLine
 decide
end
theorem aX.QX{P:Program}{w:World}{K:PySem.W.Frag}{mg:Str->Option Value}{base:Heap}{x qual:Str}{st:Stmt}{f:Addr}{fd:FuncData}{N ps:List Str}{k:Nat}{sp:Sp}(F:aX K x qual st f fd)(S:aF N ps (ao st))(len:∀vs H Q E,sp vs H Q E->vs.length=ps.length)
  (hbody:∀(cdv:Value) (A:Around) (outer:List Env) (s:Shared) (H:Hp) (vs:List V) (Q:VK) (E:XK),bW k (A.deeper (envOfC qual (ao st) s.heap.objs.size f cdv))->sp vs H Q E ->
   ∃t,iq (cT (jS P w) P w K mg base N qual (ao st) f cdv A outer s H E) (cx st) t/\t {nx:=λ_ H'=>Q .aN H',rt:=Q} (start N vs) H):ak P w K mg base (jS P w) (k+1) f fd ps sp:=by
 obtain⟨oc,od,kV,doc,pm,an,cdv,ct,osl,rfl,lk,hcd⟩:=F.ex;exact Av lk hcd S len (hbody cdv)
end L2
namespace dO
open PySem PySem.Spec PyProof.Rows L2
theorem bu{CX:gj}{P:Program}{w:World}{K:PySem.W.Frag}{mg:Str->Option Value}{base:Heap}{N:List Str}{q:Str}{sc:Scope}{f:Addr}{cd:Value}{A:Around}{o:List Env}{s:Shared}{H:Hp}{E:XK}:(cT CX P w K mg base N q sc f cd A o s H E).nM.K=K:=rfl
def top(i:Nat):Stmt:=PySem.Challenge.pw_cutmeet_k84_lean_lists.main.body.getD i (.Pass ⟨0,0,0,0⟩)
abbrev lV:Stmt:=top 8
abbrev ku:Stmt:=top 9
abbrev m6:Stmt:=top 13
abbrev i7:Stmt:=top 14
abbrev rh:Stmt:=top 15
abbrev m8:Stmt:=top 16
abbrev p6:Stmt:=inClass (top 17) 0
abbrev m9:Stmt:=inClass (top 17) 1
abbrev uN:Stmt:=inClass (top 17) 2
abbrev uO:Stmt:=inClass (top 17) 3
abbrev uP:Stmt:=inClass (top 17) 4
abbrev AD:Stmt:=top 65
structure Df(K:PySem.W.Frag)(mg:Str->Option Value)(x:Str)(st:Stmt)(ps:List Str)(f:Addr)(fd:FuncData):Prop where
 fn:aX K x x st f fd
 aO:mg x=some (.ref f)
 b:Binds K fd ps []
def bM(p:Addr)(H H':Hp):Prop:=∀b o,H b=some o->b≠p->H' b=some o
def Row(H:Hp)(p:Addr):Prop:=∃a b:Int,H p=some (.lst [.int a,.int b])
def gM:Sp:=λvs H Q _=>∃(p:Addr) (m:Int),vs=[.ref p,.int m]/\Row H p/\0<m/\m<2 ^ 64/\∀(d:Int) (H':Hp),0<=d->d<m->Row H' p->bM p H H'->Q (.int d) H'
structure bK(mg:Str->Option Value):Prop where
 divmod:mg "divmod" = none
 len:mg "len" = none
 all:mg "all" = none
 cf:mg "isinstance" = none
 str:mg "str" = none
 range:mg "range" = none
 max:mg "max" = none
 min:mg "min" = none
 bool:mg "bool" = none
 list:mg "list" = none
 int:mg "int" = none
 tuple:mg "tuple" = none
 set:mg "set" = none
 sorted:mg "sorted" = none
 longest:∃t,mg "LONGEST" = some (.int 8 t)
 places:∃t,mg "MOST_PLACES" = some (.int 12 t)
 iF:∃t,mg "MOST_TIES" = some (.int 30 t)
section
variable {P:Program}{w:World}{K:PySem.W.Frag}{mg:Str->Option Value}{base:Heap}
def lo(c:Nat):Bool:=!decide ((⟨#[c]⟩:Str).cps.toList<("a" : Str).cps.toList)
def hi(c:Nat):Bool:=!decide (("z" : Str).cps.toList<(⟨#[c]⟩:Str).cps.toList)
def nm(z:Str):Bool:=(decide (1<=z.length)&&decide (z.length<=8))&&(z.cps.toList.map λc=>lo c&&hi c).all id
theorem AE{K:PySem.W.Frag}{z:Str}{H:Hp}{Q:VK}{te:TE}{σ:L2.St}{x:Str}(hz:z.cps.size<=sizeLine)(f:Nat->Bool)
  (he:∀(c:Nat) (H:Hp) (Q:VK),Q (.bl (f c)) H->te [some (V.str ⟨#[c]⟩)] H Q) (k:∀D,H D=none->Q (.ref D) (upd H D (.lst ((z.cps.toList.map f).map V.bl)))) :
  gJ [x] [] (bF 0) dN te σ Q (Cd z) H:=by
 refine⟨λi m ys H2=>H2=H/\i<=z.cps.size/\m=z.cps.size-i/\ys=((z.cps.toList.take i).map f).map V.bl,⟨z.cps.size,rfl,aaG _,rfl,rfl⟩,?_⟩;rintro i m ys H2 ⟨rfl,hi,rfl,rfl⟩;refine⟨by simp;omega,?_⟩;by_cases h:i<z.cps.size
 ·refine .inr ⟨h,λx H3 hy=>?_⟩;obtain⟨rfl,c,hc,rfl⟩:=hy;simp only[dN,bF,aa3];refine he c _ _ ⟨z.cps.size-(i+1),by omega,rfl,h,rfl,?_⟩;have e:(z.cps.toList.take (i+1))=z.cps.toList.take i++[c]:=by
   rw[aaC]
   have:z.cps.toList[i]?=some c:=by simpa using hc
   rw[this];rfl
  rw[e];simp
 ·have e:i=z.cps.size:=by omega
  subst e;refine .inl ⟨rfl,λD hD=>?_⟩;have q:=k D hD;rw[aaR (by simp)];exact q
def Cu:Sp:=λvs H Q _=>(∃z:Str,vs=[.str z]/\z.length<=1000/\∀H',av H H'->Q (.bl (nm z)) H')\/∃x t,vs=[x]/\cn K H x t/\PySem.W.kitOne K t (.type "str")=some false/\Q (.bl false) H
theorem Wo:aF ["thing"] ["thing"] (ao ku):=⟨rfl,rfl,rfl,by decide +kernel,rfl,by decide +kernel,by decide +kernel⟩
theorem IM{f:Addr}{fd:FuncData}(F:aX K "is_name" "is_name" ku f fd)(T:bK mg):ak P w K mg base aD 1 f fd ["thing"] (Cu (K:=K)):=by
 refine F.ok Wo (λvs H Q E h=>?_) (λcdv A outer s H vs Q E hr h=>?_)
 ·rcases h with⟨z,rfl,_⟩|⟨x,t,rfl,_⟩<;>rfl
 ·obtain⟨t8,h8⟩:=T.longest;refine⟨_,aj (ba (PW.pt (dA (bp (bg (ay (bO (T:="str")) (by rfl) T.cf aaM (aa (pv 0) (aa (cq (v:=.ty "str") rfl T.str ad8 rfl) ae))) (λ_=>rfl)))
    (de (bp (kg kf kf ax (ay lN (by rfl) T.len aav (aa (pv 0) ae)) (g5 (v:=.int 8) rfl h8 ⟨_,rfl⟩)))))) (ai (aB bS)) aR)
   (ai (aB (ay (fU rfl) (by rfl) T.all adg (aa (cV ["sign"] [] rfl (bQ (osc:=(ao ku).names) (N:=["thing"]) rfl rfl (by decide +kernel)) (bJ (by decide)) (Ce (pv 0)) (λ_ _ _=>aI (i:=0) (show(["sign"]:List Str).Nodup by decide +kernel) rfl (Or.inl rfl)) (λ_ _ _=>bT)
    (λ_ _ _=>oG tJ tJ dc (pv 0) dc)) ae)))),?_⟩
  try rw[bu]
  rcases h with⟨z,rfl,hz,k⟩|⟨x,t,rfl,ty,ki,k⟩
  ·have QY:z.length<=sizeLine:=aam hz (by decide);refine⟨_,rfl,_,_,true,rfl,.str z,rfl,_,rfl,?_⟩;refine aP ?_;refine⟨_,rfl,z,rfl,QY,_,_,rfl,rfl,_,rfl,?_⟩;refine cS (λh1=>?_) (λh1=>?_)
   ·refine⟨_,_,rfl,rfl,_,rfl,?_⟩;refine cS (λh2=>?_) (λh2=>?_)
    ·have e:nm z=false:=by
      have:¬ z.length<=8:=by simp at h2;omega
      simp[nm,this]
     exact e▸k H (av.refl _)
    ·have e:nm z=(z.cps.toList.map λc=>lo c&&hi c).all id:=by
      have a1:1<=z.length:=by simp at h1;omega
      have a2:z.length<=8:=by simp at h2;omega
      unfold nm;rw[decide_eq_true a1,decide_eq_true a2];rfl
     refine⟨_,rfl,z,rfl,AE (K:=K) QY (λc=>lo c&&hi c) (λc H Q q=>?_) (λD hD=>⟨D,_,rfl,ar.of af,?_⟩)⟩
     ·refine⟨_,rfl,_,_,rfl,rfl,_,rfl,?_⟩;have q':Q (.bl (lo c&&hi c)) H:=q;refine cS (λh=>?_) (λh=>?_)
      ·refine⟨_,_,rfl,rfl,?_⟩;have e1:lo c=true:=h;rw[e1,ab6] at q';exact q'
      ·have e1:lo c=false:=by simpa using(show ¬ lo c=true from h)
       rw[e1,ad5] at q';exact q'
     ·exact e▸k _ λc o q=>by rw[aq (au q hD)];exact q
   ·refine⟨_,rfl,?_⟩;have e:nm z=false:=by
     have:¬ 1<=z.length:=by simp at h1;omega
     simp[nm,this]
    exact bt (e▸k H (av.refl _))
  ·refine⟨_,rfl,_,_,false,rfl,ty,ki,_,rfl,?_⟩;exact bt k
theorem bM.refl(p:Addr)(H:Hp):bM p H H:=λ_ _ h _=>h
theorem bM.trans{p:Addr}{H H1 H2:Hp}(a:bM p H H1)(b:bM p H1 H2):bM p H H2:=λc o h n=>b c o (a c o h n) n
theorem bM.laid{p q:Addr}{H H1:Hp}{o:HO}(a:bM p H H1)(hq:H1 q=none)(hp:Row H1 p):bM p H (upd H1 q o)/\Row (upd H1 q o) p:=by obtain⟨x,y,hp⟩:=hp;exact⟨λc u h n=>by rw[aq (au (a c u h n) hq)];exact a c u h n,x,y,by rw[aq (au hp hq)];exact hp⟩
theorem La{z:Str}{d:Int}(h0:0<=d)(h1:d<(z.length:Int)):∃c,iM z.cps.toList d=some c:=by
 obtain⟨n,rfl⟩:=abe h0;have hn:n<z.cps.toList.length:=by
  have:n<z.length:=by omega
  rw[aau];exact this
 exact⟨z.cps.toList[n],aQ (by simp[hn])⟩
theorem ag{H:Hp}{a:Addr}{o:HO}(h:H a=none):av H (upd H a o):=λb u e=>by rw[aq (au e h)];exact e
def ng:Sp:=λvs H Q _=>∃x t b1 b2,vs=[x]/\cn K H x t/\PySem.W.kitOne K t (.type "int")=some b1/\PySem.W.kitOne K t (.type "bool")=some b2/\Q (.bl (b1&&!b2)) H
theorem Ur:aF ["thing"] ["thing"] (ao lV):=⟨rfl,rfl,rfl,by decide +kernel,rfl,by decide +kernel,by decide +kernel⟩
theorem oQ{f:Addr}{fd:FuncData}(F:aX K "is_whole" "is_whole" lV f fd)(T:bK mg):ak P w K mg base aD 1 f fd ["thing"] (ng (K:=K)):=by
 refine F.ok Ur (λvs H Q E h=>?_) (λcdv A outer s H vs Q E hr h=>?_)
 ·obtain⟨x,t,b1,b2,rfl,_⟩:=h;rfl
 ·obtain⟨x,t,b1,b2,rfl,ty,e1,e2,k⟩:=h;refine⟨_,ai (aB (eM (ay (bO (T:="int")) (by rfl) T.cf aaM (aa (pv 0) (aa (cq (v:=.ty "int") rfl T.int acV rfl) ae)))
   (fk (BF (ay (bO (T:="bool")) (by rfl) T.cf aaM (aa (pv 0) (aa (cq (v:=.ty "bool") rfl T.bool adZ rfl) ae))))))),?_⟩
  try rw[bu]
  refine⟨_,rfl,x,t,b1,rfl,ty,e1,_,rfl,?_⟩;cases b1
  ·exact aP k
  ·exact bt ⟨_,rfl,x,t,b2,rfl,ty,e2,_,rfl,k⟩
structure nj(ns:List Str):Prop where
 one:1<=ns.length
 aJ:ns.length<=12
 Wq:∀z∈ns,nm z=true
 nd:ns.Nodup
theorem Lb{z:Str}(h:nm z=true):z.length<=8:=by unfold nm at h;simp only[abk,decide_eq_true_eq] at h;exact h.1.2
def Cv:Sp:=λvs H Q _=>∃(a:Addr) (ns:List Str),vs=[.ref a]/\H a=some (.lst (ns.map V.str))/\nj ns/\∀H',av H H'->Q .aN H'
theorem Us:aF ["places"] ["places"] (ao m6):=⟨rfl,rfl,rfl,by decide +kernel,rfl,by decide +kernel,by decide +kernel⟩
theorem IP{f fN:Addr}{fd jv:FuncData}(F:aX K "check_places" "check_places" m6 f fd)(DN:Df K mg "is_name" ku ["thing"] fN jv)(T:bK mg):ak P w K mg base aD 2 f fd ["places"] Cv:=by
 have GN:ak P w K mg base aD 1 fN jv ["thing"] (Cu (K:=K)):=IM DN.fn T;refine F.ok Us (λvs H Q E h=>?_) (λcdv A outer s H vs Q E hr h=>?_)
 ·obtain⟨a,ns,rfl,_⟩:=h;rfl
 ·obtain⟨a,ns,rfl,ha,g,k⟩:=h;obtain⟨t12,h12⟩:=T.places;refine⟨_,aj (ba (PW.pt (dA (bp (bg (ay (bO (T:="list")) (by rfl) T.cf aaM (aa (pv 0) (aa (cq (v:=.ty "list") rfl T.list aaS rfl) ae))) (λ_=>rfl)))
    (de (bp (kg kf kf ax (ay aE (by rfl) T.len aav (aa (pv 0) ae)) (g5 (v:=.int 12) rfl h12 ⟨_,rfl⟩)))))) (ai iX) aR)
   (aj (ba (bp (bg (ay (fU rfl) (by rfl) T.all adg (aa (cV ["place"] [] rfl (bQ (osc:=(ao m6).names) (N:=["places"]) rfl rfl (by decide +kernel)) (bJ (by decide)) (bh (pv 0)) (λ_ _ _=>aI (i:=0) (show(["place"]:List Str).Nodup by decide +kernel) rfl (Or.inl rfl)) (λ_ _ _=>bT)
     (λ_ _ _=>aw GN hr rfl DN.aO DN.fn.kp DN.b .nil aA (aa (pv 0) ae))) ae)) (λ_=>rfl))) (ai iX) aR)
   (ai (ba (aS ic (Ct rfl (pv 0) rfl T.len aav rfl T.set acf) (ay aE (by rfl) T.len aav (aa (pv 0) ae)) (aU _)) (ai iX) aR))),?_⟩
  try rw[bu]
  refine⟨_,rfl,_,_,true,rfl,.lst ha,rfl,_,rfl,?_⟩;refine aP ?_;have le:(ns.map V.str).length=ns.length:=aaa ..;refine⟨_,rfl,a,_,rfl,.inl (ar.of ha),_,_,rfl,rfl,_,rfl,?_⟩;rw[le];have g1:=g.one;have g2:=g.aJ;refine cS (λ_=>?_) (λz=>absurd z (by simp;omega));refine⟨_,_,rfl,rfl,_,rfl,?_⟩;refine cS (λz=>absurd z (by simp;omega)) (λ_=>?_);refine⟨_,rfl,a,rfl,⟨_,ar.of ha⟩,cu (K:=K) (xs:=ns.map V.str) (λi ys H2=>av H H2/\ys=List.replicate i (V.bl true)) ⟨av.refl _,rfl⟩ ?_ ?_ ?_ ?_⟩
  ·rintro i ys H2 hi ⟨_,rfl⟩;rw[abX];rw[le] at hi;exact aam hi (aam g.aJ (by decide))
  ·rintro i ys H2 _ ⟨s2,_⟩;exact ar.of (s2 _ _ ha)
  ·rintro i x ys H2 R hx ⟨s2,rfl⟩ kR;rw[aan] at hx;obtain⟨z,ez,rfl⟩:=aap.mp hx;have gz:=g.Wq z (aak ez);simp only[dN,bF,aa3];refine⟨_,rfl,.inl ⟨z,rfl,aam (Lb gz) (by decide),λH3 s3=>?_⟩⟩;rw[gz];exact kR _ _ ⟨s2.trans s3,by rw[ac4]⟩
  ·rintro ys H2 ⟨s2,rfl⟩ D hD;rw[le];have e:List.replicate ns.length (V.bl true)=(List.replicate ns.length true).map V.bl:=by simp
   refine⟨D,List.replicate ns.length true,rfl,(by rw[e];exact ar.of af),_,rfl,?_⟩;have e2:(List.replicate ns.length true).all id=true:=by simp
   rw[e2];refine aP ?_;have s3:av H (upd H2 D (.lst (List.replicate ns.length (V.bl true)))):=s2.trans (ag hD);refine⟨_,rfl,a,ns,rfl,ar.of (s3 _ _ ha),(by have:=g.aJ;show ns.length+1<scanBound;exact abp (Nat.succ_le_succ this) (by decide)),_,rfl,a,_,rfl,.inl (ar.of (s3 _ _ ha)),_,_,rfl,rfl,_,rfl,?_⟩;rw[IK g.nd,le];refine cS (λz=>absurd z (by simp)) (λ_=>?_);exact k _ s3
end
theorem e9(z:Str)(ns:List Str):yQ (.str z) (ns.map V.str)=decide (z∈ns):=by unfold yQ;rw[af4,abz,aaL];simp only[afc,Function.comp,gm,beq_iff_eq];exact⟨λ⟨y,h,e⟩=>e▸h,λh=>⟨z,h,rfl⟩⟩
theorem cN(ns:List Str):(ns.map V.str).all cQ=true:=by rw[acu,abF];intro _ _;rfl
section
variable {P:Program}{w:World}{K:PySem.W.Frag}{mg:Str->Option Value}{base:Heap}
def yZ:Sp:=λvs H Q _=>(∃(a:Addr) (ns:List Str) (z:Str),vs=[.ref a,.str z]/\ar K H a (ns.map V.str)/\Q (.bl (decide (z∈ns))) H)\/∃(a:Addr) (x:V) (t:Value),vs=[.ref a,x]/\cn K H x t/\PySem.W.kitOne K t (.type "str")=some false/\Q (.bl false) H
theorem Ut:aF ["places","thing"] ["places","thing"] (ao i7):=⟨rfl,rfl,rfl,by decide +kernel,rfl,by decide +kernel,by decide +kernel⟩
theorem EV{f:Addr}{fd:FuncData}(F:aX K "is_among" "is_among" i7 f fd)(T:bK mg):ak P w K mg base aD 1 f fd ["places","thing"] (yZ (K:=K)):=by
 refine F.ok Ut (λvs H Q E h=>?_) (λcdv A outer s H vs Q E hr h=>?_)
 ·rcases h with⟨a,ns,z,rfl,_⟩|⟨a,x,t,rfl,_⟩<;>rfl
 ·refine⟨_,ai (aB (eM (ay (bO (T:="str")) (by rfl) T.cf aaM (aa (pv 1) (aa (cq (v:=.ty "str") rfl T.str ad8 rfl) ae))) (fk (cP eQ (pv 1) (pv 0) rfl)))),?_⟩;rcases h with⟨a,ns,z,rfl,ha,k⟩|⟨a,x,t,rfl,ty,e,k⟩
  ·refine⟨_,rfl,_,_,true,rfl,.str z,rfl,_,rfl,?_⟩;refine bt ⟨_,rfl,_,rfl,a,_,rfl,.inl ha,rfl,cN ns,?_⟩;rw[e9];exact k
  ·refine⟨_,rfl,x,t,false,rfl,ty,e,_,rfl,?_⟩;exact aP k
def G5:Sp:=λvs H Q _=>∃(a:Addr) (ns:List Str) (t:Addr) (x y:Str),vs=[.ref a,.ref t]/\ar K H a (ns.map V.str)/\H t=some (.tup [.str x,.str y])/\Q (.bl (decide (x∈ns)&&decide (y∈ns))) H
theorem Uu:aF ["places","thing"] ["places","thing"] (ao rh):=⟨rfl,rfl,rfl,by decide +kernel,rfl,by decide +kernel,by decide +kernel⟩
theorem Lc{f fA:Addr}{fd tP:FuncData}(F:aX K "is_tie" "is_tie" rh f fd)(DA:Df K mg "is_among" i7 ["places","thing"] fA tP)(T:bK mg):ak P w K mg base aD 2 f fd ["places","thing"] (G5 (K:=K)):=by
 have GA:ak P w K mg base aD 1 fA tP ["places","thing"] (yZ (K:=K)):=EV DA.fn T;refine F.ok Uu (λvs H Q E h=>?_) (λcdv A outer s H vs Q E hr h=>?_)
 ·obtain⟨a,ns,t,x,y,rfl,_⟩:=h;rfl
 ·obtain⟨a,ns,t,x,y,rfl,ha,ht,k⟩:=h;refine⟨_,aj (ba (PW.pt (dA (bp (bg (ay (bO (T:="tuple")) (by rfl) T.cf aaM (aa (pv 1) (aa (cq (v:=.ty "tuple") rfl T.tuple aa4 rfl) ae))) (λ_=>rfl)))
    (de (aS kc (ay aE (by rfl) T.len aav (aa (pv 1) ae)) ax (aU _))))) (ai (aB bS)) aR)
   (ai (aB (eM (aw GA hr rfl DA.aO DA.fn.kp DA.b .nil aA (aa (pv 0) (aa (aY cL (pv 1) ax (λ_ _=>rfl)) ae))) (fk (aw GA hr rfl DA.aO DA.fn.kp DA.b .nil aA (aa (pv 0) (aa (aY cL (pv 1) ax (λ_ _=>rfl)) ae))))))),?_⟩
  try rw[bu]
  refine⟨_,rfl,_,_,true,rfl,.tup ht,rfl,_,rfl,?_⟩;refine aP ⟨_,rfl,t,_,rfl,.inr (aZ.of ht),rfl,_,rfl,?_⟩;refine aP ?_;refine⟨_,rfl,_,rfl,t,_,_,_,rfl,rfl,aZ.of ht,aQ (j:=0) rfl,.inl ⟨a,ns,x,rfl,ha,_,rfl,?_⟩⟩;refine cS (λe=>?_) (λe=>?_)
  ·refine⟨_,rfl,_,rfl,t,_,_,_,rfl,rfl,aZ.of ht,aQ (j:=1) rfl,.inl ⟨a,ns,y,rfl,ha,?_⟩⟩;rw[e,ab6] at k;exact k
  ·rw[aeV.mpr e,ad5] at k;exact k
def aV(H:Hp):List Addr->List (Str×Str)->Prop:=Paired λt p=>H t=some (.tup [.str p.1,.str p.2])
def fb(ns:List Str)(ps:List (Str×Str)):Prop:=∀p∈ps,p.1∈ns/\p.2∈ns
theorem aV.mono{H H':Hp}{ts:List Addr}{ps:List (Str×Str)}(h:aV H ts ps)(k:∀t xs,H t=some (.tup xs)->H' t=some (.tup xs)):aV H' ts ps:=Paired.Ac h λt p e=>k t _ e
theorem aV.same{H H':Hp}{ts:List Addr}{ps:List (Str×Str)}(h:aV H ts ps)(s:av H H'):aV H' ts ps:=h.mono λt xs e=>s t _ e
theorem aV.but{p:Addr}{H H':Hp}{ts:List Addr}{ps:List (Str×Str)}(h:aV H ts ps)(s:bM p H H')(np:∀xs,H p≠some (.tup xs)):aV H' ts ps:=h.mono λt xs e=>s t _ e λz=>np xs (z▸e)
theorem aV.len{H:Hp}{ts:List Addr}{ps:List (Str×Str)}(h:aV H ts ps):ts.length=ps.length:=acO h
theorem aV.get{H:Hp}:∀{ts:List Addr} {ps:List (Str×Str)} {i:Nat} {t:Addr},aV H ts ps->ts[i]?=some t->∃p,ps[i]?=some p/\H t=some (.tup [.str p.1,.str p.2])
 |_,_,_,_,.nil,e=>by simp at e
 |_,_,0,_,.cons r _,e=>by simp at e;subst e;exact⟨_,rfl,r⟩
 |_,_,i+1,t,.cons _ h,e=>by obtain⟨p,h1,h2⟩:=aV.get (i:=i) (t:=t) h (by simpa using e);exact⟨p,by simpa using h1,h2⟩
theorem aV.snoc{H:Hp}{ts:List Addr}{ps:List (Str×Str)}{t:Addr}{p:Str×Str}(h:aV H ts ps)(e:H t=some (.tup [.str p.1,.str p.2])):aV H (ts++[t]) (ps++[p]):=ae3 h e
def Cw:Sp:=λvs H Q _=>∃(a b:Addr) (ns:List Str) (ts:List Addr) (ps:List (Str×Str)),vs=[.ref a,.ref b]/\H a=some (.lst (ns.map V.str))/\H b=some (.lst (ts.map V.ref))/\aV H ts ps/\fb ns ps/\ps.length<=30/\∀H',av H H'->Q .aN H'
theorem Uv:aF ["places","ties"] ["places","ties"] (ao m8):=⟨rfl,rfl,rfl,by decide +kernel,rfl,by decide +kernel,by decide +kernel⟩
theorem IQ{f fA fT:Addr}{fd tP fc:FuncData}(F:aX K "check_ties" "check_ties" m8 f fd)(DA:Df K mg "is_among" i7 ["places","thing"] fA tP)(DT:Df K mg "is_tie" rh ["places","thing"] fT fc)(T:bK mg):ak P w K mg base aD 3 f fd ["places","ties"] Cw:=by
 have GT:ak P w K mg base aD 2 fT fc ["places","thing"] (G5 (K:=K)):=Lc DT.fn DA T;refine F.ok Uv (λvs H Q E h=>?_) (λcdv A outer s H vs Q E hr h=>?_)
 ·obtain⟨a,b,ns,ts,ps,rfl,_⟩:=h;rfl
 ·obtain⟨a,b,ns,ts,ps,rfl,ha,hb,hT,hI,aJ,k⟩:=h;obtain⟨Zu,h30⟩:=T.iF;refine⟨_,aj (ba (PW.pt (dA (bp (bg (ay (bO (T:="list")) (by rfl) T.cf aaM (aa (pv 1) (aa (cq (v:=.ty "list") rfl T.list aaS rfl) ae))) (λ_=>rfl)))
    (de (aS mV (ay aE (by rfl) T.len aav (aa (pv 1) ae)) (g5 (v:=.int 30) rfl h30 ⟨_,rfl⟩) (aU _))))) (ai iX) aR)
   (ai (ba (bp (bg (ay (fU rfl) (by rfl) T.all adg (aa (cV ["tie"] [0] rfl (bQ (osc:=(ao m8).names) (N:=["places","ties"]) rfl rfl (by decide +kernel)) (bJ (by decide)) (bh (pv 1)) (λ_ _ _=>aI (i:=0) (show(["tie","places"]:List Str).Nodup by decide +kernel) rfl (Or.inl rfl)) (λ_ _ _=>bT)
     (λ_ _ _=>aw GT hr rfl DT.aO DT.fn.kp DT.b .nil aA (aa (pv 1) (aa (pv 0) ae)))) ae)) (λ_=>rfl))) (ai iX) aR)),?_⟩
  try rw[bu]
  have le:(ts.map V.ref).length=ps.length:=by rw[aaa,hT.len]
  refine⟨_,rfl,_,_,true,rfl,.lst hb,rfl,_,rfl,?_⟩;refine aP ⟨_,rfl,b,_,rfl,.inl (ar.of hb),_,_,rfl,rfl,_,rfl,?_⟩;rw[le];refine cS (λz=>absurd z (by simp;omega)) (λ_=>?_);refine⟨_,rfl,b,rfl,⟨_,ar.of hb⟩,cu (K:=K) (xs:=ts.map V.ref) (λi ys H2=>av H H2/\ys=List.replicate i (V.bl true)) ⟨av.refl _,rfl⟩ ?_ ?_ ?_ ?_⟩
  ·rintro i ys H2 hi ⟨_,rfl⟩;rw[abX];rw[le] at hi;exact aam hi (aam aJ (by decide))
  ·rintro i ys H2 _ ⟨s2,_⟩;exact ar.of (s2 _ _ hb)
  ·rintro i x ys H2 R hx ⟨s2,rfl⟩ kR;rw[aan] at hx;obtain⟨t,et,rfl⟩:=aap.mp hx;obtain⟨p,ep,ht⟩:=hT.get et;obtain⟨i1,i2⟩:=hI p (aak ep);simp only[dN,bF,aa3];refine⟨_,rfl,_,rfl,a,ns,t,p.1,p.2,rfl,ar.of (s2 _ _ ha),s2 _ _ ht,?_⟩;rw[decide_eq_true i1,decide_eq_true i2];exact kR _ _ ⟨s2,by rw[ac4];rfl⟩
  ·rintro ys H2 ⟨s2,rfl⟩ D hD;have e:List.replicate (ts.map V.ref).length (V.bl true)=(List.replicate (ts.map V.ref).length true).map V.bl:=by simp
   refine⟨D,List.replicate (ts.map V.ref).length true,rfl,(by rw[e];exact ar.of af),_,rfl,?_⟩;have e2:(List.replicate (ts.map V.ref).length true).all id=true:=by simp
   rw[e2];exact aP (k _ (s2.trans (ag hD)))
end
structure WC(K:PySem.W.Frag)(mg:Str->Option Value)(C:Addr):Prop where
 cl:lL K C
 nP:dE K C "kept_places"
 nT:dE K C "kept_ties"
 QZ:mg "Web" = some (.ref C)
def wf(kp kt:Addr):List (Str×V):=[("kept_places",.ref kp),("kept_ties",.ref kt)]
def bq(C:Addr)(H:Hp)(x:Addr)(ns:List Str)(ps:List (Str×Str)):Prop:=
 ∃dx kp kt ts,H x=some (.ins C dx (wf kp kt))/\H kp=some (.tup ((aK ns).map V.str))/\H kt=some (.tup (ts.map V.ref))/\aV H ts ps
theorem bq.same{C:Addr}{H H':Hp}{x:Addr}{ns:List Str}{ps:List (Str×Str)}(h:bq C H x ns ps)(s:av H H'):bq C H' x ns ps:=
 let ⟨dx,kp,kt,ts,h1,h2,h3,h4⟩:=h
 ⟨dx,kp,kt,ts,s _ _ h1,s _ _ h2,s _ _ h3,h4.same s⟩
theorem bq.but{C p:Addr}{H H':Hp}{x:Addr}{ns:List Str}{ps:List (Str×Str)}{xs:List V}(h:bq C H x ns ps)(s:bM p H H')(hp:H p=some (.lst xs)):bq C H' x ns ps:=
 let ⟨dx,kp,kt,ts,h1,h2,h3,h4⟩:=h
 ⟨dx,kp,kt,ts,s _ _ h1 (eG h1 hp (by intro z;cases z)),s _ _ h2 (eG h2 hp (by intro z;cases z)),s _ _ h3 (eG h3 hp (by intro z;cases z)),h4.but s (λys z=>by rw[hp] at z;cases z)⟩
theorem Uw(kp kt:Addr):(wf kp kt).lookup ("kept_places" : Str)=some (V.ref kp):=rfl
theorem vR(kp kt:Addr):(wf kp kt).lookup ("kept_ties" : Str)=some (V.ref kt):=by
 show List.lookup _ (_::_)=_
 rw[aaW,show(("kept_ties" : Str)=="kept_places")=false by decide +kernel];rfl
theorem Pe(kp kt:Addr)(m:Str)(h1:(m==("kept_places" : Str))=false)(h2:(m==("kept_ties" : Str))=false):(wf kp kt).lookup m=none:=by
 show List.lookup _ (_::_)=_
 rw[aaW,h1];show List.lookup _ (_::_)=_
 rw[aaW,h2];rfl
section
variable {P:Program}{w:World}{K:PySem.W.Frag}{mg:Str->Option Value}{base:Heap}
structure Lists(H:Hp)(a b:Addr)(ns:List Str)(ps:List (Str×Str))(ts:List Addr):Prop where
 ha:H a=some (.lst (ns.map V.str))
 hb:H b=some (.lst (ts.map V.ref))
 hT:aV H ts ps
 good:nj ns
 ins:fb ns ps
 aJ:ps.length<=30
theorem Lists.same{H H':Hp}{a b:Addr}{ns:List Str}{ps:List (Str×Str)}{ts:List Addr}(h:Lists H a b ns ps ts)(s:av H H'):Lists H' a b ns ps ts:=⟨s _ _ h.ha,s _ _ h.hb,h.hT.same s,h.good,h.ins,h.aJ⟩
def p7(C:Addr):Sp:=λvs H Q _=>∃(x a b:Addr) (ns:List Str) (ps:List (Str×Str)) (ts:List Addr),vs=[.ref x,.ref a,.ref b]/\(∃dx,H x=some (.ins C dx []))/\Lists H a b ns ps ts/\∀H',bq C H' x ns ps->bM x H H'->Q .aN H'
theorem Ux:aF ["self","places","ties"] ["self","places","ties"] (ao p6):=⟨rfl,rfl,rfl,by decide +kernel,rfl,by decide +kernel,by decide +kernel⟩
theorem IS{C f fN fA fT f1 f2:Addr}{fd jv tP fc G6 G7:FuncData}(F:aX K "__init__" "Web.__init__" p6 f fd)(W:WC K mg C)(DN:Df K mg "is_name" ku ["thing"] fN jv)(DA:Df K mg "is_among" i7 ["places","thing"] fA tP)(DT:Df K mg "is_tie" rh ["places","thing"] fT fc)
  (D1:Df K mg "check_places" m6 ["places"] f1 G6) (D2:Df K mg "check_ties" m8 ["places","ties"] f2 G7) (T:bK mg):ak P w K mg base aD 4 f fd ["self","places","ties"] (p7 C):=by
 have G1:ak P w K mg base aD 2 f1 G6 ["places"] Cv:=IP D1.fn DN T;have G2:ak P w K mg base aD 3 f2 G7 ["places","ties"] Cw:=IQ D2.fn DA DT T;refine F.ok Ux (λvs H Q E h=>?_) (λcdv A outer s H vs Q E hr h=>?_)
 ·obtain⟨x,a,b,ns,ps,ts,rfl,_⟩:=h;rfl
 ·obtain⟨x,a,b,ns,ps,ts,rfl,⟨dx,hx⟩,L,k⟩:=h;refine⟨_,aj (cb (aw G1 (hr.mono (by decide)) rfl D1.aO D1.fn.kp D1.b .nil aA (aa (pv 1) ae)))
   (aj (cb (aw G2 (hr.mono (by decide)) rfl D2.aO D2.fn.kp D2.b .nil aA (aa (pv 1) (aa (pv 2) ae))))
   (aj (BQ (pv 0) (bD dv (by rfl) T.tuple aa4 (aa (ay p5 (by rfl) T.sorted acK (aa (pv 1) ae)) ae)) rfl)
   (ai (BQ (pv 0) (bD dv (by rfl) T.tuple aa4 (aa (cV ["a","b"] [] rfl (bQ (osc:=(ao p6).names) (N:=["self","places","ties"]) rfl rfl (by decide +kernel)) (vD (k:=2) (by decide) (by decide)) (bh (pv 2))
    (λ_ _ _=>ir (n:=2) rfl (bU (aI (i:=0) (show(["a","b"]:List Str).Nodup by decide +kernel) rfl (Or.inl rfl)) (bU (aI (i:=1) (show(["a","b"]:List Str).Nodup by decide +kernel) rfl (Or.inl rfl)) gf))) (λ_ _ _=>bT)
    (λ_ _ _=>cK (aa (pv 0) (aa (pv 1) ae)))) ae)) rfl)))),?_⟩
  try rw[bu]
  refine⟨_,rfl,a,ns,rfl,L.ha,L.good,λH1 s1=>?_⟩;have L1:=L.same s1;refine⟨_,rfl,_,rfl,a,b,ns,ts,ps,rfl,L1.ha,L1.hb,L1.hT,L1.ins,L1.aJ,λH2 s2=>?_⟩;have Wr:=L1.same s2;refine⟨_,rfl,a,ns,rfl,ar.of Wr.ha,abp L.good.aJ (by decide),λl hl=>?_⟩;refine⟨l,_,rfl,.inl ⟨ar.of af,λkp Ws=>?_⟩⟩;have s3:av H2 (upd (upd H2 l (.lst ((aK ns).map V.str))) kp (.tup ((aK ns).map V.str))):=(ag hl).trans (ag Ws);have s03:=(s1.trans s2).trans s3;have EX:=af (H:=upd H2 l (.lst ((aK ns).map V.str))) (a:=kp) (o:=.tup ((aK ns).map V.str));generalize upd (upd H2 l (.lst ((aK ns).map V.str))) kp (.tup ((aK ns).map V.str))=H3 at s3 s03 EX⊢;have Cy:=s03 _ _ hx;refine⟨_,rfl,x,C,dx,_,rfl,Cy,W.cl,W.nP,(by show 0<1000;decide),?_⟩;have L3:=L.same s03;have Wu:a≠x:=eG L3.ha Cy (by intro z;cases z);have Wv:b≠x:=eG L3.hb Cy (by intro z;cases z);have Ww:kp≠x:=eG EX Cy (by intro z;cases z);have L4:Lists (upd H3 x (.ins C dx (df "kept_places" (.ref kp) []))) a b ns ps ts:=⟨by rw[aq Wu];exact L3.ha,by rw[aq Wv];exact L3.hb,L3.hT.mono λt xs e=>by rw[aq (eG e Cy (by intro z;cases z))];exact e,L.good,L.ins,L.aJ⟩
  have b4:bM x H (upd H3 x (.ins C dx (df "kept_places" (.ref kp) []))):=λc o e n=>by rw[aq n];exact s03 _ _ e
  have Q0:=af (H:=H3) (a:=x) (o:=.ins C dx (df "kept_places" (.ref kp) []));have EY:(upd H3 x (.ins C dx (df "kept_places" (.ref kp) []))) kp=some (.tup ((aK ns).map V.str)):=by rw[aq Ww];exact EX
  generalize upd H3 x (.ins C dx (df "kept_places" (.ref kp) []))=H4 at L4 b4 Q0 EY⊢;have le:(ts.map V.ref).length=ps.length:=by rw[aaa,L.hT.len]
  refine⟨_,rfl,b,rfl,⟨_,ar.of L4.hb⟩,cu (K:=K) (xs:=ts.map V.ref) (λi ys H5=>av H4 H5/\∃us:List Addr,ys=us.map V.ref/\us.length=i/\aV H5 us (ps.take i)) ⟨av.refl _,[],rfl,rfl,.nil⟩ ?_ ?_ ?_ ?_⟩
  ·rintro i ys H5 hi ⟨_,us,rfl,e,_⟩;rw[aaa,e];rw[le] at hi;exact aam hi (aam L.aJ (by decide))
  ·rintro i ys H5 _ ⟨s5,_⟩;exact ar.of (s5 _ _ L4.hb)
  ·rintro i y ys H5 R hy ⟨s5,us,rfl,e,hU⟩ kR;rw[aan] at hy;obtain⟨t,et,rfl⟩:=aap.mp hy;obtain⟨p,ep,ht⟩:=L4.hT.get et;refine⟨t,_,rfl,aZ.of (s5 _ _ ht),rfl,_,_,rfl,_,_,rfl,rfl,?_⟩;simp only[dN,aa3];refine⟨_,rfl,_,rfl,(by show 2<=sizeLine;decide),λu hu=>?_⟩;have e2:us.map V.ref++[V.ref u]=(us++[u]).map V.ref:=by simp
   refine kR _ _ ⟨s5.trans (ag hu),us++[u],e2,by simp[e],?_⟩;rw[aaC,ep];exact(hU.same (ag hu)).snoc af
  ·rintro ys H5 ⟨s5,us,rfl,e,hU⟩ D hD;rw[le,aaR (aac _)] at hU;refine⟨D,_,rfl,.inl ⟨ar.of af,λkt Q1=>?_⟩⟩;have s6:av H4 (upd (upd H5 D (.lst (us.map V.ref))) kt (.tup (us.map V.ref))):=s5.trans ((ag hD).trans (ag Q1));have Q2:=hU.same ((ag (o:=.lst (us.map V.ref)) hD).trans (ag (o:=.tup (us.map V.ref)) Q1));have EZ:=af (H:=upd H5 D (.lst (us.map V.ref))) (a:=kt) (o:=.tup (us.map V.ref));generalize upd (upd H5 D (.lst (us.map V.ref))) kt (.tup (us.map V.ref))=H6 at s6 Q2 EZ⊢;have G8:=s6 _ _ Q0;refine⟨_,rfl,x,C,dx,_,rfl,G8,W.cl,W.nT,(by show 1<1000;decide),?_⟩;refine k _ ⟨dx,kp,kt,us,?_,?_,?_,?_⟩ λc o e n=>?_
   ·rw[af];show some (HO.ins C dx (df "kept_ties" (.ref kt) (df "kept_places" (.ref kp) [])))=_
    rfl
   ·rw[aq (eG (s6 _ _ EY) G8 (by intro z;cases z))];exact s6 _ _ EY
   ·rw[aq (eG EZ G8 (by intro z;cases z))];exact EZ
   ·exact Q2.mono λt xs e=>by rw[aq (eG e G8 (by intro z;cases z))];exact e
   ·rw[aq n];exact s6 _ _ (b4 c o e n)
def vS(C:Addr):Sp:=λvs H Q _=>∃(x:Addr) (ns:List Str) (ps:List (Str×Str)),vs=[.ref x]/\bq C H x ns ps/\∀l,H l=none->Q (.ref l) (upd H l (.lst ((aK ns).map V.str)))
theorem Uy:aF ["self"] ["self"] (ao m9):=⟨rfl,rfl,rfl,by decide +kernel,rfl,by decide +kernel,by decide +kernel⟩
theorem jw{C f:Addr}{fd:FuncData}(F:aX K "places" "Web.places" m9 f fd)(W:WC K mg C)(T:bK mg):ak P w K mg base aD 1 f fd ["self"] (vS C):=by
 refine F.ok Uy (λvs H Q E h=>?_) (λcdv A outer s H vs Q E hr h=>?_)
 ·obtain⟨x,ns,ps,rfl,_⟩:=h;rfl
 ·obtain⟨x,ns,ps,rfl,⟨dx,kp,kt,ts,h1,h2,h3,h4⟩,k⟩:=h;refine⟨_,ai (aB (bD di (by rfl) T.list aaS (aa (lM (pv 0) rfl) ae))),?_⟩;try rw[bu]
  exact⟨_,rfl,x,C,dx,_,_,rfl,h1,W.cl,W.nP,Uw kp kt,kp,_,rfl,.inr (aZ.of h2),k⟩
def E2(C:Addr):Sp:=λvs H Q _=>∃(x:Addr) (ns:List Str) (ps:List (Str×Str)),vs=[.ref x]/\bq C H x ns ps/\∀l us,H l=none->aV H us ps->Q (.ref l) (upd H l (.lst (us.map V.ref)))
theorem Uz:aF ["self"] ["self"] (ao uP):=⟨rfl,rfl,rfl,by decide +kernel,rfl,by decide +kernel,by decide +kernel⟩
theorem y0{C f:Addr}{fd:FuncData}(F:aX K "ties" "Web.ties" uP f fd)(W:WC K mg C)(T:bK mg):ak P w K mg base aD 1 f fd ["self"] (E2 C):=by
 refine F.ok Uz (λvs H Q E h=>?_) (λcdv A outer s H vs Q E hr h=>?_)
 ·obtain⟨x,ns,ps,rfl,_⟩:=h;rfl
 ·obtain⟨x,ns,ps,rfl,⟨dx,kp,kt,ts,h1,h2,h3,h4⟩,k⟩:=h;refine⟨_,ai (aB (bD di (by rfl) T.list aaS (aa (lM (pv 0) rfl) ae))),?_⟩;try rw[bu]
  exact⟨_,rfl,x,C,dx,_,_,rfl,h1,W.cl,W.nT,vR kp kt,kt,_,rfl,.inr (aZ.of h3),λl hl=>k l ts hl h4⟩
def E3(C:Addr):Sp:=λvs H Q _=>∃(x:Addr) (ns:List Str) (ps:List (Str×Str)),vs=[.ref x]/\bq C H x ns ps/\Q (.int ps.length) H
theorem UA:aF ["self"] ["self"] (ao uN):=⟨rfl,rfl,rfl,by decide +kernel,rfl,by decide +kernel,by decide +kernel⟩
theorem y3{C f:Addr}{fd:FuncData}(F:aX K "many" "Web.many" uN f fd)(W:WC K mg C)(T:bK mg):ak P w K mg base aD 1 f fd ["self"] (E3 C):=by
 refine F.ok UA (λvs H Q E h=>?_) (λcdv A outer s H vs Q E hr h=>?_)
 ·obtain⟨x,ns,ps,rfl,_⟩:=h;rfl
 ·obtain⟨x,ns,ps,rfl,⟨dx,kp,kt,ts,h1,h2,h3,h4⟩,k⟩:=h;refine⟨_,ai (aB (ay aE (by rfl) T.len aav (aa (lM (pv 0) rfl) ae))),?_⟩;try rw[bu]
  refine⟨_,rfl,x,C,dx,_,_,rfl,h1,W.cl,W.nT,vR kp kt,kt,_,rfl,.inr (aZ.of h3),?_⟩;rw[aaa,h4.len];exact k
structure Ex(K:PySem.W.Frag)(mg:Str->Option Value)(x:Str)(C:Addr):Prop where
 b:mg x=some (.ref C)
 bm:∃Bn newId d8 bm,PySem.W.excIn K C bm newId=true/\ExcBaseFacts Bn newId d8 bm
def vT(C E1:Addr):Sp:=λvs H Q R=>∃(x:Addr) (ns:List Str) (ps:List (Str×Str)) (y:V),vs=[.ref x,y]/\bq C H x ns ps /\
 ((∃(i:Nat) (p:Str×Str),y=.int i/\ps[i]?=some p/\∀t,H t=some (.tup [.str p.1,.str p.2])->Q (.ref t) H) \/
 (∃t b1 b2,cn K H y t/\PySem.W.kitOne K t (.type "int")=some b1/\PySem.W.kitOne K t (.type "bool")=some b2/\((b1&&!b2)=false\/((b1&&!b2)=true/\∃i:Int,y=.int i/\(i<0\/(ps.length:Int)<=i)))/\R (.ref E1) none H))
theorem UB:aF ["self","k"] ["self","k"] (ao uO):=⟨rfl,rfl,rfl,by decide +kernel,rfl,by decide +kernel,by decide +kernel⟩
theorem y4{C E1 f fW:Addr}{fd Q3:FuncData}(F:aX K "tie" "Web.tie" uO f fd)(W:WC K mg C)(DW:Df K mg "is_whole" lV ["thing"] fW Q3)(X1:Ex K mg "NoTie" E1)(T:bK mg):ak P w K mg base (jS P w) 2 f fd ["self","k"] (vT (K:=K) C E1):=by
 have GW:ak P w K mg base aD 1 fW Q3 ["thing"] (ng (K:=K)):=oQ DW.fn T;refine F.QX UB (λvs H Q E h=>?_) (λcdv A outer s H vs Q E hr h=>?_)
 ·obtain⟨x,ns,ps,y,rfl,_⟩:=h;rfl
 ·obtain⟨x,ns,ps,y,rfl,⟨dx,kp,kt,ts,h1,h2,h3,h4⟩,h⟩:=h;obtain⟨Bn,newId,d8,bm,q,FB⟩:=X1.bm;refine⟨_,aj (ba (PW.pt (dA (bp (bg (aw GW hr rfl DW.aO DW.fn.kp DW.b .nil aA (aa (pv 1) ae)) (λ_=>rfl)))
    (de (bp (kg kf ic ax (pv 1) (ay aE (by rfl) T.len aav (aa (lM (pv 0) rfl) ae))))))) (ai (vK rfl X1.b q FB (aa dc ae))) aR)
   (ai (aB (aY cL (lM (pv 0) rfl) (pv 1) (λ_ _=>rfl)))),?_⟩
  try rw[bu]
  rcases h with⟨i,p,rfl,ep,k⟩|⟨t,b1,b2,ty,e1,e2,no,k⟩
  ·have hi:i<ps.length:=(aaB.mp ep).1;refine⟨_,rfl,_,_,true,false,rfl,.int _,rfl,rfl,_,rfl,?_⟩;refine aP ⟨_,rfl,_,_,rfl,rfl,_,rfl,?_⟩;refine cS (λ_=>?_) (λz=>absurd z (by simp));refine⟨_,rfl,x,C,dx,_,_,rfl,h1,W.cl,W.nT,vR kp kt,kt,_,rfl,.inr (aZ.of h3),_,_,rfl,rfl,_,rfl,?_⟩;rw[aaa,h4.len];refine cS (λz=>absurd z (by simp;omega)) (λ_=>?_);have hit:i<ts.length:=by rw[h4.len];exact hi
   obtain⟨p',gS,ht⟩:=h4.get (aad hit);rw[ep] at gS;cases gS;exact⟨_,rfl,x,C,dx,_,_,rfl,h1,W.cl,W.nT,vR kp kt,_,rfl,kt,_,_,_,rfl,rfl,aZ.of h3,aQ (j:=i) (v:=.ref ts[i]) (by rw[aan,aad hit];rfl),k _ ht⟩
  ·refine⟨_,rfl,y,t,b1,b2,rfl,ty,e1,e2,_,rfl,?_⟩;have fin:Ck E1 (uJ (tC (.str "it is no number of a tie of the web")) As) E {nx:=λ_ H'=>Q .aN H',rt:=Q} (start ["self","k"] [.ref x,y]) H:=⟨by decide,k⟩
   rcases no with no|⟨no,i,rfl,Zv⟩
   ·rw[no];exact bt fin
   ·rw[no];refine aP ⟨_,rfl,_,_,rfl,rfl,_,rfl,?_⟩;refine cS (λz=>?_) (λ_=>⟨_,rfl,bt fin⟩);refine⟨_,rfl,x,C,dx,_,_,rfl,h1,W.cl,W.nT,vR kp kt,kt,_,rfl,.inr (aZ.of h3),_,_,rfl,rfl,_,rfl,?_⟩;rw[aaa,h4.len];refine cS (λ_=>fin) (λz2=>?_);have a1:0<=i:=by simpa using z
    have a2:i<ps.length:=by simpa using z2
    omega
end
end dO
namespace L2
open PySem PySem.Spec PyProof.Rows
theorem Cz{z:Str}{own:List Str}{fr:List Nat}{g:TG}{tt:TT}{te:TE}{σ:St}{Q:VK}{H:Hp}(Pv:Nat->List V->Hp->Prop)(h0:Pv 0 [] H)(hlen:∀i ys H,i<=z.cps.size->Pv i ys H->ys.length<=sizeLine)
  (hs:∀i c ys H (R:List V->Hp->Prop),z.cps[i]?=some c->Pv i ys H->(∀dF H',Pv (i+1) dF H'->R dF H')->g (.str ⟨#[c]⟩) (dS own fr σ) H λσ4 H4=>tt σ4 H4 λb H5=>if b=true then te σ4 H5 λy H6=>R (ys++[y]) H6 else R ys H5)
  (hd:∀ys H,Pv z.cps.size ys H->∀D,H D=none->Q (.ref D) (upd H D (.lst ys))):gJ own fr g tt te σ Q (Cd z) H:=by
 refine⟨λi m ys H=>m=z.cps.size-i/\i<=z.cps.size/\Pv i ys H,⟨z.cps.size,rfl,aaG _,h0⟩,?_⟩;rintro i m ys H2 ⟨rfl,hi,p⟩;refine⟨hlen i ys H2 hi p,?_⟩;by_cases h:i<z.cps.size
 ·refine .inr ⟨h,λx H3 hy=>?_⟩;obtain⟨rfl,c,hc,rfl⟩:=hy;exact hs i c ys _ (λdF H'=>∃m',m'<z.cps.size-i/\(m'=z.cps.size-(i+1)/\i+1<=z.cps.size/\Pv (i+1) dF H')) hc p λdF H' q=>⟨z.cps.size-(i+1),by omega,rfl,h,q⟩
 ·have e:i=z.cps.size:=by omega
  subst e;exact .inl ⟨rfl,hd ys H2 p⟩
abbrev one(c:Nat):Str:=⟨#[c]⟩
theorem tQ:∀(cs:List Nat) (acc:Array Nat),((cs.map one).foldl (λacc p=>acc++("" : Str).cps++p.cps) acc).toList=acc.toList++cs
 |[],acc=>by simp
 |c::cs,acc=>by
  have e:("" : Str).cps=#[]:=by decide +kernel
  rw[aaE,abY,tQ cs,e];simp
theorem join_ones{cs:List Nat}(h:cs≠[]):(Txt.join "" (cs.map one)).cps.toList=cs:=by
 cases cs with
 |nil=>exact absurd rfl h
 |cons c r=>
  show((r.map one).foldl (λacc p=>acc++("" : Str).cps++p.cps) (one c).cps).toList=_
  rw[tQ];rfl
theorem IT{α:Type}{xs:List α}{i:Int}{v:α}(h:iM xs i=some v):v∈xs:=by unfold iM at h;obtain⟨j,_,e⟩:=Option.bind_eq_some_iff.mp h;exact aak e
end L2
namespace dO
open PySem PySem.Spec PyProof.Rows L2
abbrev fw:Str:="abcdefghijklmnopqrstuvwxyz"
theorem CA:∀c∈fw.cps.toList,(lo c&&hi c)=true:=by decide +kernel
theorem G9{z:Str}{cs:List Nat}(e:z.cps.toList=cs)(h1:1<=cs.length)(h8:cs.length<=8)(h:∀c∈cs,(lo c&&hi c)=true):nm z=true:=by
 have l:z.length=cs.length:=by rw[<-e];exact aau.symm
 unfold nm;rw[l,decide_eq_true h1,decide_eq_true h8,e];simp only[Bool.and_self,ab6,acu,abF];exact λc hc=>h c hc
section
variable {P:Program}{w:World}{K:PySem.W.Frag}{mg:Str->Option Value}{base:Heap}
theorem bM.lists{p:Addr}{H H':Hp}{a b:Addr}{ns:List Str}{ps:List (Str×Str)}{ts:List Addr}(h:Lists H a b ns ps ts)(s:bM p H H')(hp:∃xs,H p=some (.lst xs))(na:a≠p)(nb:b≠p):Lists H' a b ns ps ts:=
 ⟨s _ _ h.ha na,s _ _ h.hb nb,h.hT.but s (λys z=>by obtain⟨xs,e⟩:=hp;rw[e] at z;cases z),h.good,h.ins,h.aJ⟩
theorem Row.lst{H:Hp}{p:Addr}(h:Row H p):∃xs,H p=some (.lst xs):=let ⟨a,b,e⟩:=h;⟨_,e⟩
theorem Row.aq{H:Hp}{p q:Addr}{o:HO}(h:Row H p)(n:p≠q):Row (upd H q o) p:=let ⟨a,b,e⟩:=h;⟨a,b,by rw[L2.aq n];exact e⟩
theorem bM.cR{p q:Addr}{H H1:Hp}{o:HO}(a:bM p H H1)(hq:H q=none):bM p H (upd H1 q o):=λc u e n=>by rw[L2.aq (au e hq)];exact a c u e n
end
abbrev fJ:Stmt:=top 46 -- Q4
theorem low{A:Around}{k:Nat}(n:Nat)(hr:bW k A)(h:n<=63:=by decide):A.units+n+1<cLine:=by have:=hr.units;omega
theorem av.cR{H H1:Hp}{q:Addr}{o:HO}(s:av H H1)(hq:H q=none):av H (upd H1 q o):=λb u e=>by rw[L2.aq (au e hq)];exact s b u e
theorem av.but{H H1 H2:Hp}{p:Addr}(s:av H H1)(b:bM p H1 H2)(hp:H p=none):av H H2:=λc u e=>b c u (s c u e) (au e hp)
theorem bM.none{p t:Addr}{H H':Hp}(b:bM p H H')(ht:H' t=none)(n:t≠p):H t=none:=by
 cases e:H t with
 |none=>rfl
 |some o=>exact absurd (b _ _ e n) (by rw[ht];intro z;cases z)
section
variable {P:Program}{w:World}{K:PySem.W.Frag}{mg:Str->Option Value}{base:Heap}
theorem IU{H:Hp}{Q:VK}(k:∀(p:Addr) (H':Hp),H p=none->Row H' p->av H H'->Q (.ref p) H')(a b:Int)(p:Addr)(hp:H p=none):Q (.ref p) (upd H p (.lst [.int a,.int b])):=
 k p _ hp ⟨a,b,af⟩ λc o e=>by rw[aq (au e hp)];exact e
abbrev Wx:List Str:=["_law_pot_here","_law_many","_law_digit"]
theorem Ld:aF Wx ["_law_pot_here","_law_many"] (ao fJ):=⟨rfl,rfl,rfl,by decide +kernel,rfl,by decide +kernel,by decide +kernel⟩
theorem gw{f:Addr}{fd:FuncData}(F:aX K "_law_draw" "_law_draw" fJ f fd)(T:bK mg):ak P w K mg base aD 1 f fd ["_law_pot_here","_law_many"] gM:=by
 refine F.ok Ld (λvs H Q E h=>?_) (λcdv A outer s H vs Q E hr h=>?_)
 ·obtain⟨p,m,rfl,_⟩:=h;rfl
 ·obtain⟨p,m,rfl,⟨a,b,hp⟩,m0,m1,k⟩:=h;refine⟨_,aj (ba (aS mV (aY bj (pv 0) ax (λ_ _=>rfl)) ax (aU _))
   (aj (vc (ay vQ (by rfl) T.divmod af5 (aa (aY bj (pv 0) ax (λ_ _=>rfl)) (aa (pv 1) ae)))
    (ir rfl (bU (BH (pv 0) ax set_list) (bU (aI (i:=2) Ld.nd rfl (Or.inl rfl)) gf)))) (ai (aB (pv 2)))) aR)
   (aj (vc (bo lI (bo eO (bo pL (aY bj (pv 0) ax (λ_ _=>rfl)) ax) ax) ax) (BH (pv 0) ax set_list))
   (ai (aB (bo lI (bo Ir (bo lI (bo pL (aY bj (pv 0) ax (λ_ _=>rfl)) (aY bj (pv 0) ax (λ_ _=>rfl))) ax) ax) (pv 1))))),?_⟩
  try rw[bu]
  refine⟨_,rfl,p,_,_,_,rfl,rfl,ar.of hp,aQ (j:=0) rfl,?_⟩;refine⟨_,_,rfl,rfl,_,rfl,?_⟩;refine cS (λha=>?_) (λha=>?_)
  ·refine⟨_,rfl,p,_,_,_,rfl,rfl,ar.of hp,aQ (j:=0) rfl,_,rfl,a,m,rfl,m0,m1,λt ht=>?_⟩;have G':p≠t:=au hp ht;refine⟨t,_,rfl,aZ.of af,rfl,_,_,rfl,_,rfl,p,_,_,0,rfl,rfl,(by rw[aq G'];exact hp),rfl,?_⟩;refine⟨_,_,rfl,rfl,_,rfl,?_⟩;refine k _ _ (ac5 _ (by omega)) (acw _ m0) ⟨_,_,af⟩ λc o e hc=>?_;rw[aq hc,aq (au e ht)];exact e
  ·refine⟨_,rfl,p,_,_,_,rfl,rfl,ar.of hp,aQ (j:=1) rfl,_,_,rfl,rfl,.inr ⟨by decide,by decide⟩,_,_,rfl,rfl,_,_,rfl,rfl,(by show(0:Int)<2147483647;decide),?_⟩;refine⟨_,rfl,p,_,_,1,rfl,rfl,hp,rfl,?_⟩;have c1:0<=(b*39373+101) % 2147483647:=ac5 _ (by decide);have c2:(b*39373+101) % 2147483647<2147483647:=acw _ (by decide);generalize (b*39373+101) % 2147483647=c at c1 c2⊢;refine⟨_,rfl,p,_,_,_,rfl,rfl,ar.of af,aQ (j:=1) rfl,_,rfl,p,_,_,_,rfl,rfl,ar.of af,aQ (j:=1) rfl,_,_,rfl,rfl,.inl ⟨by omega,by omega⟩,_,_,rfl,rfl,(by show(0:Int)<2147483629;decide),_,_,rfl,rfl,⟨by decide,by decide⟩,_,rfl,_,_,rfl,rfl,m0,?_⟩;refine k _ _ (ac5 _ (by omega)) (acw _ m0) ⟨_,_,af⟩ λc o e hc=>?_;rw[aq hc];exact e
end
end dO
namespace L2
open PySem PySem.Spec PyProof.Rows
inductive bP (ps:List (Str×Str)):Str->Str->Prop where
 |here (a:Str):bP ps a a
 |on {a b c:Str} (h:bP ps a b) (t:(b,c)∈ps):bP ps a c
theorem bP.trans{ps:List (Str×Str)}{a b c:Str}(h:bP ps a b)(k:bP ps b c):bP ps a c:=by
 induction k with
 |here=>exact h
 |on _ t ih=>exact ih.on t
theorem bP.one{ps:List (Str×Str)}{a b:Str}(t:(a,b)∈ps):bP ps a b:=(bP.here a).on t
theorem bP.mono{ps qs:List (Str×Str)}{a b:Str}(h:bP ps a b)(s:∀p∈ps,p∈qs):bP qs a b:=by
 induction h with
 |here=>exact .here _
 |on _ t ih=>exact ih.on (s _ t)
theorem bP.isin{ns:List Str}{ps:List (Str×Str)}(hi:∀p∈ps,p.1∈ns/\p.2∈ns){a b:Str}(h:bP ps a b)(ha:a∈ns):b∈ns:=by
 cases h with
 |here=>exact ha
 |on _ t=>exact(hi _ t).2
theorem bP.stays{ps:List (Str×Str)}{S:Str->Prop}{a b:Str}(h:bP ps a b)(ha:S a)(hc:∀p∈ps,S p.1->S p.2):S b:=by
 induction h with
 |here=>exact ha
 |on _ t ih=>exact hc _ t ih
open Classical in
noncomputable def cE(ns:List Str)(ps:List (Str×Str))(a:Str):List Str:=aK (ns.filter λz=>decide (bP ps a z))
theorem IV{α:Type}[DecidableEq α]:∀{l m:List α},l.Nodup->m.Nodup->(∀x,x∈l ↔ x∈m)->l.Perm m:=λhl hm h=>(adq hl hm).mpr h
theorem vU{l m:List Str}(hl:l.Nodup)(hm:m.Nodup)(h:∀x,x∈l ↔ x∈m):aK l=aK m:=
 lU ((eV l).trans (IV hl hm h)) (pZ l)
theorem bx{l:List Str}{x:Str}:x∈aK l ↔ x∈l:=(eV l).mem_iff
theorem eY{l:List Str}(h:l.Nodup):(aK l).Nodup:=(eV l).nodup_iff.mpr h
theorem vV{ns:List Str}{ps:List (Str×Str)}{a:Str}(h:ns.Nodup):(cE ns ps a).Nodup:=eY (h.filter _)
theorem cg{ns:List Str}{ps:List (Str×Str)}{a z:Str}:z∈cE ns ps a ↔ z∈ns/\bP ps a z:=by unfold cE;rw[bx,abm];simp
theorem IW{ns:List Str}{ps:List (Str×Str)}{a:Str}:(cE ns ps a).length<=ns.length:=by unfold cE;rw[cy];exact abh _ _
theorem CB{ns zs:List Str}{ps:List (Str×Str)}{a:Str}(hn:ns.Nodup)(hz:zs.Nodup)(hi:∀p∈ps,p.1∈ns/\p.2∈ns)(ha:a∈ns)(h:∀z,z∈zs ↔ bP ps a z):aK zs=cE ns ps a:=by refine vU hz (hn.filter _) λx=>?_;rw[h,abm];simp only[decide_eq_true_eq];exact⟨λr=>⟨r.isin hi ha,r⟩,λr=>r.2⟩
theorem y6(l:List Str):aK (aK l)=aK l:=(lU (eV (aK l) |>.trans (eV l)) (pZ (aK l)))
def outs(ps:List (Str×Str))(a:Str):List Str:=(ps.filter λp=>decide (p.1=a)).map (·.2)
theorem vW{ps:List (Str×Str)}{a b:Str}:b∈outs ps a ↔ (a,b)∈ps:=by
 unfold outs;rw[aaK];constructor
 ·rintro⟨p,hp,rfl⟩;obtain⟨h1,h2⟩:=abm.mp hp
  have:p.1=a:=by simpa using h2
  rw[<-this];exact h1
 ·intro h;exact⟨(a,b),abm.mpr ⟨h,by simp⟩,rfl⟩
theorem CC(ps:List (Str×Str))(p:Str×Str)(a:Str):outs (ps++[p]) a=if p.1=a then outs ps a++[p.2] else outs ps a:=by unfold outs;rw[abU,aaN];by_cases h:p.1=a<;>simp[h]
theorem E6(ps:List (Str×Str))(a:Str):(outs ps a).length<=ps.length:=by unfold outs;rw[aaa];exact abh _ _
theorem iR{l m:List Str}(hl:l.Nodup)(h:∀x∈l,x∈m):l.length<=m.length:=by
 induction l generalizing m with
 |nil=>exact aaG _
 |cons x l ih=>
  rw[aaT] at hl;have hx:=h x aal;have q:=ih (m:=m.erase x) hl.2 λy hy=>(aej (λe:y=x=>hl.1 (e▸hy))).mpr (h y (aae _ hy));rw[acx hx] at q
  have:0<m.length:=ab' hx
  simp only[aaH];omega
end L2
namespace dO
open PySem PySem.Spec PyProof.Rows L2
abbrev p9:Stmt:=top 44 -- Q5
abbrev vX:Stmt:=top 45 -- UC
abbrev jI:Stmt:=top 47 -- Pf
abbrev tR:Stmt:=top 48 -- Q6
abbrev vY:Stmt:=top 49 -- OM
section
variable {P:Program}{w:World}{K:PySem.W.Frag}{mg:Str->Option Value}{base:Heap}
def CD:Sp:=λvs H Q _=>∃(a:Addr) (ns:List Int) (k:Nat),vs=[.ref a,.int k]/\ar K H a (ns.map V.int)/\∀v:Int,Q (.int v) H
abbrev lW:List Str:=["_law_script","_law_k"]
theorem UD:aF lW lW (ao p9):=⟨rfl,rfl,rfl,by decide +kernel,rfl,by decide +kernel,by decide +kernel⟩
theorem IX{f:Addr}{fd:FuncData}(F:aX K "_law_cell" "_law_cell" p9 f fd)(T:bK mg):ak P w K mg base aD 1 f fd lW (CD (K:=K)):=by
 refine F.ok UD (λvs H Q E h=>?_) (λcdv A outer s H vs Q E hr h=>?_)
 ·obtain⟨a,ns,k,rfl,_⟩:=h;rfl
 ·obtain⟨a,ns,n,rfl,hS,k⟩:=h;refine⟨_,aj (ba (aS ic (pv 1) (ay aE (by rfl) T.len aav (aa (pv 0) ae)) (aU _)) (ai (aB (aY bj (pv 0) (pv 1) (λ_ _=>rfl)))) aR) (ai (aB ax)),?_⟩;try rw[bu]
  refine⟨_,rfl,_,rfl,a,_,rfl,.inl hS,_,_,rfl,rfl,_,rfl,?_⟩;refine cS (λhlt=>?_) (λ_=>k _);have UE:n<ns.length:=by simpa using hlt
  exact⟨_,rfl,_,rfl,a,_,_,_,rfl,rfl,hS,aQ (j:=n) (v:=.int ns[n]) (by simp[UE]),k _⟩
def Ha:Sp:=λvs H Q _=>∃(a:Addr) (ns:List Int) (k:Nat),vs=[.ref a,.int k]/\ar K H a (ns.map V.int)/\k<=1000/\∀(p:Addr) (H':Hp),H p=none->Row H' p->av H H'->Q (.ref p) H'
abbrev Wy:List Str:=["_law_script","_law_k","_law_cell_here"]
theorem Le:aF Wy lW (ao vX):=⟨rfl,rfl,rfl,by decide +kernel,rfl,by decide +kernel,by decide +kernel⟩
theorem Lf{f fC:Addr}{fd Q7:FuncData}(F:aX K "_law_pot" "_law_pot" vX f fd)(DC:Df K mg "_law_cell" p9 lW fC Q7)(T:bK mg)(ab:mg "abs" = none):ak P w K mg base aD 2 f fd lW (Ha (K:=K)):=by
 have GC:ak P w K mg base aD 1 fC Q7 lW (CD (K:=K)):=IX DC.fn T;refine F.ok Le (λvs H Q E h=>?_) (λcdv A outer s H vs Q E hr h=>?_)
 ·obtain⟨a,ns,k,rfl,_⟩:=h;rfl
 ·obtain⟨a,ns,n,rfl,hS,hl,k⟩:=h;refine⟨_,aj (aM (i:=2) Le.nd rfl (Or.inl rfl) (aw GC hr rfl DC.aO DC.fn.kp DC.b .nil aA (aa (pv 0) (aa (pv 1) ae))))
   (ai (aB (br (aa (ay (sP rfl) (by rfl) T.max boot_max (aa ax (aa (bo vj (pv 2) (bo Kv ax ax)) ae)))
    (aa (bo lI (bo eO (bo lI (ay EC (by rfl) ab aga (aa (pv 2) ae)) ax) (bo pL ax (bo eO (pv 1) ax))) ax) ae))))),?_⟩
  try rw[bu]
  refine⟨_,rfl,_,rfl,a,ns,n,rfl,hS,λv=>?_⟩;refine⟨_,rfl,_,_,rfl,rfl,⟨by decide,by decide,by decide⟩,_,_,rfl,rfl,_,_,rfl,?_⟩;refine⟨_,rfl,_,rfl,_,_,rfl,rfl,(by show(0:Int)<2147483629;decide),_,rfl,_,_,rfl,rfl,_,_,rfl,rfl,.inl ⟨by decide,by decide⟩,_,_,rfl,rfl,_,_,rfl,rfl,(by show(0:Int)<2147483629;decide),?_⟩;exact⟨(by show 2<=sizeLine;decide),IU k _ _⟩
def uQ:Sp:=λvs H Q _=>∃(p l:Addr) (xs:List V),vs=[.ref p,.ref l]/\Row H p/\l≠p/\H l=some (.lst xs)/\0<xs.length/\xs.length<=1000/\∀(i:Nat) v H',xs[i]?=some v->Row H' p->bM p H H'->Q v H'
abbrev jx:List Str:=["_law_pot_here","_law_some_here"]
theorem Hc:aF jx jx (ao jI):=⟨rfl,rfl,rfl,by decide +kernel,rfl,by decide +kernel,by decide +kernel⟩
theorem CF{f fD:Addr}{fd iw:FuncData}(F:aX K "_law_drawn" "_law_drawn" jI f fd)(D:Df K mg "_law_draw" fJ ["_law_pot_here","_law_many"] fD iw)(T:bK mg):ak P w K mg base aD 2 f fd jx uQ:=by
 have G:ak P w K mg base aD 1 fD iw ["_law_pot_here","_law_many"] gM:=gw D.fn T;refine F.ok Hc (λvs H Q E h=>?_) (λcdv A outer s H vs Q E hr h=>?_)
 ·obtain⟨p,l,xs,rfl,_⟩:=h;rfl
 ·obtain⟨p,l,xs,rfl,hp,tS,hl,x0,x1,k⟩:=h;refine⟨_,ai (aB (aY bj (pv 1) (aw G hr rfl D.aO D.fn.kp D.b .nil aA (aa (pv 0) (aa (ay aE (by rfl) T.len aav (aa (pv 1) ae)) ae))) (λ_ _=>rfl))),?_⟩;try rw[bu]
  refine⟨_,rfl,_,rfl,_,rfl,l,_,rfl,.inl (ar.of hl),p,_,rfl,hp,by omega,by omega,λd H1 d0 d1 r1 b1=>?_⟩;obtain⟨n,rfl⟩:=abe d0;have hn:n<xs.length:=by omega
  exact⟨l,_,_,xs[n],rfl,rfl,ar.of (b1 _ _ hl tS),aQ (j:=n) (aad hn),k n _ H1 (aad hn) r1 b1⟩
def Hd:Sp:=λvs H Q _=>∃(p:Addr) (z:Str),vs=[.ref p,.str z]/\Row H p/\0<z.length/\z.length<=1000/\∀c H',c∈z.cps.toList->Row H' p->bM p H H'->Q (.str ⟨#[c]⟩) H'
theorem Lg{f fD:Addr}{fd iw:FuncData}(F:aX K "_law_drawn" "_law_drawn" jI f fd)(D:Df K mg "_law_draw" fJ ["_law_pot_here","_law_many"] fD iw)(T:bK mg):ak P w K mg base aD 2 f fd jx Hd:=by
 have G:ak P w K mg base aD 1 fD iw ["_law_pot_here","_law_many"] gM:=gw D.fn T;refine F.ok Hc (λvs H Q E h=>?_) (λcdv A outer s H vs Q E hr h=>?_)
 ·obtain⟨p,z,rfl,_⟩:=h;rfl
 ·obtain⟨p,z,rfl,hp,z0,z1,k⟩:=h;have big:1000<=sizeLine:=by decide
  refine⟨_,ai (aB (aY KJ (pv 1) (aw G hr rfl D.aO D.fn.kp D.b .nil aA (aa (pv 0) (aa (ay lN (by rfl) T.len aav (aa (pv 1) ae)) ae))) (λ_ _=>rfl))),?_⟩;try rw[bu]
  refine⟨_,rfl,_,rfl,_,rfl,z,rfl,by omega,p,_,rfl,hp,by omega,by omega,λd H1 d0 d1 r1 b1=>?_⟩;obtain⟨c,hc⟩:=La (z:=z) d0 d1;exact⟨z,_,c,rfl,rfl,by omega,hc,k c H1 (IT hc) r1 b1⟩
theorem qa(z:Str)(h:z.length<=8):(Txt.slice z none (some 7)).length<=7:=by
 have l1:=ac2 z none (some 7);by_cases c:z.length<=7
 ·omega
 ·have e8:z.length=8:=by omega
  unfold Txt.slice;rw[e8];have e:((1:Int)==1&&(Builtin.Str.strSliceIndices none (some 7) 1 8).length==8)=false:=by decide +kernel
  rw[e,if_neg (by decide)];show(List.filterMap _ (Builtin.Str.strSliceIndices none (some 7) 1 8)).toArray.size<=7
  rw[aai];exact aam (adI _ _) (by decide +kernel)
theorem CG{z:Str}{l u:Option Int}{c:Nat}(h:c∈(Txt.slice z l u).cps.toList):c∈z.cps.toList:=by
 unfold Txt.slice at h;split at h
 ·exact h
 ·have h:c∈List.filterMap (λi=>z.cps[i]?) (Builtin.Str.strSliceIndices l u 1 z.length):=by simpa using h
  obtain⟨i,_,e⟩:=abG.mp h;exact aeg.mpr (Array.mem_of_getElem? e)
def dG(z:Str)(c:Nat):Str:=Txt.slice z none (some 7)++(⟨#[c]⟩:Str)
theorem vZ(z:Str)(c:Nat):(dG z c).cps.toList=(Txt.slice z none (some 7)).cps.toList++[c]:=by
 show((Txt.slice z none (some 7)).cps++#[c]).toList=_
 simp
theorem He{z:Str}(h:nm z=true):z.length<=8/\∀c∈z.cps.toList,(lo c&&hi c)=true:=by
 unfold nm at h;simp only[abk,decide_eq_true_eq] at h;refine⟨h.1.2,λc hc=>?_⟩
 have:=abF.mp h.2 _ (aaK.mpr ⟨c,hc,rfl⟩)
 exact this
theorem IY{z:Str}{c:Nat}(h:nm z=true)(hc:c∈fw.cps.toList):nm (dG z c)=true:=by
 obtain⟨l8,al⟩:=He h;have l7:=qa z l8;have Zw:(Txt.slice z none (some 7)).cps.toList.length<=7:=by rw[aau];exact l7
 refine G9 (vZ z c) (by simp) (by rw[aay];simp only[aaH,abJ];omega) λy hy=>?_;rcases aas.mp hy with q|q
 ·exact al y (CG q)
 ·rw[aaf.mp q];exact CA c hc
theorem E7{z:Str}{c d:Nat}(e:dG z c=dG z d):c=d:=by
 have:=congrArg (λs:Str=>s.cps.toList) e
 simp only[vZ] at this
 have:=List.append_cancel_left this
 simpa using this
theorem IZ:fw.cps.toList.Nodup:=by decide +kernel
theorem CH{z:Str}{ns:List Str}(aJ:ns.length<=12):(fw.cps.toList.filter λc=>!decide (dG z c∈ns))≠[]:=λe=>by
 have al:∀c∈fw.cps.toList,dG z c∈ns:=λc hc=>by
  apply aaF;intro no
  have:c∈fw.cps.toList.filter λc=>!decide (dG z c∈ns):=abm.mpr ⟨hc,by simpa using no⟩
  rw[e] at this;cases this
 have nd:(fw.cps.toList.map (dG z)).Nodup:=acd.mpr (IZ.imp λ{a b} h q=>h (E7 (z:=z) q))
 have:=iR nd (m:=ns) λy hy=>by obtain⟨c,hc,rfl⟩:=aaK.mp hy;exact al c hc
 rw[aaa] at this;have Zx:fw.cps.toList.length=26:=by decide +kernel
 omega
theorem Cz{z:Str}{own:List Str}{fr:List Nat}{g:TG}{tt:TT}{te:TE}{σ:L2.St}{Q:VK}{H:Hp}(Pv:Nat->List V->Hp->Prop)(h0:Pv 0 [] H)(hlen:∀i ys H,i<=z.cps.size->Pv i ys H->ys.length<=sizeLine)
  (hs:∀i c ys H (R:List V->Hp->Prop),z.cps.toList[i]?=some c->Pv i ys H->(∀dF H',Pv (i+1) dF H'->R dF H')->g (.str ⟨#[c]⟩) (dS own fr σ) H λσ4 H4=>tt σ4 H4 λb H5=>if b=true then te σ4 H5 λy H6=>R (ys++[y]) H6 else R ys H5)
  (hd:∀ys H,Pv z.cps.size ys H->∀D,H D=none->Q (.ref D) (upd H D (.lst ys))):gJ own fr g tt te σ Q (Cd z) H:=by
 refine⟨λi m ys H=>m=z.cps.size-i/\i<=z.cps.size/\Pv i ys H,⟨z.cps.size,rfl,aaG _,h0⟩,?_⟩;rintro i m ys H2 ⟨rfl,hi,p⟩;refine⟨hlen i ys H2 hi p,?_⟩;by_cases h:i<z.cps.size
 ·refine .inr ⟨h,λx H3 hy=>?_⟩;obtain⟨rfl,c,hc,rfl⟩:=hy;exact hs i c ys _ (λdF H'=>∃m',m'<z.cps.size-i/\(m'=z.cps.size-(i+1)/\i+1<=z.cps.size/\Pv (i+1) dF H')) (by simpa using hc) p λdF H' q=>⟨z.cps.size-(i+1),by omega,rfl,h,q⟩
 ·have e:i=z.cps.size:=by omega
  subst e;exact .inl ⟨rfl,hd ys H2 p⟩
def E8:Sp:=λvs H Q _=>∃(p q:Addr) (ns:List Str),vs=[.ref p,.ref q]/\Row H p/\q≠p/\H q=some (.lst (ns.map V.str))/\ns.length<=12/\∀(z:Str) (H':Hp),nm z=true->z∉ns->Row H' p->bM p H H'->Q (.str z) H'
abbrev Lh:List Str:=["_law_pot_here","_law_taken","_law_letters","_law_many","_law_name_here"]
abbrev wa:List Str:=["_law_pot_here","_law_taken"]
theorem wb:aF Lh wa (ao tR):=⟨rfl,rfl,rfl,by decide +kernel,rfl,by decide +kernel,by decide +kernel⟩
theorem Hf{f fD fN:Addr}{fd iw jv:FuncData}(F:aX K "_law_name" "_law_name" tR f fd)(D:Df K mg "_law_draw" fJ ["_law_pot_here","_law_many"] fD iw)(DN:Df K mg "_law_drawn" jI jx fN jv)(T:bK mg):ak P w K mg base aD 3 f fd wa E8:=by
 have G:ak P w K mg base aD 1 fD iw ["_law_pot_here","_law_many"] gM:=gw D.fn T;have GS:ak P w K mg base aD 2 fN jv jx Hd:=Lg DN.fn D T;refine F.ok wb (λvs H Q E h=>?_) (λcdv A outer s H vs Q E hr h=>?_)
 ·obtain⟨p,q,ns,rfl,_⟩:=h;rfl
 ·obtain⟨p,q,ns,rfl,hp,Wz,hq,aJ,k⟩:=h;have h1:=hr.mono (j:=1) (by decide);refine⟨_,aj (aM (i:=2) wb.nd rfl (Or.inr rfl) dc)
   (aj (aM (i:=3) wb.nd rfl (Or.inl rfl) (bo eO ax (bo pL (aw G h1 rfl D.aO D.fn.kp D.b .nil aA (aa (pv 0) (aa ax ae))) (aw G h1 rfl D.aO D.fn.kp D.b .nil aA (aa (pv 0) (aa ax ae))))))
   (aj (aM (i:=4) wb.nd rfl (Or.inr rfl) (ik PySem.F.plainAttrs_str PySem.F.slot_str_join PySem.F.type_str_join II dc (aa
    (cV ["_law_k"] [0,2] rfl (bQ (osc:=(ao tR).names) (N:=Lh) rfl rfl (by decide +kernel)) (bJ (by decide))
     (dB rfl T.range (aa (pv 3) ae))
     (λ_ _ _=>aI (i:=0) (show(["_law_k","_law_pot_here","_law_letters"]:List Str).Nodup by decide +kernel) rfl (Or.inl rfl)) (λ_ _ _=>bT)
     (λ_ _ _=>aw GS hr rfl DN.aO DN.fn.kp DN.b .nil aA (aa (pv 1) (aa (pv 2) ae)))) ae)))
   (aj (ba (aS eQ (pv 4) (pv 1) rfl)
    (ai (aM (i:=4) wb.nd rfl (Or.inr rfl) (aY bj (cV ["_law_sign"] [4,1] rfl (bQ (osc:=(ao tR).names) (N:=Lh) rfl rfl (by decide +kernel)) (bJ (by decide)) (Ce (pv 2))
     (λ_ _ _=>aI (i:=0) (show(["_law_sign","_law_name_here","_law_taken"]:List Str).Nodup by decide +kernel) rfl (Or.inl rfl))
     (λ_ _ _=>fR (aS (r:=yR K true) i5 (bo pO (kh Cf (pv 1) mW (jO ax)) (pv 0)) (pv 2) rfl))
     (λ_ _ _=>bo pO (kh Cf (pv 1) mW (jO ax)) (pv 0))) ax (λ_ _=>rfl)))) aR)
   (ai (aB (pv 4)))))),?_⟩
  try rw[bu]
  have big:1000<=sizeLine:=by decide
  refine⟨_,rfl,p,2,rfl,hp,by decide,by decide,λd1 H1 a1 b1 r1 WD=>?_⟩;refine⟨_,rfl,p,8,rfl,r1,by decide,by decide,λd2 H2 a2 b2 r2 WG=>?_⟩;have WJ:=WD.trans WG;have m0:0<=d1*d2:=Int.mul_nonneg a1 a2;have m7:d1*d2<=7:=by
   have:d1=0\/d1=1:=by omega
   rcases this with rfl|rfl<;>omega
  refine⟨_,_,rfl,rfl,.inl ⟨by omega,by omega⟩,_,_,rfl,rfl,?_⟩;refine⟨rfl,_,rfl,_,rfl,by omega,by omega,oP (λi ys H2=>Row H2 p/\bM p H H2/\∃cs:List Nat,ys=(cs.map one).map V.str/\cs.length=i/\∀c∈cs,(lo c&&hi c)=true) ⟨r2,WJ,[],rfl,rfl,λ_ h=>nomatch h⟩ ?_ ?_ ?_⟩
  ·rintro i ys H3 hi ⟨_,_,cs,rfl,hl,_⟩;rw[aaa,aaa,hl];exact aam hi (aam (show(1+d1*d2).toNat<=8 by omega) (by decide))
  ·rintro i ys H3 R hi ⟨jt,b2,cs,rfl,hl,h1⟩ kR;simp only[dN,bF,aa3];refine⟨_,rfl,_,rfl,p,fw,rfl,jt,by decide +kernel,by decide +kernel,λc H4 hc nX b3=>kR _ _ ⟨nX,b2.trans b3,cs++[c],by simp,by simp[hl],λy hy=>?_⟩⟩;rcases aas.mp hy with q|q
   ·exact h1 y q
   ·rw[aaf.mp q];exact CA c hc
  ·rintro ys H3 ⟨jt,b2,cs,rfl,hl,h1⟩ D0 vH;obtain⟨b3,nX⟩:=b2.laid (o:=.lst ((cs.map one).map V.str)) vH jt;have l1:1<=cs.length:=by rw[hl];omega
   have l8:cs.length<=8:=by rw[hl];omega
   have UG:((cs.map one).map (·.length)).sum+(cs.map one).length*("" : Str).length<=8:=by
    have e1:((cs.map one).map (·.length)).sum=cs.length:=by
     rw[abD];clear hl h1 l1 l8 b3 nX;induction cs with
     |nil=>rfl
     |cons c r ih=>rw[aaE,aeq,ih];show 1+_=_;simp;omega
    have:("" : Str).length=0:=by decide +kernel
    rw[e1,this];omega
   have hn:nm (Txt.join "" (cs.map one))=true:=G9 (join_ones (by intro e;rw[e] at l1;simp at l1)) l1 l8 h1;refine⟨"",D0,cs.map one,rfl,rfl,ar.of af,aam UG (by decide),?_⟩;generalize Txt.join "" (cs.map one)=z at hn⊢;generalize upd H3 D0 (.lst ((cs.map one).map V.str))=H4 at b3 nX⊢;have Q8:=b3 _ _ hq Wz;refine⟨_,rfl,_,rfl,q,_,rfl,.inl (ar.of Q8),rfl,cN ns,_,rfl,?_⟩;simp only[aaz,aa9];rw[e9];by_cases gK:z∈ns
   ·rw[decide_eq_true gK];have z8:=(He hn).1;have s8:(Txt.slice z none (some 7)).length+(⟨#[0]⟩:Str).length<=sizeLine:=aam (Nat.add_le_add (qa z z8) (by decide +kernel:(⟨#[0]⟩:Str).length<=1)) (by decide);refine bt ⟨_,rfl,fw,rfl,Cz (λi ys H5=>H5=H4/\ys=(((fw.cps.toList.take i).filter λc=>!decide (dG z c∈ns)).map (dG z)).map V.str) ⟨rfl,by simp⟩ ?_ ?_ ?_⟩
    ·rintro i ys H5 hi ⟨_,rfl⟩;rw[aaa,aaa];refine aam (abh _ _) ?_;rw[aaP]
     have:fw.cps.toList.length<=1000:=by decide +kernel
     omega
    ·rintro i c ys H5 R hc ⟨rfl,rfl⟩ kR;simp only[bF];have fin:(fw.cps.toList.take (i+1)).filter (λc=>!decide (dG z c∈ns))=(fw.cps.toList.take i).filter (λc=>!decide (dG z c∈ns))++(if dG z c∈ns then [] else [c]):=by
      rw[aaC,hc,abU];congr 1;rw[abV,ack];by_cases q:dG z c∈ns
      ·rw[if_pos q,if_neg (by simp[q])];rfl
      ·rw[if_neg q,if_pos (by simp[q])];rfl
     refine⟨_,rfl,_,rfl,z,rfl,by omega,_,rfl,_,_,rfl,rfl,s8,_,rfl,q,_,rfl,.inl (ar.of Q8),rfl,cN ns,_,rfl,?_⟩;simp only[aa3];rw[show Txt.slice z none (some 7)++(⟨#[c]⟩:Str)=dG z c from rfl,e9];by_cases qc:dG z c∈ns
     ·rw[decide_eq_true qc];refine aP (kR _ _ ⟨rfl,?_⟩);rw[fin,if_pos qc,abA]
     ·rw[aaA qc];refine bt ⟨_,rfl,_,rfl,z,rfl,by omega,_,rfl,_,_,rfl,rfl,s8,kR _ _ ⟨rfl,?_⟩⟩;rw[fin,if_neg qc,aaN,aaN];rfl
    ·rintro ys H5 ⟨rfl,rfl⟩ D5 WK;have tk:fw.cps.toList.take fw.cps.size=fw.cps.toList:=aaR (by simp);rw[tk];have left:=CH (z:=z) aJ;have Li:∀c∈fw.cps.toList.filter (λc=>!decide (dG z c∈ns)),c∈fw.cps.toList/\dG z c∉ns:=λc hc=>by
      have:=abm.mp hc
      exact⟨this.1,by simpa using this.2⟩
     obtain⟨b6,Q9⟩:=b3.laid (o:=.lst (((fw.cps.toList.filter λc=>!decide (dG z c∈ns)).map (dG z)).map V.str)) WK nX;generalize fw.cps.toList.filter (λc=>!decide (dG z c∈ns))=L at left Li b6 Q9⊢;obtain⟨c,L',rfl⟩:∃c L',L=c::L':=by
      cases L with
      |nil=>exact absurd rfl left
      |cons c L'=>exact⟨c,L',rfl⟩
     obtain⟨c1,c2⟩:=Li c aal;exact⟨D5,_,_,_,rfl,rfl,ar.of af,aQ (j:=0) rfl,_,rfl,k _ _ (IY hn c1) c2 Q9 b6⟩
   ·rw[aaA gK];exact aP ⟨_,rfl,k _ _ hn gK nX b3⟩
def Hg:Sp:=λvs H Q _=>∃(p:Addr) (m:Int),vs=[.ref p,.int m]/\0<m/\m<=12/\Row H p/\∀(q:Addr) (ns:List Str) (H':Hp),nj ns->(ns.length:Int)<=m->H q=none->H' q=some (.lst (ns.map V.str))->Row H' p->bM p H H'->Q (.ref q) H'
abbrev UH:List Str:=["_law_pot_here","_law_most","_law_found","_law_k"]
abbrev we:List Str:=["_law_pot_here","_law_most"]
theorem AF:aF UH we (ao vY):=⟨rfl,rfl,rfl,by decide +kernel,rfl,by decide +kernel,by decide +kernel⟩
theorem Lj{f fD fN fM:Addr}{fd iw jv gx:FuncData}(F:aX K "_law_places" "_law_places" vY f fd)(D:Df K mg "_law_draw" fJ ["_law_pot_here","_law_many"] fD iw)(DN:Df K mg "_law_drawn" jI jx fN jv)(DM:Df K mg "_law_name" tR wa fM gx)(T:bK mg):ak P w K mg base aD 4 f fd we Hg:=by
 have G:ak P w K mg base aD 1 fD iw ["_law_pot_here","_law_many"] gM:=gw D.fn T;have GN:ak P w K mg base aD 3 fM gx wa E8:=Hf DM.fn D DN T;refine F.ok AF (λvs H Q E h=>?_) (λcdv A outer s H vs Q E hr h=>?_)
 ·obtain⟨p,m,rfl,_⟩:=h;rfl
 ·obtain⟨p,m,rfl,m0,Zy,hp,k⟩:=h;have h1:=hr.mono (j:=1) (by decide);refine⟨_,aj (aM (i:=2) AF.nd rfl (Or.inl rfl) (br ae))
   (aj (cI aaX rfl (dB rfl T.range (aa (bo eO ax (aw G h1 rfl D.aO D.fn.kp D.b .nil aA (aa (pv 0) (aa (pv 1) ae)))) ae)) (aI (i:=3) AF.nd rfl (Or.inl rfl))
    (ai (cb (ik aa5 abr abt gn (pv 2) (aa (aw GN hr rfl DM.aO DM.fn.kp DM.b .nil aA (aa (pv 0) (aa (pv 2) ae))) ae)))))
   (ai (aB (pv 2)))),?_⟩
  try rw[bu]
  refine⟨(by decide),λq hq=>?_⟩;have CI:p≠q:=au hp.lst.choose_spec hq;refine⟨_,rfl,_,rfl,p,m,rfl,hp.aq CI,m0,by omega,λd1 H1 Zz ZA WL b1=>?_⟩;refine⟨_,_,rfl,rfl,_,rfl,by omega,by omega,?_⟩;have Lk:bM p H H1:=λc o e n=>b1 c o (by rw[L2.aq (au e hq)];exact e) n;refine dR (λi σ H2=>∃(v3:Option V) (ns:List Str),σ=[some (V.ref p),some (V.int m),some (V.ref q),v3]/\Row H2 p/\bM p H H2/\H2 q=some (.lst (ns.map V.str))/\ns.length=i/\(∀z∈ns,nm z=true)/\ns.Nodup) ⟨_,[],rfl,WL,Lk,b1 _ _ af (aaI CI),rfl,(λ_ z=>nomatch z),acg⟩ ?_ ?_
  ·rintro i σ H2 hi ⟨v3,ns,rfl,jt,b2,gW,hl,hn,nd⟩;refine⟨_,rfl,.inl ⟨rfl,_,ar.of gW⟩,_,rfl,_,rfl,p,q,ns,rfl,jt,aaI CI,gW,by omega,λz H3 hz gK nX b3=>?_⟩;have wg:=b3 _ _ gW (aaI CI);refine⟨q,_,_,rfl,rfl,wg,(by rw[aaa];exact eT (by omega)),?_⟩;refine⟨_,ns++[z],rfl,nX.aq CI,(b2.trans b3).cR hq,?_,by simp[hl],?_,g7 nd gK⟩
   ·rw[af];simp
   ·intro y hy;rcases aas.mp hy with h|h
    ·exact hn y h
    ·rw[aaf.mp h];exact hz
  ·rintro σ H2 ⟨v3,ns,rfl,jt,b2,gW,hl,hn,nd⟩;exact⟨_,rfl,k q ns H2 ⟨by omega,by omega,hn,nd⟩ (by omega) hq gW jt b2⟩
end
end dO
namespace L2
open PySem PySem.Spec PyProof.Rows
theorem wj:∀{us:List Value} {zs:List Str},us.length=zs.length->(∀(j:Nat) (u:Value),us[j]?=some u->∃z t,zs[j]?=some z/\u=.str z t)->StrsAre us zs
 |[],[],_,_=>.nil
 |[],_::_,h,_=>by simp at h
 |_::_,[],h,_=>by simp at h
 |u::us,z::zs,h,k=>by obtain⟨z',t,e1,e2⟩:=k 0 u rfl;cases e1;subst e2;exact .cons z t (wj (by simpa using h) λj w e=>by simpa using k (j+1) w (by simpa using e))
section
variable {prog:Program}{w:World}{A:Around}{E:Value->Shared->Prop}{s:Shared}
theorem tT{h:Heap}{tk:Nat}{us:List Value}{zs:List Str}{Q:Value->Shared->Prop}(hz:StrsAre us zs)(aJ:us.length<64)
  (q:∀(out:List Value) (n:Nat) (h2:Heap),StrsAre out (aK zs)->(∀b o,h.get? b=some o->h2.get? b=some o)->h2.get? h.objs.size=some {cls:=.type "list",data:=.seq out.toArray n}->Q (.ref h.objs.size) {s with heap:=h2,toks:=tk}) :
  wpAny (model prog w) A (call (.builtin "list.sort") [.ref h.objs.size]) (λ_ s'=>Q (.ref h.objs.size) s') E {s with heap:=h.push {cls:=.type "list",data:=.seq us.toArray},toks:=tk}:=by
 have qb:(h.push {cls:=.type "list",data:=.seq us.toArray}).get? h.objs.size=some (seqObj "list" us.toArray 0):=aaq _ rfl;refine wpAny_call_entry acL ⟨_,qb,rfl⟩ acD ?_ (args_list_sort _);refine list_sort_treeK strKind_oneLt qb hz.keysOf (λa b r e=>keyKind_strs (by rw[<-e];exact hz)) aJ λst p1 p2=>⟨_,rfl,?_⟩
 obtain⟨ss,c1,c2,c3⟩:=sorted_out_str hz p1 p2;have e:=lU c2 (tO ss c3);subst e;obtain⟨n,hn⟩:=afB (out:=(arrOf st).map (·.2)) qb;refine q _ n _ c1 (λb o eb=>?_) (by rw[hn]);have lt:b<h.objs.size:=aag eb;rw[afv (aar lt) (by rw[aa1];exact aa2 lt)];exact aab _ eb
end
theorem Inv.uR{X:Cx}{pins:List (Addr×Obj)}{σ:St}{H:Hp}{s:Shared}{h':Heap}{a:Addr}{o:HO}{t':Nat}(I:Inv X pins σ H s)(k:∀b u,s.heap.get? b=some u->h'.get? b=some u)(hp:s.heap.get? a=none)(hn:H a=none)(new:bc X.prog X.w (upd H a o) h' a o) :
  Inv X pins σ (upd H a o) {s with heap:=h',toks:=t' }:=by
 refine I.un ⟨λb u q _ _ _=>k b u q,λb u q _ _ _=>⟨u.slots,k b u q⟩,λb u q n _=>?_,λb u q _=>⟨u,k b u q⟩,λb xs q=>?_,λb u xs q=>?_,λb ps q=>⟨#[],?_⟩⟩ λb u e=>?_
 ·rw[aq (λz=>by rw[z,hp] at q;cases q)];exact n
 ·rw[aq (au q hn)];exact q
 ·rw[aq (au q hn)];exact q
 ·rw[aq (au q hn),q];simp
 ·by_cases hb:b=a
  ·subst hb;rw[af] at e;cases e;exact new
  ·rw[aq hb] at e;refine(I.aG b u e).fO (λc v _ q=>k c v q) (λc q=>?_) λc xs q=>?_
   ·rw[aq (au q hn)];exact q
   ·rw[aq (au q hn)];exact q
def E9(kvs:List (Key×V))(zs:List Str):Prop:=kvs.map (·.1)=zs.map Sum.inr
section
variable {X:Cx}
theorem rn(hc:X.calm=true):bV X (.builtin "sorted") (λxs H Q=>∃(p:Addr) (kvs:List (Key×V)) (zs:List Str),xs=[.ref p]/\H p=some (.dK kvs)/\E9 kvs zs/\zs.length<64/\∀l,H l=none->Q (.ref l) (upd H l (.lst ((aK zs).map V.str)))):=by
 rintro pins s σ H xs us Q I r ⟨p,kvs,zs,rfl,hp,hk,aJ,q⟩;obtain⟨u,rfl,rx⟩:=vals1 r;cases rx;obtain⟨z,lo,vs,rel,dd⟩:=Az I.aG hp;obtain⟨ep,da⟩:=dd.dictAt;have hl:vs.length=zs.length:=by rw[<-rel.length,<-aaa (f:=(·.1)),hk,aaa]
 refine ab1 ad0 adJ adK (args_sorted1 _) ?_;unfold Builtin.«sorted»;apply wpAny_bind (m:=checkCount "sorted" 1 1 _);apply wpAny_pure;apply wpAny_bind;refine PySem.W.kdu_collect (PySem.W.kdl_dict (knd:=bL X.prog X.w) (kvs:=vs) (ep:=ep) lo) (A:=X.A.in1) (by exact I.ok.hd hc) da (by rw[hl];exact aam (aaU aJ) (by decide)) λh1 tk acc keep items=>?_;have la:acc.toList.length=zs.length:=by rw[aau,items.1,hl]
 have txt:StrsAre acc.toList zs:=wj la λj u e=>by
  obtain⟨k,x,e1,e2⟩:=items.2 j u (by rw[<-aaO];exact e);have e3:(vs.map (·.1))[j]?=some k:=by rw[aan,e1];rfl
  rw[<-rel.keys,hk,aan] at e3;obtain⟨z',e4,rfl⟩:=aap.mp e3;have nY:j8 (Sum.inr z') u=true:=e2;obtain⟨i,t,q1,q2⟩|⟨y,t,q1,q2⟩:=cm nY
  ·cases q1
  ·cases q1;exact⟨z',t,e4,q2⟩
 apply wpAny_bind;refine wpAny_newList ?_ (by rw[la];exact aam (aaU aJ) (by decide));apply wpAny_bind;apply wpAny_holding;refine wpAny_mono (tT (prog:=X.prog) (w:=X.w) (s:=s) (h:=h1) (tk:=tk) (Q:=EP X pins σ Q) txt (by rw[la];exact aJ) λout n h2 o1 o2 o3=>?_) (λ_ _ z=>wpAny_pure ⟨_,rfl,z⟩) λ_ _ z=>z;have no:s.heap.get? h1.objs.size=none:=by
  cases e:s.heap.get? h1.objs.size with
  |none=>rfl
  |some o=>exact absurd (aag (keep _ _ e)) (aaV _)
 have noH:H h1.objs.size=none:=by
  cases e:H h1.objs.size with
  |none=>rfl
  |some o =>obtain⟨u,eu⟩:=(I.aG _ _ e).there;rw[no] at eu;cases eu
 refine⟨.ref h1.objs.size,_,I.uR (t':=tk) (o:=.lst ((aK zs).map V.str)) (λb o e=>o2 _ _ (keep _ _ e)) no noH ?_,rfl,q _ noH⟩;refine⟨by rw[aaa,cy];exact aam (aaU aJ) (by decide),out,n,rg o1,o3⟩
def Ll(K:PySem.W.Frag):R2:=λx y H Q=>∃p q xs ys,x=.ref p/\y=.ref q/\ar K H p xs/\ar K H q ys/\xs.length≠ys.length/\Q (.bl true) H
theorem CJ(hu:X.A.units+1<cLine):cJ X (compareOp .NotEq) (Ll X.K):=by rintro pins s σ H x y v u Q I rx ry ⟨p,q,xs,ys,rfl,rfl,hp,hq,ne,fin⟩;cases rx;cases ry;obtain⟨is,ri,pi,_⟩:=I.list hp;obtain⟨js,rj,pj,_⟩:=I.list hq;refine aby (ads pi.isList pj.isList ?_ (by omega)) (aT I fin rfl);simp only[aai,bne_iff_ne];rw[<-ri.length,<-rj.length];exact ne
end
def hG:List V->List V->Bool
 |[],[]=>true
 |x::xs,y::ys=>gm x y&&hG xs ys
 |_,_=>false
theorem i8:∀{xs ys:List V},xs.length≠ys.length->hG xs ys=false
 |[],[],h=>absurd rfl h
 |[],_::_,_=>rfl
 |_::_,[],_=>rfl
 |x::xs,y::ys,h=>by unfold hG;rw[i8 (by simpa using h),acC]
theorem i9:∀{xs ys:List V},xs.length=ys.length->hG xs ys=(List.range xs.length).all λj=>gm (xs.getD j .aN) (ys.getD j .aN)
 |[],[],_=>rfl
 |[],_::_,h=>by simp at h
 |_::_,[],h=>by simp at h
 |x::xs,y::ys,h=>by unfold hG;rw[i9 (by simpa using h),aaH,adX,acP,acu];rfl
theorem wk:∀(xs ys:List Str),hG (xs.map V.str) (ys.map V.str)=decide (xs=ys)
 |[],[]=>rfl
 |[],_::_=>rfl
 |_::_,[]=>rfl
 |x::xs,y::ys=>by
  rw[aaE,aaE];unfold hG;rw[wk xs ys];by_cases h:x=y
  ·subst h;simp[gm]
  ·simp[gm,h]
theorem oR:∀(xs ys:List Int),hG (xs.map V.int) (ys.map V.int)=decide (xs=ys)
 |[],[]=>rfl
 |[],_::_=>rfl
 |_::_,[]=>rfl
 |x::xs,y::ys=>by
  rw[aaE,aaE];unfold hG;rw[oR xs ys];by_cases h:x=y
  ·subst h;simp[gm]
  ·simp[gm,h]
section
variable {X:Cx}{pins:List (Addr×Obj)}{σ:St}{H:Hp}{s:Shared}
theorem kA{xs ys:List V}{A:Around}(fx:xs.all cQ=true)(fy:ys.all cQ=true){is js:List Value}(ri:Vals xs is)(rj:Vals ys js) :
  ∀j (h1:j<is.toArray.size) (h2:j<js.toArray.size),SeqAt.EqAt A s is.toArray[j] js.toArray[j] (gm (xs.getD j .aN) (ys.getD j .aN)):=λj h1 h2=>by
 have b1:j<xs.length:=by rw[ri.length];simpa using h1
 have b2:j<ys.length:=by rw[rj.length];simpa using h2
 obtain⟨u',e1,r1⟩:=ri.get (aad b1);obtain⟨v',e2,r2⟩:=rj.get (aad b2);have c1:is.toArray[j]=u':=by
  rw[abL]
  have:=aad (l:=is) (i:=j) (by simpa using h1)
  rw[this] at e1;exact aat e1
 have c2:js.toArray[j]=v':=by
  rw[abL]
  have:=aad (l:=js) (i:=j) (by simpa using h2)
  rw[this] at e2;exact aat e2
 have d1:xs.getD j .aN=xs[j]:=by simp[List.getD,aad b1]
 have d2:ys.getD j .aN=ys[j]:=by simp[List.getD,aad b2]
 rw[c1,c2,d1,d2];exact pR r1 r2 (abF.mp fx _ (abu b1)) (abF.mp fy _ (abu b2))
end
section
variable {X:Cx}
def Lm(K:PySem.W.Frag)(neg:Bool):R2:=λx y H Q=>∃p q xs ys,x=.ref p/\y=.ref q/\((ar K H p xs/\ar K H q ys)\/(aZ K H p xs/\aZ K H q ys))/\xs.all cQ=true/\ys.all cQ=true/\Q (.bl (if neg then !hG xs ys else hG xs ys)) H
theorem y7{a b:Nat}(h:a=b):min a b=a:=by omega
theorem kB(hu:X.A.units+1<cLine):cJ X (compareOp .Eq) (Lm X.K false):=by
 rintro pins s σ H x y v u Q I rx ry ⟨p,q,xs,ys,rfl,rfl,h,fx,fy,fin⟩;cases rx;cases ry;rcases h with⟨hp,hq⟩|⟨hp,hq⟩
 ·obtain⟨is,ri,pi,_⟩:=I.list hp;obtain⟨js,rj,pj,_⟩:=I.list hq;by_cases el:xs.length=ys.length
  ·refine afn pi.isList pj.isList (by simp only[aai];rw[<-ri.length,<-rj.length];exact el) (by omega) (kA fx fy ri rj) ?_;refine aT I fin ?_;rw[aai,<-ri.length];exact i9 el
  ·refine SeqAt.eq_list_lengthsAt pi.isList pj.isList ?_ (by omega) (aT I fin ?_)
   ·simp only[aai,bne_iff_ne];rw[<-ri.length,<-rj.length];exact el
   ·exact i8 el
 ·obtain⟨is,ri,pi,_⟩:=I.tuple hp;obtain⟨js,rj,pj,_⟩:=I.tuple hq;refine afb pi pj (by omega) (kA fx fy ri rj) ?_;refine aT I fin ?_;simp only[aai];rw[<-ri.length,<-rj.length];by_cases el:xs.length=ys.length
  ·rw[y7 el,<-i9 el];simp[el]
  ·have:(xs.length==ys.length)=false:=by simpa using el
   rw[this,acC];exact i8 el
theorem qd(hu:X.A.units+1<cLine):cJ X (compareOp .NotEq) (Lm X.K true):=by
 rintro pins s σ H x y v u Q I rx ry ⟨p,q,xs,ys,rfl,rfl,h,fx,fy,fin⟩;cases rx;cases ry;rcases h with⟨hp,hq⟩|⟨hp,hq⟩
 ·obtain⟨is,ri,pi,_⟩:=I.list hp;obtain⟨js,rj,pj,_⟩:=I.list hq;by_cases el:xs.length=ys.length
  ·refine aby (aeG pi.isList pj.isList (by simp only[aai];rw[<-ri.length,<-rj.length];exact el) (by omega) (kA fx fy ri rj)) ?_;refine aT I fin ?_;rw[aai,<-ri.length,<-i9 el];rfl
  ·refine aby (ads pi.isList pj.isList ?_ (by omega)) (aT I fin ?_)
   ·simp only[aai,bne_iff_ne];rw[<-ri.length,<-rj.length];exact el
   ·rw[if_pos rfl,i8 el];rfl
 ·obtain⟨is,ri,pi,_⟩:=I.tuple hp;obtain⟨js,rj,pj,_⟩:=I.tuple hq;refine aby (aes pi pj (by omega) (kA fx fy ri rj)) ?_;refine aT I fin ?_;simp only[aai];rw[<-ri.length,<-rj.length];by_cases el:xs.length=ys.length
  ·rw[y7 el,<-i9 el];simp[el]
  ·have:(xs.length==ys.length)=false:=by simpa using el
   rw[this,acC,if_pos trivial,i8 el]
def Lo(K:PySem.W.Frag)(neg:Bool):R2:=λx y H Q=>∃p q xs,x=.ref p/\y=.ref q/\ar K H p xs/\ar K H q []/\Q (.bl (if neg then !decide (xs=[]) else decide (xs=[]))) H
theorem CK(hu:X.A.units+1<cLine):cJ X (compareOp .NotEq) (Lo X.K true):=by
 rintro pins s σ H x y v u Q I rx ry ⟨p,q,xs,rfl,rfl,hp,hq,fin⟩;cases xs with
 |nil=>exact qd hu pins s σ H _ _ v u Q I rx ry ⟨p,q,[],[],rfl,rfl,.inl ⟨hp,hq⟩,rfl,rfl,fin⟩
 |cons z zs=>exact CJ hu pins s σ H _ _ v u Q I rx ry ⟨p,q,_,_,rfl,rfl,hp,hq,by simp,fin⟩
open Classical in
end
structure wm where
 key:Expr
 val:Expr
 pV:Expr
 src:Expr
 cs:List Expr
 sc:Scope
 pos:Pos
namespace wm
variable (B:wm)
abbrev expr:Expr:=.DictComp B.key B.val [⟨B.pV,B.src,B.cs,0⟩] B.sc B.pos
section
variable (prog:Program)(w:World)(A:Around)(env:Env)(it:Value)(D:Addr)
def EN(J:Shared->Prop):Bool->Shared->Prop
 |false,s=>J s
 |true,s=>gp.Tame prog w A (eval B.key env) (λx=>gp.Tame prog w A (eval B.val env) λy=>gp.Tame prog w A (dictSet D x y) λ_=>J) s
def AA(J:Shared->Prop)(v:Value):Shared->Prop:=
 gp.Tame prog w A (letOwnedTupleGo B.pV it v) λ_=>gp.Tame prog w A (assign B.pV env v) λ_=>gp.Tame prog w A (km env B.cs) (B.EN prog w A env D J)
def EO(Dn J:Shared->Prop):Option Value->Shared->Prop
 |none=>Dn
 |some v=>B.AA prog w A env it D J v
end
theorem loops{B:wm}{prog:Program}{w:World}{A:Around}{env:Env}{it:Value}{D:Addr}{R:Result->Shared->Prop}(G:Nat->Shared->Prop)
  (turn:∀k t,G k t->gp.Tame prog w A (pyNext it) (B.EO prog w A env it D (R (.ok .next)) λu=>∃j,j<k/\G j u) t)
  {k:Nat} {t:Shared} (g:G k t):codeAny (model prog w) A (.compLoop B.expr 0 it (.ref D) env) R t:=by
 have one:∀k t,G k t->gp.Tame prog w A (compTurn B.expr 0 it (.ref D) env) (λx t'=>match x with|.done r=>R (.ok r) t'|.again c=>c=.compLoop B.expr 0 it (.ref D) env/\∃j,j<k/\G j t') t:=by
  intro k t g;rw[show B.expr=.DictComp B.key B.val [⟨B.pV,B.src,B.cs,0⟩] B.sc B.pos from rfl,compTurn_dict];apply wpAny_bind;apply wpAny_standAt;apply wpAny_bind;refine aH (turn k t g) λx t1 h1=>?_;match x,h1 with
  |none,h1=>exact wpAny_pure h1
  |some v,h1=>
   apply wpAny_bind;refine aH h1 λ_ t2 h2=>?_;apply wpAny_bind;refine aH h2 λ_ t3 h3=>?_;apply wpAny_bind;refine aH h3 λb t4 h4=>?_;match b,h4 with
   |false,h4=>exact wpAny_pure ⟨rfl,h4⟩
   |true,h4 =>apply wpAny_bind;apply wpAny_bind;refine aH h4 λy t5 h5=>?_;apply wpAny_bind;apply wpAny_holding;refine aH h5 λz t6 h6=>?_;apply wpAny_bind;apply wpAny_standAt;apply wpAny_holding;refine aH h6 λ_ t7 h7=>?_;exact wpAny_pure ⟨rfl,h7⟩
 exact aeE rfl G (λk t g=>wpAny_noted (wpAny_mono (one k t g) (λ_ _ q=>q) λ_ _ f=>f.elim)) k g
end wm
def wo(own:List Str)(fr:List Nat)(g:TG)(tt:TT)(tk te:TE)(σ:St)(Q:VK)(J:It)(H1:Hp):Prop:=
 ∃W:Nat->Nat->List (Key×V)->Hp->Prop,(∃m,W 0 m [] H1)/\∀i m kvs H2,W i m kvs H2->kvs.length<=sizeLine /\
  ((J.stop i H2/\∀D,H2 D=none->Q (.ref D) (upd H2 D (.dK kvs))) \/
  (J.go i H2/\∀x H3,J.sN i H2 x H3->g x (dS own fr σ) H3 λσ4 H4=>tt σ4 H4 λb H5=>if b=true then tk σ4 H5 λy H6=>te σ4 H6 λz H7=>∃k,y=kV k/\∃m',m'<m/\W (i+1) m' (putK kvs k z) H7 else ∃m',m'<m/\W (i+1) m' kvs H5))
def WM(own:List Str)(fr:List Nat)(wi:TI)(g:TG)(tt:TT)(tk te:TE):TE:=λσ H Q=>wi σ H (wo own fr g tt tk te σ Q)
section
variable {X:Cx}{own:List Str}{fr:List Nat}{sc:Scope}{tg iter kx vx:Expr}{ifs:List Expr}{pos:Pos}{wi:TI}{g:TG}{tt:TT}{tk te:TE}
theorem I0{pins:List (Addr×Obj)}{σ:St}{H2:Hp}{s2:Shared}{Q:VK}{it:Addr}{fp:List Addr}{tn:Nat->Heap->Prop}{J:It}{RR:Value->Addr->Result->Shared->Prop}{E:Value->Shared->Prop}(hc:X.calm=true)(S:gI X own fr sc)(gk:GK own.length g)
  (hg:∀s H fp,PG (du X own fr sc s H fp) tg g) (ht:∀s H fp,iE (du X own fr sc s H fp) ifs tt) (hk:∀s H fp,PE (du X own fr sc s H fp) kx tk) (he:∀s H fp,PE (du X own fr sc s H fp) vx te)
  (I2:Inv X pins σ H2 s2) (T:Turn X.prog X.w X.K tg J fp it tn) (st2:tn 0 s2.heap) (f2:∀b∈fp,gF X pins H2 b) (L:wo own fr g tt tk te σ Q J H2)
  (hRR:∀D C s',(∃m,s'.heap.Ns C m)->@LE.le Nat _ s2.heap.objs.size C->(∃H',H' C=none/\Q (.ref D) H'/\∀h' tk,Heap.SameBut C s'.heap h'->Inv X pins σ H' {s' with heap:=h',toks:=tk})->RR (.ref D) C (.ok .next) s') :
  wpAny (model X.prog X.w) X.A newDict (λacc s₃=>wpAny (model X.prog X.w) X.A (newFunctionEnv sc X.env.globals (cU X.env sc.names []) [] X.env.qual none .none (some X.env)) (λlQ s₄ =>codeAny (model X.prog X.w) X.A (.compStart (.DictComp kx vx [⟨tg,iter,ifs,0⟩] sc pos) 0 (.ref it) acc {lQ with scope:=relabel sc X.env}) (RR acc lQ.locals) s₄) E s₃) E s2:=by
 obtain⟨W,⟨m0,w0⟩,turn⟩:=L;refine wpAny_newObj_type (jG ?_);dsimp only;generalize cW:s2.heap.push {cls:=.type "dict",dict:=none,data:=.dict #[]}=h1;have hz:h1.objs.size=s2.heap.objs.size+1:=by rw[<-cW,aa1]
 have hk1:∀b o,s2.heap.get? b=some o->h1.get? b=some o:=λb o e=>by rw[<-cW];exact aab _ e
 have B9:h1.get? s2.heap.objs.size=some {cls:=.type "dict",data:=.dict #[]}:=by rw[<-cW];exact aaq _ rfl
 have hfl:∀b∈fp,@LT.lt Nat _ b s2.heap.objs.size:=λb hb=>by obtain⟨o,e,_⟩:=T.obj _ _ st2 b hb;exact aag e
 have I3:=oN I2 S f2 hz hk1 hfl;rw[hz];generalize hY:du X own fr sc s2 H2 fp=Y at I3;have k8:(hC s2 sc h1).get? s2.heap.objs.size=some {cls:=.type "dict",data:=.dict #[]}:=pushCells_keeps _ _ _ _ (aab _ B9);have lH:tn 0 (hC s2 sc h1):=T.keep _ _ _ st2 λb _ o e=>pushCells_keeps _ _ _ _ (aab _ (hk1 b o e));have eP:Y.prog=X.prog:=by rw[<-hY];rfl
 have eW:Y.w=X.w:=by rw[<-hY];rfl
 have eK:Y.K=X.K:=by rw[<-hY];rfl
 have eA:Y.A=X.A:=by rw[<-hY];rfl
 have eX:Y.xe=nR:=by rw[<-hY];rfl
 have tE:Y.calm=true:=by rw[<-hY];exact hc
 have vE:({scope:=relabel sc X.env,locals:=s2.heap.objs.size+1,globals:=X.env.globals,cells:=cellsFrom (s2.heap.objs.size+1+1) sc.names (cU X.env sc.names []),qual:=X.env.qual,func:=none,code:=X.env.code,frame:=X.env.frame,builtins:=X.env.builtins}:Env)=Y.env:=by rw[<-hY];rfl
 have eL:Y.env.locals=s2.heap.objs.size+1:=by rw[<-hY];rfl
 rw[vE];have vF:PG Y tg g:=hY▸hg s2 H2 fp;have B':iE Y ifs tt:=hY▸ht s2 H2 fp;have jR:PE Y vx te:=hY▸he s2 H2 fp;have dM:PE Y kx tk:=hY▸hk s2 H2 fp;have dfp:s2.heap.objs.size∉fp:=λz=>aaV _ (hfl _ z);have dC:s2.heap.objs.size≠s2.heap.objs.size+1:=aar (aba _);have pW:∀x c,Y.env.cells.lookup x=some c->c≠s2.heap.objs.size:=λx c e z=>by obtain⟨v,o,q,d⟩:=I3.cell x c e;rw[z] at q;have q':=k8.symm.trans q;cases q';cases d
 have vG:s2.heap.objs.size∉Y.fs:=by
  rw[<-hY];intro z;rcases aah.mp (I2.gE _ z) with e|e
  ·exact aaV _ (by have:=I2.lt;rw[<-e] at this;exact this)
  ·exact I2.Ad (aac _) e
 have vH:@LE.le Nat _ Y.s₀.heap.objs.size s2.heap.objs.size:=by rw[<-hY];exact aac _
 have fpY:∀{H':Hp} {pp:List (Addr×Obj)},(∀b∈fp,H' b=none)->(∀p∈pp,p.1∉fp)->∀b∈fp,gF Y pp H' b:=λ{H' pp} hn hp b hb=>by
  refine⟨hn b hb,?_,?_,?_,?_,λp hq z=>?_⟩
  ·have:=hfl b hb;rw[eL];intro z;have z':@Eq Nat b (s2.heap.objs.size+1):=z;omega
  ·rw[<-hY];intro z;rcases aah.mp (I2.gE _ z) with e|e
   ·exact(f2 b hb).2.1 e
   ·exact(f2 b hb).2.2.1 e
  ·exact .inl (by rw[<-hY];exact hb)
  ·exact(I3.ok.yF b (by rw[<-hY];exact hb)).2
  ·rcases aas.mp hq with q|q
   ·have:p∈([]:List (Addr×Obj)):=by rw[<-hY] at q;exact q
    exact nomatch this
   ·exact hp p q (z▸hb)
 have vI:∀{H':Hp} {s':Shared} {σ':St} {ob:Obj},Inv Y [] σ' H' s'->H' s2.heap.objs.size=none->s'.heap.get? s2.heap.objs.size=some ob->(∀v,ob.data≠.cell v)->Inv Y [(s2.heap.objs.size,ob)] σ' H' s':=λ{H' s' σ' ob} J0 hn e d=>
  J0.dI λp hp=>by
   have:p=(s2.heap.objs.size,ob):=by simpa using hp
   subst this;exact⟨e,hn,by rw[eL];exact dC,vG,d⟩
 have lR:∀{ob:Obj} (p:Addr×Obj),p∈[(s2.heap.objs.size,ob)]->p.1∉fp:=λ{ob} p hp=>by
  have:p=(s2.heap.objs.size,ob):=by simpa using hp
  subst this;exact dfp
 have loop:codeAny (model X.prog X.w) X.A (.compLoop (.DictComp kx vx [⟨tg,iter,ifs,0⟩] sc pos) 0 (.ref it) (.ref s2.heap.objs.size) Y.env) (RR (.ref s2.heap.objs.size) (s2.heap.objs.size+1)) {s2 with heap:=hC s2 sc h1}:=by
  have CL:(hC s2 sc h1).DictOf (bL X.prog X.w) s2.heap.objs.size []:=(show h1.DictOf (bL X.prog X.w) s2.heap.objs.size [] from cW▸afl s2.heap).keep λb o e=>pushCells_keeps _ _ _ _ (aab _ e);refine wm.loops (B:=⟨kx,vx,tg,iter,ifs,sc,pos⟩) (λn s'=>∃i kvs vs H',W i n kvs H'/\Inv Y [] (dS own fr σ) H' s'/\tn i s'.heap/\(∀b∈fp,H' b=none)/\H' s2.heap.objs.size=none/\s'.heap.DictOf (bL X.prog X.w) s2.heap.objs.size vs/\KV kvs vs) ?_ (k:=m0)
   ⟨0,[],[],H2,w0,I3,lH,λb hb=>(f2 b hb).1,I2.aG.fresh (aac _),CL,.nil⟩
  rintro n s' ⟨i,kvs,vs,H',w',J0,gG,tG,hDn,hDo,rv⟩;obtain⟨Ca,lS⟩:=turn i n kvs H' w';obtain⟨ob,es,ep,Lp,Fb,AG,AH,wq,Fc⟩:=hDo;have Lq:∀v,ob.data≠.cell v:=λv z=>by rw[AG] at z;cases z
  have J1:=vI J0 hDn Lp Lq;rcases lS with⟨stop,fin⟩|⟨go,step⟩
  ·have d0:=T.done Y eP eW eK tE i _ s' _ H' nR J1 (fpY tG lR) gG stop;rw[eA] at d0;refine wpAny_mono d0 (λr s4 ⟨hr,J4⟩=>?_) λ_ _ z=>z;subst hr;have pD:=(J4.pin (s2.heap.objs.size,_) (aaj _ aal)).1;refine hRR _ _ s4 ?_ (aa7 _) ⟨upd H' s2.heap.objs.size (.dK kvs),?_,fin _ hDn,λh' tk hs=>?_⟩
   ·obtain⟨m,hn,_⟩:=J4.loc;rw[eL] at hn;exact⟨m,hn⟩
   ·rw[aq (aaI dC),<-eL];exact J4.free
   ·subst hY;have hO:bc X.prog X.w (upd H' s2.heap.objs.size (.dK kvs)) h' s2.heap.objs.size (.dK kvs):=⟨Ca,beq_eq_false_iff_ne.mpr (aaI (aar I2.big)),vs,rv,ob,es,ep,(hs.2 _ dC).trans pD,Fb,AG,AH,wq,Fc⟩
    exact oO I2 f2 J4 (aac _) hDn dC hs hO tk
  ·have d0:=T.item Y eP eW eK tE i _ s' _ H' nR J1 (fpY tG lR) gG go;rw[eA] at d0;refine wpAny_mono d0 (λr s4 ⟨u,hr,h4⟩=>?_) λ_ _ z=>z;subst hr;refine wpAny_mono h4 (λ_ s5 ⟨x,H5,J5,r5,y5,iY,vh⟩=>?_) λ_ _ z=>z;have Cb:=J5.pinned (fpY vh lR) (T.obj _ _ iY);have s1:=vF _ s5 _ H5 x u _ Cb r5 (gk _ _ _ _ (step x H5 y5));rw[eP,eW,eA,eX] at s1;refine wpAny_mono s1 (λ_ s6 ⟨σ6,H6,J6,q6,tH⟩=>?_) λ_ _ z=>z;have tI:=B' _ s6 σ6 H6 _ J6 q6;rw[eP,eW,eA,eX] at tI;refine wpAny_mono tI (λok s7 ⟨H7,J7,q7⟩=>?_) λ_ _ z=>z;have low:∀{H8:Hp} {s8:Shared},Inv Y ([(s2.heap.objs.size,ob)]++fm fp s5.heap) σ6 H8 s8 ->
     Inv Y (fm fp s5.heap) σ6 H8 s8/\H8 s2.heap.objs.size=none/\s8.heap.get? s2.heap.objs.size=some ob/\(∀b∈fp,H8 b=none)/\tn (i+1) s8.heap:=λ{H8 s8} J8=>by
    have p8:=J8.pin (s2.heap.objs.size,_) (aaj _ (aax _ aal));refine⟨J8.dI λp hp=>J8.pin p (aaj _ (aaj _ hp)),p8.2.1,p8.1,λb hb=>?_,T.keep _ _ _ iY λb hb o e=>(J8.pin (b,o) (aaj _ (aaj _ (dD hb e)))).1⟩;obtain⟨o,e,d⟩:=T.obj _ _ iY b hb;exact(J8.pin (b,o) (aaj _ (aaj _ (dD hb e)))).2.1
   have weak:∀{H8:Hp} {s8:Shared} {pp:List (Addr×Obj)},Inv Y pp σ6 H8 s8->Inv Y [] (dS own fr σ) H8 s8:=λ{H8 s8 pp} J8=>(J8.weak tH.1.symm (λj v e=>by
    by_cases hj:j<own.length
    ·exfalso;unfold dS at e;rw[aa6 (by simpa using hj),abP] at e;split at e<;>cases e
    ·rw[tH.2 j (adB.mp hj)];exact e)).dI λp hp=>nomatch hp
   cases ok with
   |false=>
    obtain⟨m',hm,w7⟩:=(show ∃m',m'<n/\W (i+1) m' kvs H7 by simpa using q7)
    obtain⟨_,l1,l2,l3,l4⟩:=low J7;exact⟨m',hm,i+1,kvs,vs,H7,w7,weak J7,l4,l3,l1,⟨ob,es,ep,l2,Fb,AG,AH,wq,Fc⟩,rv⟩
   |true=>
    have Cc:tk σ6 H7 λy H6=>te σ6 H6 λz H7=>∃k,y=kV k/\∃m',m'<n/\W (i+1) m' (putK kvs k z) H7:=by simpa using q7
    have s3:=dM _ s7 σ6 H7 _ J7 Cc;rw[eP,eW,eA,eX] at s3;show wpAny _ _ _ _ _ _
    refine wpAny_mono s3 (λyv s8 ⟨y,H8,J8,r8,q8⟩=>?_) λ_ _ z=>z;have Ra:=jR _ s8 σ6 H8 _ J8 q8;rw[eP,eW,eA,eX] at Ra;refine wpAny_mono Ra (λzv s9 ⟨z,H9,J9,r9,ky,ey,m',hm,w9⟩=>?_) λ_ _ z=>z;subst ey;obtain⟨WN,l1,l2,l3,l4⟩:=low J9;refine wpAny_dictSet_pairs (knd:=bL X.prog X.w) (hsz:=by rw[<-rv.length];exact Ca) (mX r8) (⟨ob,es,ep,l2,Fb,AG,AH,wq,Fc⟩:s9.heap.DictOf (bL X.prog X.w) s2.heap.objs.size vs) λh' K1 hs'=>?_;have WO:Inv Y [] (dS own fr σ) H9 {s9 with heap:=h',toks:=s9.toks+1}:=by
     refine(weak WN).turned (t':=s9.toks+1) (it:=s2.heap.objs.size) (λb o hb e=>(hs'.2 b hb).trans e) l1 (by rw[eL];exact dC) (.inr vH) pW λp hp=>?_
     have:p∈([]:List (Addr×Obj)):=by rw[<-hY] at hp;exact hp
     exact nomatch this
    refine⟨m',hm,i+1,putK kvs ky z,stored vs ky zv,H9,w9,WO,?_,l3,l1,K1,rv.put ky r9⟩;exact T.keep _ _ _ l4 λb hb o e=>(hs'.2 b (λz=>dfp (z▸hb))).trans e
 exact codeAny_compStart_dict loop (T.self X.A 0 _ _ _ lH loop)
theorem I8{vJ pos':Pos}{i:Nat}{x:Str}(own:List Str)(fr:List Nat)(hN:X.N.Nodup)(hix:X.N[i]?=some x)(hx:X.env.scope.names.lookup x=some .local)(hc:X.calm=true)(S:gI X own fr sc)(gk:GK own.length g)(hi:PI X tg iter wi)
  (hg:∀s H fp,PG (du X own fr sc s H fp) tg g) (ht:∀s H fp,iE (du X own fr sc s H fp) ifs tt) (hk:∀s H fp,PE (du X own fr sc s H fp) kx tk) (he:∀s H fp,PE (du X own fr sc s H fp) vx te)
  (hsw:swapsWith (.DictComp kx vx [⟨tg,iter,ifs,0⟩] sc pos) (some (.Name x pos')) vJ.line X.env=pure true:=by rfl)
  (hs:∀x,foldedSetIterable iter X.env x=pure x:=by intro _;rfl):PS X (.Assign [.Name x pos'] (.DictComp kx vx [⟨tg,iter,ifs,0⟩] sc pos) vJ) (Ag (WM own fr wi g tt tk te) (bF i)):=by
 intro pins s σ H D I h;rw[ad7 _ _ _ _ hsw];apply wpAny_bind;apply wpAny_standAt;apply wpAny_bind;show wpAny _ _ (comprehension (.DictComp kx vx [⟨tg,iter,ifs,0⟩] sc pos) sc X.env _ newDict false (eval iter X.env) (some (assign (.Name x pos') X.env))>>=_) _ _ s
 apply wpAny_bind;have ko:closureFor sc X.env=pure (cU X.env sc.names []):=fG λy hy hf=>I.ok.has y.1 (by
  rcases S.yT y hy hf with q|q
  ·exact .inl q
  ·exact .inr q)
 refine wpAny_mono (wpAny_comprehension_free (use:=some (assign (.Name x pos') X.env)) (Q:=λ_ s'=>SP X pins D .next s') rfl hs ko S.kind (λy hy hl=>bX S.nd (by rw[<-hl];exact hy)) ?_) (λ_ s' q=>wpAny_pure (wpAny_pure q)) λ_ _ z=>z;refine aH (hi pins s σ H _ I h) λv s1 h1=>aH h1 λitv s2 h2=>?_;obtain⟨it,fp,tn,J,H2,e,I2,T,st2,f2,L⟩:=h2;subst e;exact I0 hc S gk hg ht hk he I2 T st2 f2 L λD0 C s' ns le h=>pX (R:=D.nx) I2 hN hix hx ns le h
end
theorem Ja{K:PySem.W.Frag}{a:Addr}{xs:List V}{own:List Str}{fr:List Nat}{g:TG}{tt:TT}{tk te:TE}{σ:St}{Q:VK}{H:Hp}(Pv:Nat->List (Key×V)->Hp->Prop)(h0:Pv 0 [] H)(hlen:∀i kvs H,i<=xs.length->Pv i kvs H->kvs.length<=sizeLine)
  (hl:∀i kvs H,i<=xs.length->Pv i kvs H->ar K H a xs)
  (hs:∀i x kvs H (R:List (Key×V)->Hp->Prop),xs[i]?=some x->Pv i kvs H->(∀wu H',Pv (i+1) wu H'->R wu H')->g x (dS own fr σ) H λσ4 H4=>tt σ4 H4 λb H5=>if b=true then tk σ4 H5 λy H6=>te σ4 H6 λz H7=>∃k,y=kV k/\R (putK kvs k z) H7 else R kvs H5)
  (hd:∀kvs H,Pv xs.length kvs H->∀D,H D=none->Q (.ref D) (upd H D (.dK kvs))):wo own fr g tt tk te σ Q (pK K a) H:=by
 refine⟨λi m kvs H=>m=xs.length-i/\i<=xs.length/\Pv i kvs H,⟨xs.length,rfl,aaG _,h0⟩,?_⟩;rintro i m kvs H2 ⟨rfl,hi,p⟩;refine⟨hlen i kvs H2 hi p,?_⟩;have q:=hl i kvs H2 hi p;by_cases h:i<xs.length
 ·refine .inr ⟨⟨xs,xs[i],q,by simp[h]⟩,λx H3 hy=>?_⟩;obtain⟨rfl,hy⟩:=hy;have z:=hs i x kvs _ (λwu H'=>∃m',m'<xs.length-i/\(m'=xs.length-(i+1)/\i+1<=xs.length/\Pv (i+1) wu H')) (hy xs q) p λwu H' q=>⟨xs.length-(i+1),by omega,rfl,h,q⟩
  exact z
 ·have e:i=xs.length:=by omega
  subst e;exact .inl ⟨⟨xs,q,aac _⟩,hd kvs H2 p⟩
def tab:List Str->List Addr->List (Key×V)
 |z::zs,l::ls=>(Sum.inr z,V.ref l)::tab zs ls
 |_,_=>[]
theorem y8:∀{zs:List Str} {ls:List Addr},ls.length=zs.length->(tab zs ls).length=zs.length
 |[],[],_=>rfl
 |[],_::_,h=>by simp at h
 |_::_,[],h=>by simp at h
 |z::zs,l::ls,h=>by
  show(tab zs ls).length+1=zs.length+1
  rw[y8 (by simpa using h)]
theorem wx:∀{zs:List Str} {ls:List Addr} (z:Str) (l:Addr),ls.length=zs.length->tab (zs++[z]) (ls++[l])=tab zs ls++[(Sum.inr z,V.ref l)]
 |[],[],_,_,_=>rfl
 |[],_::_,_,_,h=>by simp at h
 |_::_,[],_,_,h=>by simp at h
 |x::zs,y::ls,z,l,h=>by
  show(Sum.inr x,V.ref y)::tab (zs++[z]) (ls++[l])=_
  rw[wx z l (by simpa using h)];rfl
theorem wy:∀{zs:List Str} {ls:List Addr} {z:Str},z∉zs->dZ (tab zs ls) (Sum.inr z:Key)=none
 |[],_,_,_=>rfl
 |_::_,[],_,_=>rfl
 |x::zs,y::ls,z,h=>by
  have h1:¬ x=z:=λe=>h (e▸aal);show dZ ((Sum.inr x,V.ref y)::tab zs ls) _=_
  rw[g6 (λe=>h1 (adT e))];exact wy λm=>h (aae _ m)
theorem CM:∀{zs:List Str} {ls:List Addr} {i:Nat} {z:Str} {l:Addr},zs.Nodup->zs[i]?=some z->ls[i]?=some l->dZ (tab zs ls) (Sum.inr z:Key)=some (.ref l)
 |[],_,_,_,_,_,h,_=>by simp at h
 |_::_,[],_,_,_,_,_,h=>by simp at h
 |x::zs,y::ls,0,z,l,_,h1,h2=>by
  have e1:x=z:=by simpa using h1
  have e2:y=l:=by simpa using h2
  subst e1 e2;exact i6 rfl
 |x::zs,y::ls,i+1,z,l,nd,h1,h2=>by
  rw[aaT] at nd;have h1':zs[i]?=some z:=by simpa using h1
  have ne:¬ x=z:=λe=>nd.1 (e▸aak h1');show dZ ((Sum.inr x,V.ref y)::tab zs ls) _=_
  rw[g6 (λe=>ne (adT e))];exact CM nd.2 h1' (by simpa using h2)
theorem AI{α:Type}{l:List α}(nd:l.Nodup){i j:Nat}{x:α}(hi:l[i]?=some x)(hj:l[j]?=some x):i=j:=by obtain⟨h1,e1⟩:=aaB.mp hi;obtain⟨h2,e2⟩:=aaB.mp hj;exact(ae7 nd).mp (e1.trans e2.symm)
section
variable {prog:Program}{w:World}{A:Around}{E:Value->Shared->Prop}{s:Shared}
theorem AJ{src:Source}{n:Nat}{Q:Nat->Shared->Prop}(hn:n≠0)(h:∀i dr,i<n->Q i {s with drawn:=dr}):wpAny (model prog w) A (choose src n) Q E s:=fun Γ p _=>by
 show Sem.wp _ Γ (.choose src n .pure) _ _ p s
 rw[Sem.wp_choose];exact⟨hn,h _ _ (ac6 _ (Nat.pos_of_ne_zero hn))⟩
theorem kC{α:Type}:∀(xs:List α) (i:Nat) (h:i<xs.length),(xs[i]::xs.eraseIdx i).Perm xs
 |[],_,h=>by simp at h
 |x::xs,0,_=>.refl _
 |x::xs,i+1,h=>(List.Perm.swap x (xs[i]'(by simpa using h)) (xs.eraseIdx i)).trans (List.Perm.cons x (kC xs i (by simpa using h)))
theorem qf{α:Type}:∀(n:Nat) (xs:List α) (s:Shared) (Q:List α->Shared->Prop),xs.length=n->(∀ys dr,ys.Perm xs->Q ys {s with drawn:=dr})->wpAny (model prog w) A (drawOrder n xs) Q E s
 |0,xs,s,Q,hl,h=>by have e:xs=[]:=acb hl;subst e;exact wpAny_pure (h [] s.drawn .nil)
 |n+1,[],s,Q,hl,h=>by simp at hl
 |n+1,x::xs,s,Q,hl,h=>by unfold drawOrder;refine wpAny_bind (AJ (by simp) λi dr hi=>?_);have e:(x::xs)[i]?=some (x::xs)[i]:=aad hi;rw[e];refine wpAny_bind (qf n _ _ _ (by rw[adt hi];simpa using hl) λys WQ hp=>?_);refine wpAny_pure (h _ WQ ?_);exact(List.Perm.cons _ hp).trans (kC _ i hi)
end
theorem y9(t:SetTable)(es:Array (Int×Value))(h:Int)(x:Value):(layNew t es h x).2.1.led=t.led:=by
 unfold layNew;split
 ·simp only[SetTable.put,SetTable.orStandIn,SetTable.standIn];split<;>split<;>rfl
 ·rfl
theorem tU(t:SetTable)(es:Array (Int×Value))(n:Nat):(relayAll t es n).2.1.led=t.led:=by
 unfold relayAll;split
 ·rename_i t' order e
  unfold SetTable.relaid SetTable.laid at e;cases hl:SetTable.layClean (SetTable.sizeAbove n-1) (es.map (·.1)) with
  |none=>rw[hl] at e;cases e
  |some o =>rw[hl] at e;cases e;dsimp only;split<;>rfl
 ·rfl
theorem yo(t:SetTable)(es:Array (Int×Value))(n:Nat)(h:t.plain=false):(relayAll t es n).2.1.plain=false:=by
 unfold relayAll;split
 ·rename_i t' order e
  unfold SetTable.relaid SetTable.laid at e;cases hl:SetTable.layClean (SetTable.sizeAbove n-1) (es.map (·.1)) with
  |none=>rw[hl] at e;cases e
  |some o=>
   rw[hl] at e;cases e;dsimp only;split
   ·exact h
   ·rfl
 ·rfl
section
variable {prog:Program}{w:World}{A:Around}{E:Value->Shared->Prop}{s:Shared}
structure iG(prog:Program)(w:World)(h:Heap)(a:Addr)(zs:List Str)(led:Bool)(o:Obj)(es:Array (Int×Value))(ep:Nat)(t:SetTable):Prop where
 ho:h.get? a=some o
 ex:o.ExactSet
 hd:o.data=.set es ep t
 el:ElemsOf (strKind prog w) es.toList
 mem:∀k,decide (k∈dist zs)=true ↔ ∃e∈es.toList,(strKind prog w).is k e.2=true
 aJ:es.size<scanBound
 fits:t.fits es.size=true
 size:es.size=(dist zs).length
 led:t.led=led
 pl:es.size≠0->t.plain=false
theorem iG.keep{h h':Heap}{a:Addr}{zs:List Str}{led:Bool}{o:Obj}{es:Array (Int×Value)}{ep:Nat}{t:SetTable}(x:iG prog w h a zs led o es ep t)(k:∀o,h.get? a=some o->h'.get? a=some o):iG prog w h' a zs led o es ep t:={x with ho:=k _ x.ho}
theorem kD{b:Bool}{Q:Unit->Shared->Prop}(q:Q () s):wpAny (model prog w) A (match b with|true=>rule "set.scan.the-table-gave-way" |false=>pure ()) Q E s:=by
 cases b
 ·exact wpAny_pure q
 ·exact wpAny_rule q
theorem iG.add{a:Addr}{z:Str}{tok:Tok}{zs:List Str}{led:Bool}{o:Obj}{es:Array (Int×Value)}{ep:Nat}{t:SetTable}{Q:Bool->Shared->Prop}(x:iG prog w s.heap a zs led o es ep t)(room:(dist zs).length+1<scanBound)
  (k:∀(b:Bool) h' o' es' gS t',Heap.SameBut a s.heap h'->iG prog w h' a (zs++[z]) led o' es' gS t'->Q b {s with heap:=h' }) :
  wpAny (model prog w) A (setAddHashed a (.str z tok) ((strKind prog w).hash z)) Q E s:=by
 have yes:(strKind prog w).is z (.str z tok)=true:=by show Value.isStrOf z (.str z tok)=true;simp[Value.isStrOf]
 unfold setAddHashed setAddHashedIn;refine wpAny_holding (wpAny_bind (wpAny_setState_of x.ho x.hd x.fits ?_));dsimp only;rw[byScan_of (knd:=strKind prog w) (x:=.str z tok) rfl x.aJ x.el,if_pos rfl];unfold setAddByScan;refine wpAny_bind (wpAny_bind (wpAny_rule (wpAny_bind (wpAny_setScan_of yes x.ho x.hd x.fits x.el ?_))));have isin:=x.mem z;have ed:dist (zs++[z])=fg (dist zs) z:=lT zs z;cases hr:List.findIdx? (λe=>(strKind prog w).is z e.2) es.toList with
 |some j=>
  dsimp only;obtain⟨hj,Lr,_⟩:=acM.mp hr;have hz:z∈dist zs:=of_decide_eq_true (isin.mpr ⟨_,abu hj,Lr⟩);have e2:dist (zs++[z])=dist zs:=by rw[ed];unfold fg;rw[if_pos hz]
  refine wpAny_pure (wpAny_pure ?_)
  have:=k false s.heap o es ep t (acF a s.heap) {x with mem:=by rw[e2];exact x.mem,size:=by rw[e2];exact x.size}
  exact this
 |none=>
  dsimp only;have hz:z∉dist zs:=λq=>by
   obtain⟨e,he,hp⟩:=isin.mp (decide_eq_true q)
   have:=adC.mp hr e he
   rw[hp] at this;cases this
  have perm:=layNew_perm t es ((strKind prog w).hash z) (.str z tok);have fit:=layNew_fits t es ((strKind prog w).hash z) (.str z tok);have ld:=y9 t es ((strKind prog w).hash z) (.str z tok);generalize layNew t es ((strKind prog w).hash z) (.str z tok)=L at perm fit ld⊢;obtain⟨es1,t1,dummy,Fd⟩:=L;dsimp only at perm fit ld⊢;rw[acH] at perm;have el1:ElemsOf (strKind prog w) es1.toList:=(x.el.push yes rfl).perm perm;have mem1:∀k',decide (k'∈dist (zs++[z]))=true ↔ ∃e∈es1.toList,(strKind prog w).is k' e.2=true:=λk'=>by
   have:=mem_push_iff (knd:=strKind prog w) yes x.mem perm k'
   rw[<-this,ed,afo,aaL,aaL,aaL,kq]
  have tV:es1.size=es.size+1:=by rw[<-aau,perm.length_eq,aay,aau];rfl
  have kE:es1.size<scanBound:=by rw[tV,x.size];exact room
  have qg:es1.size=(dist (zs++[z])).length:=by rw[tV,ed,kr,if_neg hz,x.size]
  refine wpAny_bind (kD ?_);have tail:∀t2:SetTable,t2.led=led->t2.plain=false->t2.fits es1.size=true->wpAny (model prog w) A (do
    storeSet a es1 t2
    if (!dummy&&t2.tooFull)=true then do
      (match (relayAll t2 es1 (SetTable.grown es1.size)).2.2 with|true=>rule "set.scan.the-table-gave-way" |false=>pure ())
      storeSet a (relayAll t2 es1 (SetTable.grown es1.size)).1 (relayAll t2 es1 (SetTable.grown es1.size)).2.1
      pure (some true)
     else pure (some true)) (λr s'=>wpAny (model prog w) A (match r with|some added=>pure added|none=>setAddHashedIn a (.str z tok) ((strKind prog w).hash z) 99999) Q E s') E s:=λt2 l2 p2 f2=>by
   refine wpAny_bind (wpAny_storeSet_of x.ho x.hd ?_ (fits_of_scanBound kE));obtain⟨g1,_⟩:=ad1 (knd:=strKind prog w) (S':=λk'=>decide (k'∈dist (zs++[z]))) x.ho x.ex x.hd el1 mem1 kE f2;have sb1:=aa' s.heap a (Obj.putSet es1 t2);split
   ·have rp:=afC t2 es1 (SetTable.grown es1.size);have rf:=afD t2 es1 (SetTable.grown es1.size);have rl:=tU t2 es1 (SetTable.grown es1.size);have rpl:=yo t2 es1 (SetTable.grown es1.size) p2;generalize relayAll t2 es1 (SetTable.grown es1.size)=Rl at rp rf rl rpl⊢;obtain⟨jT,t3,gv⟩:=Rl;dsimp only at rp rf rl rpl⊢;have tW:jT.size=es1.size:=by rw[<-aau,rp.length_eq,aau]
    refine wpAny_bind (kD ?_);have wz:∀k',decide (k'∈dist (zs++[z]))=true ↔ ∃e∈jT.toList,(strKind prog w).is k' e.2=true:=λk'=>(mem1 k').trans ⟨λ⟨e,he,q⟩=>⟨e,rp.mem_iff.mpr he,q⟩,λ⟨e,he,q⟩=>⟨e,rp.mem_iff.mp he,q⟩⟩;have oS:jT.size<scanBound:=by rw[tW];exact kE
    refine wpAny_bind (wpAny_storeSet_of (s:={s with heap:=s.heap.update a (Obj.putSet es1 t2)}) g1 rfl ?_ (fits_of_scanBound oS));obtain⟨g2,_⟩:=ad1 (knd:=strKind prog w) (S':=λk'=>decide (k'∈dist (zs++[z]))) g1 x.ex rfl (el1.perm rp) wz oS rf;exact wpAny_pure (wpAny_pure (k true _ _ jT _ t3 (sb1.trans (aa' _ a _)) ⟨g2,x.ex,rfl,el1.perm rp,wz,oS,rf,by rw[tW];exact qg,by rw[rl];exact l2,λ_=>rpl⟩))
   ·exact wpAny_pure (wpAny_pure (k true _ _ es1 _ t2 sb1 ⟨g1,x.ex,rfl,el1,mem1,kE,f2,qg,l2,λ_=>p2⟩))
  split
  ·refine wpAny_bind ?_;rw[hashByValue_scannable 8 (x:=.str z tok) rfl];refine wpAny_pure ?_;rename_i tp
   exact tail {t1 with plain:=false} (by show t1.led=led;rw[ld];exact x.led) rfl (SetTable.fits_plain_off fit)
  ·rename_i tp
   refine wpAny_bind (wpAny_pure ?_);simp only[↓reduceIte];exact tail t1 (by rw[ld];exact x.led) (by simpa using tp) fit
end
def bz(w:World):Bool:=w.params.followText "set-order"
section
variable {prog:Program}{w:World}{A:Around}{E:Value->Shared->Prop}{s:Shared}
theorem rq(a:Value){Q₁:Value->Shared->Prop}(h:Q₁ (.ref s.heap.objs.size) {s with heap:=s.heap.push {cls:=.type "set",dict:=none,data:=.set #[] 0 (.fresh 0 0 (!bz w))} }) :
  codeAny (model prog w) A (.call (.builtin "set.__new__") ⟨[.type "set",a],[]⟩) (wants Q₁ E) s:=by
 apply codeAny_of_tree;show wpAny _ A.in1 (checkBuiltinCall "set.__new__" ⟨[.type "set",a],[]⟩>>=λ_=>again (.builtin "set.__new__" ⟨[.type "set",a],[]⟩)) _ _ s
 apply wpAny_bind;refine wpAny_of_eq (PySem.F.newCall_set_1 a) ?_;apply wpAny_pure;refine⟨abO ad9 _,codeAny_builtin PySem.F.entry_set_new ?_⟩;rw[abj ad9 _];have self:=sub_set_self;obtain⟨hp,g,d,tk,os⟩:=s;unfold Builtin.«set.__new__» Builtin.Frozenset.newClass;dsimp only;wp_walk
 apply wpAny_askSetting;apply wpAny_pure;dsimp only[newObj];apply wpAny_bind;apply wpAny_alloc;apply wpAny_pure;exact wpAny_pure h
end
section
variable {prog:Program}{w:World}{A:Around}{I S:Addr}{fp wr:List Addr}{G:Array GenState->Array GenState->Prop}{P:Nat->Value->Prop}{St:Nat->Shared->Prop}{zs:List Str}{R:Result->Shared->Prop}{led:Bool}
def jJ(prog:Program)(w:World)(h:Heap)(S:Addr)(zs:List Str)(led:Bool):Prop:=∃o es ep t,iG prog w h S zs led o es ep t
theorem jJ.keep{h h':Heap}(x:jJ prog w h S zs led)(k:∀o,h.get? S=some o->h'.get? S=some o):jJ prog w h' S zs led:=let ⟨o,es,ep,t,q⟩:=x;⟨o,es,ep,t,q.keep k⟩
theorem lX(W:WalksS prog w A.in1 I fp wr G zs.length P St)(off:S∉fp)(hz:∀i v,P i v->∃z t,zs[i]?=some z/\v=.str z t)(small:zs.length+1<scanBound) :
  ∀(left i:Nat) (s:Shared),i+left=zs.length->St i s->jJ prog w s.heap S (zs.take i) led ->
   (∀s',Moved (S::wr) G s s'->jJ prog w s'.heap S zs led->R (.ok (.ret .none)) s')->codeAny (model prog w) A (.builtin "set.update.loop" ⟨[.ref S,.ref I],[]⟩) R s
 |0,i,s,hi,st,x,k=>by have e:zs.take i=zs:=aaR (by omega);rw[show i=zs.length by omega] at st;refine codeAny_builtin abx ?_;rw[abj abd _];apply wpAny_bind;refine W.done s _ _ st λs' m=>?_;exact wpAny_pure (k s' (m.mono λb hb=>aae _ hb) (by rw[e] at x;exact x.keep λo ho=>m.heap S o (λhs=>off (W.sub _ hs)) ho))
 |left+1,i,s,hi,st,x,k=>by
  refine codeAny_builtin abx ?_;rw[abj abd _];apply wpAny_bind;refine W.item i s _ _ (by omega) st λv s1 p Cq m=>?_;obtain⟨z,t,ez,rfl⟩:=hz i v p;obtain⟨o,es,ep,tb,x1⟩:=x.keep λo ho=>m.heap S o (λhs=>off (W.sub _ hs)) ho;have et:zs.take (i+1)=zs.take i++[z]:=by rw[aaC,ez];rfl
  have yes:(strKind prog w).is z (.str z t)=true:=by show Value.isStrOf z (.str z t)=true;simp[Value.isStrOf]
  show wpAny _ A.in1 (holding [Value.str z t] (setAdd S (.str z t))>>=_) _ _ s1
  apply wpAny_bind;apply wpAny_holding;show wpAny _ A.in1 (holding _ _) _ _ _
  apply wpAny_holding;apply wpAny_bind;refine(strKind prog w).pyHash yes ?_;have aJ:=q9 (zs.take i);rw[aaP] at aJ;refine iG.add (s:={s1 with toks:=s1.toks+1}) x1 (by omega) λ_ h2 o2 jT y' t2 sb x2=>?_;refine wpAny_pure ⟨abO abd _,lX W off hz small left (i+1) _ (by omega) ?_ ⟨o2,jT,y',t2,by rw[et];exact x2⟩ λs3 m3 x3=>?_⟩
  ·exact W.frame _ s1 _ _ Cq (aa7 _) λb hb o e=>(sb.2 b λz'=>off (z'▸hb)).trans e
  ·refine k s3 (ae4 W.gtrans ((m.mono λb hb=>aae _ hb).then_heap (aa7 _) λb o hb e=>?_) m3) x3;exact(sb.2 b λz'=>hb (by rw[z'];exact aal)).trans e
end
theorem yq:isSubtype (.type "tuple") (.type "set")=pure false:=by rw[ach];kernel_rfl
theorem rz:isSubtype (.type "tuple") (.type "frozenset")=pure false:=by rw[ach];kernel_rfl
section
variable {prog:Program}{w:World}{A:Around}{E:Value->Shared->Prop}{s:Shared}
theorem CN{l:Addr}{its:List Value}{zs:List Str}{Q:Value->Shared->Prop}(hh:A.handled=none)(hl:s.heap.IsList l its.toArray)(hz:StrsAre its zs)(small:zs.length+1<scanBound)
  (h:∀(h':Heap) (tk:Nat),jJ prog w h' s.heap.objs.size zs (!bz w)->(∀b o,s.heap.get? b=some o->h'.get? b=some o)->Q (.ref s.heap.objs.size) {s with heap:=h',toks:=tk}) :
  wpAny (model prog w) A (call (.type "set") [.ref l]) Q E s:=by
 refine m5 abq (ab8 _) (rq (.ref l) ?_);generalize cW:s.heap.push {cls:=.type "set",dict:=none,data:=.set #[] 0 (.fresh 0 0 (!bz w))}=h1;have kp:∀b o,s.heap.get? b=some o->h1.get? b=some o:=λb o e=>by rw[<-cW];exact aab _ e
 have sz:h1.objs.size=s.heap.objs.size+1:=by rw[<-cW];exact aa1 ..
 have new:h1.get? s.heap.objs.size=some {cls:=.type "set",dict:=none,data:=.set #[] 0 (.fresh 0 0 (!bz w))}:=by rw[<-cW];exact aaq _ rfl
 have ty:({s with heap:=h1}:Shared).TypeIs (.ref s.heap.objs.size) "set" := ⟨_,new,rfl⟩
 refine⟨ty,codeAny_call_builtin abq.init.plain ab9 (check_set_init_1 ty ?_)⟩;have el:its.length=zs.length:=eU hz;obtain⟨⟨c,d,dt,sl⟩,ho,rfl,n,rfl⟩:=hl;have gT:=kp _ _ ho;have lt:@LT.lt Nat _ l s.heap.objs.size:=aag ho;have il:h1.IsList l its.toArray:=⟨_,gT,rfl,n,rfl⟩
 have n1:=ac3;have n2:=acm;have n3:(Value.type "list"==Value.type "dict")=false:=by decide
 unfold Builtin.«set.__init__» noKeywords Builtin.Frozenset.updateFrom;generalize pi:pyIter=it;wp_walk
 subst pi;apply wpAny_pyIter_list il;apply wpAny_bind;apply wpAny_runValue;have W:=(aei (prog:=prog) (w:=w) (A:=A.in1.in1.in1) (by simpa using hh) h1.objs.size l (by rw[sz];exact aar (aa2 lt)) its.toArray).toS;have e0:its.toArray.size=zs.length:=by rw[aai];exact el
 rw[e0] at W;refine lX (led:=!bz w) (zs:=zs) W ?_ (λi v p=>?_) small zs.length 0 _ (abK _) ⟨⟨_,aaq _ rfl,rfl,rfl⟩,il.push _⟩ ?_ λt m x=>?_
 ·rw[sz];intro q;rcases aah.mp q with q|q
  ·exact absurd q (aar (aba _))
  ·exact absurd (aaf.mp q) (abS lt)
 ·have p':its[i]?=some v:=by simpa using p
  exact rd hz p'
 ·exact⟨_,#[],0,_,aab _ new,⟨rfl,rfl,rfl⟩,rfl,λe he=>by simp at he,λk=>by simp[dist],by decide,by rfl,rfl,rfl,λq=>absurd rfl q⟩
 ·obtain⟨h2,g2,d2,t2,o2⟩:=t;cases (show g2=s.gens from m.gens);cases (show d2=s.drawn from m.drawn);cases (show o2=s.os from m.os);apply wpAny_pure;refine wpAny_pure ⟨rfl,h h2 t2 x λb o e=>m.heap b o ?_ (aab _ (kp b o e))⟩;have lb:@LT.lt Nat _ b s.heap.objs.size:=aag e;rw[sz];intro q;rcases aah.mp q with q|q
  ·exact absurd q (aar lb)
  ·exact absurd (aaf.mp q) (aar (aa2 lb))
theorem AK{l:Addr}{its:List Value}{zs:List Str}{Q:Value->Shared->Prop}(hh:A.handled=none)(hl:s.heap.IsTuple l its.toArray)(hz:StrsAre its zs)(small:zs.length+1<scanBound)
  (h:∀(h':Heap) (tk:Nat),jJ prog w h' s.heap.objs.size zs (!bz w)->(∀b o,s.heap.get? b=some o->h'.get? b=some o)->Q (.ref s.heap.objs.size) {s with heap:=h',toks:=tk}) :
  wpAny (model prog w) A (call (.type "set") [.ref l]) Q E s:=by
 refine m5 abq (ab8 _) (rq (.ref l) ?_);generalize cW:s.heap.push {cls:=.type "set",dict:=none,data:=.set #[] 0 (.fresh 0 0 (!bz w))}=h1;have kp:∀b o,s.heap.get? b=some o->h1.get? b=some o:=λb o e=>by rw[<-cW];exact aab _ e
 have sz:h1.objs.size=s.heap.objs.size+1:=by rw[<-cW];exact aa1 ..
 have new:h1.get? s.heap.objs.size=some {cls:=.type "set",dict:=none,data:=.set #[] 0 (.fresh 0 0 (!bz w))}:=by rw[<-cW];exact aaq _ rfl
 have ty:({s with heap:=h1}:Shared).TypeIs (.ref s.heap.objs.size) "set" := ⟨_,new,rfl⟩
 refine⟨ty,codeAny_call_builtin abq.init.plain ab9 (check_set_init_1 ty ?_)⟩;have el:its.length=zs.length:=eU hz;obtain⟨⟨c,d,dt,sl⟩,ho,rfl,n,rfl⟩:=hl;have gT:=kp _ _ ho;have lt:@LT.lt Nat _ l s.heap.objs.size:=aag ho;have il:h1.IsTuple l its.toArray:=⟨_,gT,rfl,n,rfl⟩
 have n1:=yq;have n2:=rz;have n3:(Value.type "tuple"==Value.type "dict")=false:=by decide
 unfold Builtin.«set.__init__» noKeywords Builtin.Frozenset.updateFrom;generalize pi:pyIter=it;wp_walk
 subst pi;apply aeA il;apply wpAny_bind;apply wpAny_runValue;have W:=(Walks.tuple (prog:=prog) (w:=w) (A:=A.in1.in1.in1) (by simpa using hh) h1.objs.size l (by rw[sz];exact aar (aa2 lt)) its.toArray).toS;have e0:its.toArray.size=zs.length:=by rw[aai];exact el
 rw[e0] at W;refine lX (led:=!bz w) (zs:=zs) W ?_ (λi v p=>?_) small zs.length 0 _ (abK _) ⟨⟨_,aaq _ rfl,rfl,rfl⟩,il.push _⟩ ?_ λt m x=>?_
 ·rw[sz];intro q;rcases aah.mp q with q|q
  ·exact absurd q (aar (aba _))
  ·exact absurd (aaf.mp q) (abS lt)
 ·have p':its[i]?=some v:=by simpa using p
  exact rd hz p'
 ·exact⟨_,#[],0,_,aab _ new,⟨rfl,rfl,rfl⟩,rfl,λe he=>by simp at he,λk=>by simp[dist],by decide,by rfl,rfl,rfl,λq=>absurd rfl q⟩
 ·obtain⟨h2,g2,d2,t2,o2⟩:=t;cases (show g2=s.gens from m.gens);cases (show d2=s.drawn from m.drawn);cases (show o2=s.os from m.os);apply wpAny_pure;refine wpAny_pure ⟨rfl,h h2 t2 x λb o e=>m.heap b o ?_ (aab _ (kp b o e))⟩;have lb:@LT.lt Nat _ b s.heap.objs.size:=aag e;rw[sz];intro q;rcases aah.mp q with q|q
  ·exact absurd q (aar lb)
  ·exact absurd (aaf.mp q) (aar (aa2 lb))
end
end L2
namespace L3
open PySem
def eZ(xs:Array Nat):Prop:=∀i j (hi:i<xs.size) (hj:j<xs.size),i<j->xs[i]<xs[j]
theorem oT{xs:Array Nat}{j:Nat}(r:eZ xs):∀(fuel lo hi:Nat),lo<=hi->hi<=xs.size->hi-lo<=fuel->(∀i (h:i<xs.size),i<lo->xs[i]<j)->(∀i (h:i<xs.size),hi<=i->j<=xs[i]) ->
  SetTable.below.go xs j fuel lo hi<=xs.size/\(∀i (h:i<xs.size),i<SetTable.below.go xs j fuel lo hi->xs[i]<j)/\(∀i (h:i<xs.size),SetTable.below.go xs j fuel lo hi<=i->j<=xs[i])
 |0,lo,hi,a,b,c,p,q=>by
  have e:lo=hi:=by omega
  subst e;exact⟨b,p,q⟩
 |fuel+1,lo,hi,a,b,c,p,q=>by
  rw[SetTable.below.go];by_cases h:lo<hi
  ·rw[if_pos h];dsimp only;have hm:(lo+hi) / 2<xs.size:=by omega
   have e:xs.getD ((lo+hi) / 2) j=xs[(lo+hi) / 2]:=by simp[Array.getD,hm]
   rw[e];by_cases hx:xs[(lo+hi) / 2]<j
   ·rw[if_pos hx];refine oT r fuel _ _ (by omega) b (by omega) (λi hi' hl=>?_) q;by_cases ie:i=(lo+hi) / 2
    ·subst ie;exact hx
    ·exact ac0 (r i _ hi' hm (by omega)) hx
   ·rw[if_neg hx];refine oT r fuel _ _ (by omega) (by omega) (by omega) p (λi hi' hl=>?_);by_cases ie:i=(lo+hi) / 2
    ·subst ie;omega
    ·have:=r _ i hm hi' (by omega);omega
  ·rw[if_neg h];have e:lo=hi:=by omega
   subst e;exact⟨b,p,q⟩
theorem kF{xs:Array Nat}(r:eZ xs)(j:Nat):SetTable.below xs j<=xs.size/\(∀i (h:i<xs.size),i<SetTable.below xs j->xs[i]<j)/\(∀i (h:i<xs.size),SetTable.below xs j<=i->j<=xs[i]):=
 oT r _ _ _ (aaG _) (aac _) (by omega) (λi h z=>absurd z (ab7 _)) (λi h z=>absurd h (by omega))
theorem below_at{xs:Array Nat}(r:eZ xs){i j:Nat}(h:xs[i]?=some j):SetTable.below xs j=i:=by
 obtain⟨hi,e⟩:=acn.mp h;obtain⟨a,b,c⟩:=kF r j;rcases acI (SetTable.below xs j) i with q|q|q
 ·have:=c _ (by omega) (aac _)
  have:=r _ i (by omega) hi q
  omega
 ·exact q
 ·have:=b i hi q;omega
theorem jy{t:SetTable}(r:eZ t.place){i j:Nat}(h:t.place[i]?=some j):t.slot j=.live i:=by unfold SetTable.slot;rw[below_at r h];dsimp only;rw[h];simp
theorem AL{t:SetTable}(d:t.dummies=#[]){j:Nat}(h:∀i:Nat,t.place[i]?≠some j):t.slot j=.empty:=by
 unfold SetTable.slot;dsimp only;rw[if_neg (by simpa using h _)];have e:SetTable.has t.dummies j=false:=by rw[d];rfl
 rw[e];rfl
abbrev Probe:=SetTable.Probe
theorem AM{xs:Array Nat}(r:eZ xs){i:Nat}(hi:i<=xs.size):SetTable.below xs (if i=0 then 0 else xs.getD (i-1) 0+1)=i:=by
 obtain⟨a,b,c⟩:=kF r (if i=0 then 0 else xs.getD (i-1) 0+1);generalize hj:SetTable.below xs (if i=0 then 0 else xs.getD (i-1) 0+1)=j at a b c⊢;cases i with
 |zero=>
  rcases aeH j with h|h
  ·exact h
  ·have:=b 0 (by omega) h
   simp at this
 |succ k=>
  rw[if_neg (by omega),adl] at b c;have hk:k<xs.size:=by omega
  have e:xs.getD k 0=xs[k]:=by simp[hk]
  rw[e] at b c;rcases acI j (k+1) with h|h|h
  ·have:=c k hk (by omega)
   omega
  ·exact h
  ·have:=b (k+1) (by omega) h
   have:=r k (k+1) hk (by omega) (by omega)
   omega
end L3
namespace L2
open PySem PySem.Spec PyProof.Rows
theorem rD:entryFor table "set.__iter__" = some Builtin.«frozenset.__iter__»:=
 entryFor_alias (id':="frozenset.__iter__") (by kernel_rfl) rfl (by decide +kernel) (by kernel_rfl)
theorem dm:Slot "set_iterator" "__next__" "set_iterator.__next__":=
 .of (owner:="set_iterator") (n:="__next__") (by rw[afp,ad'];kernel_rfl) (by decide +kernel) (by decide +kernel) (by decide +kernel)
  (by first|exact .inl (by decide +kernel)|exact .inr (by decide +kernel)) (by rw[ach];kernel_rfl)
theorem k9:entryFor table "set_iterator.__next__" = some Builtin.«set_iterator.__next__»:=entryFor_of_tree (by kernel_rfl)
theorem lY(a:Value):argsOk "set_iterator.__next__" ⟨[a],[]⟩:=by unfold argsOk;kernel_rfl
theorem lZ:Slot "set_iterator" "__iter__" "set_iterator.__iter__":=
 .of (owner:="set_iterator") (n:="__iter__") (by rw[afp,ad'];kernel_rfl) (by decide +kernel) (by decide +kernel) (by decide +kernel)
  (by first|exact .inl (by decide +kernel)|exact .inr (by decide +kernel)) (by rw[ach];kernel_rfl)
theorem uF:entryFor table "set_iterator.__iter__" = some Builtin.«dict_keyiterator.__iter__»:=
 entryFor_alias (id':="dict_keyiterator.__iter__") (by kernel_rfl) rfl (by decide +kernel) (by kernel_rfl)
theorem wA(a:Value):argsOk "set_iterator.__iter__" ⟨[a],[]⟩:=by unfold argsOk;kernel_rfl
structure eF(w:World)(h:Heap)(a:Addr)(es:Array (Int×Value))(ep:Nat)(t:SetTable):Prop where
 ho:∃o,h.get? a=some o/\o.ExactSet/\o.data=.set es ep t
 fits:t.fits es.size=true
 led:t.led=!bz w
 pl:1<es.size->t.plain=false\/(t.plain=true/\L3.eZ t.place)
theorem eF.keep{w:World}{h h':Heap}{a:Addr}{es:Array (Int×Value)}{ep:Nat}{t:SetTable}(x:eF w h a es ep t)(k:∀o,h.get? a=some o->h'.get? a=some o):eF w h' a es ep t:=
 let ⟨o,ho,r⟩:=x.ho;{x with ho:=⟨o,k o ho,r⟩}
theorem eF.typeIs{w:World}{s:Shared}{a:Addr}{es:Array (Int×Value)}{ep:Nat}{t:SetTable}(x:eF w s.heap a es ep t):s.TypeIs (.ref a) "set" := let ⟨o,ho,e,_⟩:=x.ho;⟨o,ho,e.1⟩
theorem za{α:Type}(next:Nat->Nat):∀(n k:Nat) (left:List α) (out:Array α),left.length=n->(pickOrder.go next n k left out).toList.Perm (out.toList++left)
 |0,k,left,out,h=>by have e:left=[]:=acb h;subst e;simp[pickOrder.go]
 |n+1,k,left,out,h=>by have lt:next k % left.length<left.length:=ac6 _ (by omega);unfold pickOrder.go;rw[aad lt];dsimp only;refine(za next n (k+1) _ _ (by rw[adt lt];omega)).trans ?_;rw[acH,List.append_assoc];exact agb _ (kC left _ lt)
theorem CO{α:Type}(next:Nat->Nat)(xs:Array α):(pickOrder next xs).toList.Perm xs.toList:=by have h:=za next xs.size 0 xs.toList #[] (by simp);simpa [pickOrder] using h
def fK(h:Heap)(I S:Addr)(first:Value)(i n ep:Nat):Prop:=
 ∃o,h.get? I=some o/\o.cls=.type "set_iterator" /\ o.data=.fields #[first,.int i 0,.ref S,.int n 0,.int ep 0]
theorem fK.typeIs{s:Shared}{I S:Addr}{f:Value}{i n ep:Nat}(x:fK s.heap I S f i n ep):s.TypeIs (.ref I) "set_iterator" := let ⟨o,ho,e,_⟩:=x;⟨o,ho,e⟩
theorem fK.keep{h h':Heap}{I S:Addr}{f:Value}{i n ep:Nat}(x:fK h I S f i n ep)(k:∀o,h.get? I=some o->h'.get? I=some o):fK h' I S f i n ep:=let ⟨o,ho,r⟩:=x;⟨o,k o ho,r⟩
section
variable {prog:Program}{w:World}{A:Around}{E:Value->Shared->Prop}{s:Shared}
theorem gN{Q:Bool->Shared->Prop}(h:Q (bz w) s):wpAny (model prog w) A setsByText Q E s:=by unfold setsByText;apply wpAny_bind;apply wpAny_askSetting;exact wpAny_pure h
theorem zb{I:Addr}{o:Obj}{vs:Array Value}{Q:Option Value->Shared->Prop}(hh:A.handled=none)(ho:s.heap.get? I=some o)(hd:o.data=.fields vs)(h2:2<vs.size)
  (hQ:∀h',Heap.ExtBut I s.heap h'->Q none {s with heap:=h' }) :
  wpAny (model prog w) A.in1 (setField (.ref I) 2 .none>>=λ_=>newExc (.type "StopIteration") []>>=λe=>raiseNew (α:=Fin) e)
  (λfin s'=>∃v,fin=Fin.done (Flow.ret v)/\wpAny (model prog w) A (pure (some v)) Q E s')
  (λe s'=>wpAny (model prog w) A (do
     let __do_lift <-isInstance e (Value.type "StopIteration")
     if __do_lift=true then pure none else throw e) Q E s') s:=by
 refine wpAny_bind (wpAny_setField ho hd h2 ?_);show wpAny _ _ (newExc (.type "StopIteration") []>>=_) _ _ _
 refine wpAny_bind ?_;simp only[newExc,newTuple];refine wpAny_bind (wpAny_newObj_type ?_ (by size_fits));refine wpAny_bind (m:=firstArgMember _ _) (wpAny_of_eq (a:=Value.none) (by first|rfl|(simp only[firstArgMember];rfl)) ?_);refine wpAny_newObj_type ?_ (by size_fits);simp only[raiseNew];refine wpAny_bind (wpAny_handled ?_);rw[show A.in1.handled=none from hh];refine wpAny_bind (wpAny_pure (wpAny_throw ?_));refine wpAny_bind (wpAny_isInstance (T:="StopIteration") (b:=true) ⟨_,aaq _ rfl,rfl⟩ isSubtype_stop ?_);exact wpAny_pure (hQ _ (((aa' ..).extBut.push _).push _))
theorem nZ{I S:Addr}{sl i ep:Nat}{es:Array (Int×Value)}{t:SetTable}{Q:Option Value->Shared->Prop}(hh:A.handled=none)(hit:fK s.heap I S (.int sl 0) i es.size ep)(x:eF w s.heap S es ep t)(r:Option (Value×Nat))
  (hn:∀(Q':Option (Value×Nat)->Shared->Prop) E',Q' r s->wpAny (model prog w) A.in1 (setNext S sl i ep) Q' E' s)
  (h1:∀v nx h',r=some (v,nx)->fK h' I S (.int nx 0) (i+1) es.size ep->Heap.SameBut I s.heap h'->Q (some v) {s with heap:=h' })
  (h2:r=none->∀h',Heap.ExtBut I s.heap h'->Q none {s with heap:=h' }):wpAny (model prog w) A (pyNext (.ref I)) Q E s:=by
 obtain⟨o,ho,hc,hd⟩:=id hit;obtain⟨os,ix,Hh,jz⟩:=x.ho;unfold pyNext;refine wpAny_bind (wpAny_attempt (adO (name:=Str.ofString "__next__") hit.typeIs dm
  (wpAny_call_entry dm hit.typeIs k9 ?_ (lY _))))
 unfold Builtin.«set_iterator.__next__»;refine wpAny_bind (wpAny_pure ?_);refine wpAny_bind (wpAny_fieldsOf ho hd ?_);dsimp only;refine wpAny_bind (wpAny_setEntries_of ix jz x.fits ?_);rw[if_neg (by simp)];simp only[abN];refine wpAny_bind (hn _ _ ?_);cases r with
 |none=>exact zb hh ho hd (by simp) (h2 rfl)
 |some p =>obtain⟨v,nx⟩:=p;dsimp only;refine wpAny_bind (wpAny_setField ho hd (by simp) ?_);have gT:=aaZ (Obj.mapFields (·.setIfInBounds 0 (rawInt nx))) ho (aci (abv hd _));have hd1:=abv hd (·.setIfInBounds 0 (rawInt nx));refine wpAny_bind (wpAny_setField (s:={s with heap:=_}) gT hd1 (by simp) ?_);refine wpAny_pure ⟨_,rfl,wpAny_pure (h1 v nx _ rfl ⟨_,aaZ _ gT (aci (abv hd1 _)),((ady ..).trans (ady ..)).trans hc,?_⟩ ((aa' ..).trans (aa' ..)))⟩;rw[abv hd1];simp[rawInt]
theorem n6{I S T:Addr}{i ep:Nat}{es:Array (Int×Value)}{t:SetTable}{ord:List Nat}{Q:Option Value->Shared->Prop}(hh:A.handled=none)(hit:fK s.heap I S (.ref T) i es.size ep)(x:eF w s.heap S es ep t)
  (ht:s.heap.get? T=some {cls:=.type "tuple",data:=.seq (ord.map λ(k:Nat)=>rawInt k).toArray}) (le:∀k∈ord,k<es.size)
  (h1:∀k v h',ord[i]?=some k->es[k]?.map (·.2)=some v->fK h' I S (.ref T) (i+1) es.size ep->Heap.SameBut I s.heap h'->Q (some v) {s with heap:=h' })
  (h2:ord[i]?=none->∀h',Heap.ExtBut I s.heap h'->Q none {s with heap:=h' }):wpAny (model prog w) A (pyNext (.ref I)) Q E s:=by
 obtain⟨o,ho,hc,hd⟩:=id hit;obtain⟨os,ix,Hh,jz⟩:=x.ho;unfold pyNext;refine wpAny_bind (wpAny_attempt (adO (name:=Str.ofString "__next__") hit.typeIs dm
  (wpAny_call_entry dm hit.typeIs k9 ?_ (lY _))))
 unfold Builtin.«set_iterator.__next__»;refine wpAny_bind (wpAny_pure ?_);refine wpAny_bind (wpAny_fieldsOf ho hd ?_);dsimp only;refine wpAny_bind (wpAny_setEntries_of ix jz x.fits ?_);rw[if_neg (by simp)];simp only[abN];have nx:(List.map (λ(k:Nat)=>rawInt k) ord).toArray[i]?=Option.map (λk:Nat=>rawInt (k:Int)) ord[i]?:=by rw[aea,aan]
 refine wpAny_bind ?_;unfold seqItems?;refine wpAny_bind (wpAny_load ht (wpAny_pure ?_));dsimp only;rw[nx];cases hk:ord[i]? with
 |none =>rw[Option.map_none];dsimp only;refine wpAny_bind (wpAny_setField ho hd (by simp) ?_);have gT:=aaZ (Obj.mapFields (·.setIfInBounds 0 (rawInt 0))) ho (aci (abv hd _));have hd1:=abv hd (·.setIfInBounds 0 (rawInt 0));exact zb (s:={s with heap:=_}) hh gT hd1 (by simp) λh' e=>h2 hk h' λb o' hb q=>e b o' hb ((aa' ..).extBut b o' hb q)
 |some k =>have lt:=le k (aak hk);dsimp only[ac1,rawInt];refine wpAny_bind ?_;unfold setNextDrawn;refine wpAny_bind (wpAny_setState_of ix jz x.fits ?_);dsimp only;rw[if_neg (by simp),abN,aao lt];refine wpAny_pure ?_;refine wpAny_bind (wpAny_setField ho hd (by simp) ?_);refine wpAny_pure ⟨_,rfl,wpAny_pure (h1 k _ _ hk (by rw[aao lt];rfl) ⟨_,aaZ _ ho (aci (abv hd _)),(ady ..).trans hc,?_⟩ (aa' ..))⟩;rw[abv hd];simp[rawInt]
theorem CP{S:Addr}{sl i ep:Nat}{es:Array (Int×Value)}{t:SetTable}(x:eF w s.heap S es ep t)(hb:bz w=true)(Q':Option (Value×Nat)->Shared->Prop)(E':Value->Shared->Prop)
  (h:Q' (((pickOrder (w.params.setOrder S ep) es)[i]?).map λe=>(e.2,sl)) s):wpAny (model prog w) A (setNext S sl i ep) Q' E' s:=by
 obtain⟨os,ix,Hh,jz⟩:=x.ho;unfold setNext;refine wpAny_bind (wpAny_setState_of ix jz x.fits ?_);dsimp only;refine wpAny_bind (gN ?_);rw[if_pos hb,if_neg (by simp)];refine wpAny_bind ?_;unfold setWalk;refine wpAny_bind (wpAny_setState_of ix jz x.fits ?_);dsimp only;refine wpAny_bind (gN ?_);rw[if_pos hb];refine wpAny_bind (wpAny_askSetting ?_);exact wpAny_pure (wpAny_pure h)
theorem wB{S:Addr}{sl i ep:Nat}{es:Array (Int×Value)}{t:SetTable}(x:eF w s.heap S es ep t)(hb:bz w=false)(aJ:¬ 1<es.size\/t.plain=true)(Q':Option (Value×Nat)->Shared->Prop)(E':Value->Shared->Prop)
  (h:Q' (match es[SetTable.below t.place sl]?,t.place[SetTable.below t.place sl]? with|some (_,x),some j=>some (x,j+1)|_,_=>none) s):wpAny (model prog w) A (setNext S sl i ep) Q' E' s:=by
 obtain⟨os,ix,Hh,jz⟩:=x.ho;have ld:t.led=true:=by rw[x.led,hb];rfl
 unfold setNext;refine wpAny_bind (wpAny_setState_of ix jz x.fits ?_);dsimp only;refine wpAny_bind (gN ?_);rw[hb,if_neg aaw];rw[if_neg (by show ¬ ((!t.plain&&decide (es.size > 1))=true);rcases aJ with aJ|aJ<;>simp[aJ])];refine wpAny_bind ?_;show wpAny _ _ (if (!t.led&&!es.isEmpty)=true then (unsupported "set:maker-not-led" : Sem Unit) else pure ()) _ _ _
 rw[if_neg (by rw[ld];simp)];exact wpAny_pure (wpAny_pure h)
theorem zc{I S:Addr}{f:Value}{i n ep:Nat}{Q:Value->Shared->Prop}(hit:fK s.heap I S f i n ep)(h:Q (.ref I) s):wpAny (model prog w) A (pyIter (.ref I)) Q E s:=by
 refine aeW hit.typeIs lZ (wpAny_call_entry lZ hit.typeIs uF ?_ (wA _));show wpAny _ _ (ret (.ref I)) _ _ s
 exact wpAny_pure ⟨_,rfl,"set_iterator",_,hit.typeIs,dm.lookup,h⟩
theorem Fe{S I T:Addr}{es:Array (Int×Value)}{ep:Nat}{t:SetTable}{ys:List Value}{sl:Nat->Nat}(hIS:S≠I)(len:ys.length=es.size)
  (nx:∀(A:Around) (s:Shared) (i:Nat) (Q':Option (Value×Nat)->Shared->Prop) (E':Value->Shared->Prop),i<=es.size->eF w s.heap S es ep t->Q' ((ys[i]?).map λv=>(v,sl (i+1))) s->wpAny (model prog w) A (setNext S (sl i) i ep) Q' E' s)
  (A:Around) (hh:A.handled=none):WalksS prog w A I [I,S,T] [I] (λa b=>b=a) es.size (λi v=>ys[i]?=some v) (λi s=>fK s.heap I S (.int (sl i) 0) i es.size ep/\eF w s.heap S es ep t) where
 sub:=λb hb=>by simp at hb;simp[hb]
 grefl:=λ_=>rfl
 gtrans:=λ_ _ _ h1 h2=>h2.trans h1
 frame:=λi s h' tk st _ hk=>⟨st.1.keep λo e=>hk I (by simp) o e,st.2.keep λo e=>hk S (by simp) o e⟩
 item:=λi s Q E hi st hQ=>by
  have lt:i<ys.length:=by omega
  have e:ys[i]?=some ys[i]:=aad lt;refine nZ hh st.1 st.2 (some (ys[i],sl (i+1))) (λQ' E' q=>nx _ s i Q' E' (by omega) st.2 (by rw[e];exact q)) (λv n h' r Ff hs=>?_) λr=>nomatch r;cases r;exact hQ _ _ e ⟨Ff,st.2.keep λo q=>hs.extBut S o hIS q⟩ ⟨λb o hb q=>hs.extBut b o (λz=>hb (by simp[z])) q,rfl,rfl,rfl,aac _⟩
 done:=λs Q E st hQ=>by have e:ys[es.size]?=none:=abl (by omega);refine nZ hh st.1 st.2 none (λQ' E' q=>nx _ s _ Q' E' (aac _) st.2 (by rw[e];exact q)) (λv n h' r _ _=>nomatch r) λ_ h' he=>?_;exact hQ _ ⟨λb o hb q=>he b o (λz=>hb (by simp[z])) q,rfl,rfl,rfl,aac _⟩
 self:=λi s Q E st hQ=>zc st.1 hQ
theorem Fg{S I T:Addr}{es:Array (Int×Value)}{ep:Nat}{t:SetTable}{ord:List Nat}(hIS:S≠I)(hIT:T≠I)(len:ord.length=es.size)(le:∀k∈ord,k<es.size)
  (A:Around) (hh:A.handled=none):WalksS prog w A I [I,S,T] [I] (λa b=>b=a) es.size (λi v=>(ord.map λk=>(es[k]?.map (·.2)).getD .none)[i]?=some v)
   (λi s=>fK s.heap I S (.ref T) i es.size ep/\eF w s.heap S es ep t/\s.heap.get? T=some {cls:=.type "tuple",data:=.seq (ord.map λ(k:Nat)=>rawInt k).toArray}) where
 sub:=λb hb=>by simp at hb;simp[hb]
 grefl:=λ_=>rfl
 gtrans:=λ_ _ _ h1 h2=>h2.trans h1
 frame:=λi s h' tk st _ hk=>⟨st.1.keep λo e=>hk I (by simp) o e,st.2.1.keep λo e=>hk S (by simp) o e,hk T (by simp) _ st.2.2⟩
 item:=λi s Q E hi st hQ=>by
  refine n6 hh st.1 st.2.1 st.2.2 le (λk v h' hk hv Ff hs=>?_) λr=>?_
  ·refine hQ _ _ (by rw[aan,hk];simp[hv]) ⟨Ff,st.2.1.keep λo q=>hs.extBut S o hIS q,hs.extBut T _ hIT st.2.2⟩ ⟨λb o hb q=>hs.extBut b o (λz=>hb (by simp[z])) q,rfl,rfl,rfl,aac _⟩
  ·exact absurd (List.getElem?_eq_none_iff.mp r) (by omega)
 done:=λs Q E st hQ=>by
  refine n6 hh st.1 st.2.1 st.2.2 le (λk v h' hk _ _ _=>?_) λ_ h' he=>?_
  ·exact absurd hk (by rw[abl (by omega)];simp)
  ·exact hQ _ ⟨λb o hb q=>he b o (λz=>hb (by simp[z])) q,rfl,rfl,rfl,aac _⟩
 self:=λi s Q E st hQ=>zc st.1 hQ
theorem yr(p:Nat):SetTable.below #[p] 0=0:=by simp[SetTable.below,SetTable.below.go]
theorem yt(p:Nat):SetTable.below #[p] (p+1)=1:=by simp[SetTable.below,SetTable.below.go]
theorem zd{α:Type}(xs:Array α)(h:xs.size=1):∃e,xs=#[e]:=by
 obtain⟨l⟩:=xs;match l,h with
 |[e],_=>exact⟨e,rfl⟩
theorem Fh{S:Addr}{es:Array (Int×Value)}{ep:Nat}{t:SetTable}{Q:Value->Shared->Prop}(x:eF w s.heap S es ep t)(small:es.size<=sizeLine)
  (h:∀(I T:Addr) (ys:List Value) (St:Nat->Shared->Prop) (h':Heap) (dr:Drawn),ys.Perm (es.toList.map (·.2))->@LE.le Nat _ s.heap.objs.size I->(T=S\/@LE.le Nat _ s.heap.objs.size T)->(∀b o,s.heap.get? b=some o->h'.get? b=some o) ->
   @LT.lt Nat _ I h'.objs.size->@LT.lt Nat _ T h'.objs.size ->
   (∀A:Around,A.handled=none->WalksS prog w A I [I,S,T] [I] (λa b=>b=a) es.size (λi v=>ys[i]?=some v) St)->(∀i s',St i s'->s'.TypeIs (.ref I) "set_iterator")->St 0 {s with heap:=h',drawn:=dr}->Q (.ref I) {s with heap:=h',drawn:=dr}) :
  wpAny (model prog w) A (pyIter (.ref S)) Q E s:=by
 obtain⟨os,ix,Hh,jz⟩:=x.ho;have CQ:@LT.lt Nat _ S s.heap.objs.size:=aag ix;refine aeW x.typeIs aeb (wpAny_call_entry aeb x.typeIs rD ?_ (PySem.F.args_set_iter_1 _));unfold Builtin.«frozenset.__iter__» Builtin.Frozenset.slot0 slotArgs;simp only[adL,ab0,aaz,↓reduceIte,bind_assoc,abJ,bne_self_eq_false];unfold Builtin.Frozenset.addrOf Builtin.Frozenset.sizeOf;refine wpAny_bind (wpAny_pure ?_);dsimp only;refine wpAny_bind (wpAny_pure ?_);refine wpAny_bind (wpAny_bind (wpAny_setEntries_of ix jz x.fits (wpAny_pure ?_)));refine wpAny_bind ?_;unfold setDrawn;refine wpAny_bind (wpAny_setState_of ix jz x.fits ?_);dsimp only;refine wpAny_bind (gN ?_);refine wpAny_pure ?_;show wpAny _ _ (if (!bz w&&(!t.plain&&decide (es.size > 1)))=true then _ else _) _ _ _
 have md:∀(ys:List Value) (sl:Nat->Nat),sl 0=0->ys.Perm (es.toList.map (·.2))->(∀(A:Around) (s:Shared) (i:Nat) (Q':Option (Value×Nat)->Shared->Prop) (E':Value->Shared->Prop),i<=es.size->eF w s.heap S es ep t->Q' ((ys[i]?).map λv=>(v,sl (i+1))) s->wpAny (model prog w) A (setNext S (sl i) i ep) Q' E' s) ->
   wpAny (model prog w) A.in1 (do
     let first <-pure (rawInt 0)
     let __do_lift <-setEpoch S
     let __do_lift <-newFields "set_iterator" [first,rawInt 0,Value.ref S,rawInt es.size,rawInt __do_lift]
     ret __do_lift) (λfin s'=>∃v,fin=Fin.done (Flow.ret v)/\∃T' r,s'.TypeIs v T'/\typeLookup (Value.type T') (Str.ofString "__next__")=pure (some r)/\Q v s') E s:=λys sl s0 hp nx=>by
  have len:ys.length=es.size:=by rw[hp.length_eq];simp
  refine wpAny_bind (wpAny_pure (wpAny_bind (wpAny_setEpoch_of ix jz x.fits ?_)));refine wpAny_bind (wpAny_newObj_type (wpAny_pure ⟨_,rfl,"set_iterator",_,⟨_,aaq _ rfl,rfl⟩,dm.lookup,?_⟩));have sz:(s.heap.push {cls:=.type "set_iterator",data:=.fields #[rawInt 0,rawInt 0,Value.ref S,rawInt es.size,rawInt ep]}).objs.size=s.heap.objs.size+1:=aa1 ..;refine h s.heap.objs.size S ys _ _ s.drawn hp (aac _) (.inl rfl) (λb o e=>aab _ e) (by rw[sz];exact aba _) (by rw[sz];exact aa2 CQ)
   (λA hh=>Fe (t:=t) (ep:=ep) (sl:=sl) (aar CQ) len nx A hh) (λi s' st=>st.1.typeIs) ⟨⟨_,aaq _ rfl,rfl,by rw[s0];simp[rawInt]⟩,x.keep λo e=>aab _ e⟩
 cases hb:bz w with
 |true =>rw[if_neg (by simp)];refine md ((pickOrder (w.params.setOrder S ep) es).toList.map (·.2)) (λ_=>0) rfl ((CO _ es).map _) λA s i Q' E' _ x' q=>CP x' hb Q' E' ?_;rw[aan,aaO,Option.map_map] at q;exact q
 |false=>
  have fz:t.place.size=es.size:=by
   have:=x.fits
   unfold SetTable.fits at this;simp at this;exact this.1
  by_cases many:1<es.size
  ·rcases x.pl many with np|⟨yp,ri⟩;rotate_left
   ·rw[if_neg (by rw[yp];simp)];refine md (es.toList.map (·.2)) (λi=>if i=0 then 0 else t.place.getD (i-1) 0+1) rfl (.refl _) λA s i Q' E' hi x' q=>wB x' hb (.inr yp) Q' E' ?_;have bl:SetTable.below t.place (if i=0 then 0 else t.place.getD (i-1) 0+1)=i:=L3.AM ri (by rw[fz];exact hi);rw[bl];have e1:(es.toList.map (·.2))[i]?=(es[i]?).map (·.2):=by rw[aan,aaO]
    rw[e1] at q;by_cases c:i<es.size
    ·rw[aao c] at q⊢;rw[aao (show i<t.place.size by omega)];have e2:t.place.getD (i+1-1) 0=t.place[i]'(by omega):=by simp[fz,c]
     simp only[Nat.add_one_ne_zero,aa9] at q;rw[e2] at q;exact q
    ·rw[Array.getElem?_eq_none (by omega)] at q⊢;exact q
   rw[if_pos (by rw[np];simp[many])];refine wpAny_bind (qf es.size _ _ _ (by simp) λord dr hp=>?_);have lo:ord.length=es.size:=by rw[hp.length_eq];simp
   have le:∀k∈ord,k<es.size:=λk hk=>by simpa using hp.mem_iff.mp hk
   refine wpAny_bind (wpAny_newTuple ?_ (by rw[aaa,lo];exact small));generalize cW:s.heap.push {cls:=.type "tuple",data:=.seq (ord.map λ(k:Nat)=>rawInt k).toArray}=h1;have kp:∀b o,s.heap.get? b=some o->h1.get? b=some o:=λb o e=>by rw[<-cW];exact aab _ e
   have sz:h1.objs.size=s.heap.objs.size+1:=by rw[<-cW];exact aa1 ..
   have new:h1.get? s.heap.objs.size=some {cls:=.type "tuple",data:=.seq (ord.map λ(k:Nat)=>rawInt k).toArray}:=by rw[<-cW];exact aaq _ rfl
   refine wpAny_bind (wpAny_setEpoch_of (s:={s with heap:=h1,drawn:=dr}) (kp _ _ ix) jz x.fits ?_);refine wpAny_bind (wpAny_newObj_type (wpAny_pure ⟨_,rfl,"set_iterator",_,⟨_,aaq _ rfl,rfl⟩,dm.lookup,?_⟩));have tW:(h1.push {cls:=.type "set_iterator",data:=.fields #[Value.ref s.heap.objs.size,rawInt 0,Value.ref S,rawInt es.size,rawInt ep]}).objs.size=h1.objs.size+1:=aa1 ..;refine h h1.objs.size s.heap.objs.size _ _ _ dr ?_ (by rw[sz];exact aa7 _) (.inr (aac _)) (λb o e=>aab _ (kp b o e)) (by rw[tW];exact aba _) (by rw[tW,sz];exact aa2 (aba _))
    (λA hh=>Fg (t:=t) (ep:=ep) (ord:=ord) (by rw[sz];exact aar (aa2 CQ)) (by rw[sz];exact aar (aba _)) lo le A hh) (λi s' st=>st.1.typeIs) ⟨⟨_,aaq _ rfl,rfl,by simp[rawInt]⟩,x.keep λo e=>aab _ (kp _ _ e),aab _ new⟩
   refine(hp.map _).trans (.of_eq ?_);refine adz λj=>?_;rw[aan,aan];by_cases hj:j<es.size
   ·have e1:(List.range es.size)[j]?=some j:=List.getElem?_range hj;have e2:es.toList[j]?=some es[j]:=by simp[hj]
    rw[e1,e2];simp[hj]
   ·have e1:(List.range es.size)[j]?=none:=abl (by simp;omega);have e2:es.toList[j]?=none:=abl (by simp;omega);rw[e1,e2];rfl
  ·rw[if_neg (by simp[many])];refine md (es.toList.map (·.2)) (λi=>if i=0 then 0 else t.place.getD 0 0+1) rfl (.refl _) λA s i Q' E' hi x' q=>wB x' hb (.inl many) Q' E' ?_;have e0:es.size=0\/es.size=1:=by omega
   rcases e0 with e0|e0
   ·have e1:i=0:=by omega
    subst e1;have ee:es=#[]:=Array.eq_empty_of_size_eq_zero e0;subst ee;simpa using q
   ·obtain⟨e,rfl⟩:∃e,es=#[e]:=zd es e0;obtain⟨p,hp⟩:∃p,t.place=#[p]:=zd t.place (by rw[fz];rfl);rw[hp];have hi':i=0\/i=1:=by simp at hi;omega
    rcases hi' with rfl|rfl
    ·rw[if_pos rfl,yr];simpa [hp] using q
    ·rw[if_neg (by decide)]
     have:SetTable.below #[p] ((#[p]:Array Nat).getD 0 0+1)=1:=yt p
     rw[this];simpa using q
theorem Fi{r:Addr}{Q:Bool->Shared->Prop}(hT:s.TypeIs (.ref r) "set")(h:Q false s):wpAny (model prog w) A (Builtin.List.listLengthHint (.ref r)) Q E s:=by
 unfold Builtin.List.listLengthHint;refine wpAny_bind (wpAny_specialOf hT PySem.F.slot_set_len.lookup ?_);generalize CS:("set.__len__" : String)=Ls;wp_delta
 rw[show splitId Ls=some ("set","__len__") from by subst CS;decide +kernel];subst CS;refine wpAny_bind (wpAny_isInstance (T:="set") (b:=true) hT (by rw[ach];kernel_rfl) ?_);refine abB (λjA=>absurd jA (by decide)) (λ_=>?_);refine abB (λ_=>?_) (λjA=>absurd (by decide +kernel) jA);refine wpAny_bind (wpAny_typeOf hT ?_);exact wpAny_pure h
theorem AN{S L:Addr}{es:Array (Int×Value)}{ep:Nat}{t:SetTable}{R:Result->Shared->Prop}(x:eF w s.heap S es ep t)(small:es.size<=sizeLine)(hh:A.handled=none)(hSL:L≠S)(res:Value)(c₀:Nat)(hL:s.heap.get? L=some {cls:=.type "list",data:=.seq #[] c₀})
  (hR:∀h' tk dr acc' c',(∀b o,b≠L->s.heap.get? b=some o->h'.get? b=some o)->h'.get? L=some {cls:=.type "list",dict:=none,data:=.seq acc' c',slots:=#[]}->acc'.toList.Perm (es.toList.map (·.2))->R (.ok (.ret res)) {s with heap:=h',toks:=tk,drawn:=dr}) :
  wpAny (model prog w) A.in1 (Builtin.List.listExtendWith (.ref L) (.ref S) res)
   (λfin s'=>match fin with|.done f=>R (.ok f) s'|.again c'=>c'.quiet=true/\codeAny (model prog w) A c' R s') (λe s'=>R (.error e) s') s:=by
 have Rb:@LT.lt Nat _ L s.heap.objs.size:=aag hL;unfold Builtin.List.listExtendWith;refine wpAny_bind (wpAny_typeOf (T:="set") x.typeIs ?_);have h1:Builtin.List.listSameRef (.ref L) (.ref S)=false:=by simp[Builtin.List.listSameRef,hSL]
 have n1:(Value.type "set"==Value.type "list")=false:=by decide
 have n2:(Value.type "set"==Value.type "tuple")=false:=by decide
 simp only[h1,n1,n2,aeo,aaz,aa9];refine wpAny_bind (Fh x small λI T ys St h' dr hp hI hT kp ltI cO W ty st=>?_);have hLf:L∉[I,S,T]:=by
  simp only[aah,ab4,or_false,not_or];refine⟨aar (aaD Rb hI),hSL,?_⟩;rcases hT with hT|hT
  ·rw[hT];exact hSL
  ·exact aar (aaD Rb hT)
 have W1:=W A.in1 (by simpa using hh);have len:ys.length=es.size:=by rw[hp.length_eq];simp
 have key:∀(h:Heap) (c₁ tk:Nat),St 0 {s with heap:=h,toks:=tk,drawn:=dr}->(∀b o,b≠L->s.heap.get? b=some o->h.get? b=some o) ->
   h.get? L=some {cls:=.type "list",data:=.seq #[] c₁}->codeAny (model prog w) A (.builtin "list.extend.loop" ⟨[.ref L,.ref I,res],[]⟩) R {s with heap:=h,toks:=tk,drawn:=dr}:=by
  intro h c₁ tk hst hk wC;refine aek W1 small L hLf res es.size 0 _ #[] c₁ rfl (aaG _) hst wC (af9 _) λs' acc' c' hm mf e5=>?_;obtain⟨h2,g2,d2,t2,o2⟩:=s';cases (show g2=s.gens from hm.gens);cases (show d2=dr from hm.drawn);cases (show o2=s.os from hm.os);refine hR h2 t2 dr acc' c' (λb o hb e=>hm.heap b o (λhmem=>?_) (hk b o hb e)) mf ?_
  ·rcases aah.mp hmem with e'|hmem
   ·exact hb e'
   ·exact absurd (aag e) (by rw[aaf.mp hmem];exact adB.mpr hI)
  ·have e:acc'.toList=ys:=by
    refine adz λj=>?_;by_cases hj:j<es.size
    ·have l1:j<acc'.size:=by rw[e5.1];exact hj
     have e1:acc'[j]?=some acc'[j]:=by simp[l1]
     rw[e5.2 j _ e1,aaO];exact e1
    ·rw[abl (by rw[aau,e5.1];omega),abl (by omega)]
   rw[e];exact hp
 have wC:=kp _ _ hL;have x1:=x.keep λo e=>kp _ _ e;refine wpAny_bind (wpAny_holding (Fi (s:={s with heap:=h',drawn:=dr}) x1.typeIs ?_));refine abB (λ_=>?_) (λ_=>wpAny_pure ⟨abO ab2 _,key _ c₀ _ st (λb o _ e=>kp b o e) wC⟩);refine wpAny_bind (wpAny_rule ?_);refine wpAny_bind ?_;show wpAny _ _ (updateSeq L (·.push .none)>>=λ_=>updateSeq L (·.pop)) _ _ _
 refine wpAny_bind (wpAny_updateSeq wC rfl ?_);have CT:=aaZ (Obj.mapSeq (·.push Value.none)) wC rfl;refine wpAny_updateSeq (hz:=by seq_fits) CT rfl ?_;have Lu:=aaZ (Obj.mapSeq (·.pop)) CT rfl;refine wpAny_pure ⟨abO ab2 _,key _ _ _ ?_ (λb o hb e=>?_) Lu⟩
 ·refine W1.frame 0 _ _ _ st (aac _) λb hb o e=>?_;have Rc:b≠L:=λh=>hLf (h▸hb);exact(aaQ _ _ (aaI Rc)).trans ((aaQ _ _ (aaI Rc)).trans e)
 ·exact(aaQ _ _ (aaI hb)).trans ((aaQ _ _ (aaI hb)).trans (kp _ _ e))
theorem jK{S:Addr}{es:Array (Int×Value)}{ep:Nat}{t:SetTable}{R:List Value->Shared->Prop}(x:eF w s.heap S es ep t)(small:es.size<=sizeLine)(hh:A.handled=none)
  (h:∀(h':Heap) (tk:Nat) (dr:Drawn) (acc:List Value),(∀b o,s.heap.get? b=some o->h'.get? b=some o)->acc.Perm (es.toList.map (·.2))->R acc {s with heap:=h',toks:=tk,drawn:=dr}) :
  wpAny (model prog w) A (collect (.ref S)) R E s:=by
 obtain⟨os,ix,_⟩:=x.ho;have CQ:@LT.lt Nat _ S s.heap.objs.size:=aag ix;unfold collect;refine wpAny_bind (wpAny_runValue (codeAny_builtin PySem.F.entry_proto_collect ?_));rw[abj PySem.F.plain_proto_collect _];show wpAny _ A.in1 (newList []>>=λl=>again (.builtin "list.__iadd__" ⟨[l,.ref S],[]⟩)) _ _ s
 refine wpAny_bind (wpAny_newObj_type ?_);refine wpAny_pure ⟨abO adP _,codeAny_builtin PySem.F.entry_list_iadd ?_⟩;rw[abj adP _];have hL:(s.heap.push {cls:=.type "list",data:=.seq ([]:List Value).toArray}).get? s.heap.objs.size=some {cls:=.type "list",data:=.seq #[]}:=aaq _ rfl;show wpAny _ A.in1 (Builtin.List.listExtendWith (.ref s.heap.objs.size) (.ref S) (.ref s.heap.objs.size)) _ _ _
 have key:=AN (prog:=prog) (w:=w) (A:=A) (s:={s with heap:=s.heap.push {cls:=.type "list",data:=.seq ([]:List Value).toArray} })
  (R:=λ(q:Result) (s':Shared)=>∃(h':Heap) (tk:Nat) (dr:Drawn) (acc':Array Value) (c':Nat),q=.ok (.ret (.ref s.heap.objs.size))/\s'={s with heap:=h',toks:=tk,drawn:=dr} /\
   (∀b o,s.heap.get? b=some o->h'.get? b=some o)/\h'.get? s.heap.objs.size=some {cls:=.type "list",dict:=none,data:=.seq acc' c',slots:=#[]}/\acc'.toList.Perm (es.toList.map (·.2)))
  (x.keep λo e=>aab _ e) small hh (abS CQ) (.ref s.heap.objs.size) 0 hL
  (λh' tk dr acc' c' hk mf e5=>⟨h',tk,dr,acc',c',rfl,rfl,λb o e=>hk b o (aar (aag e)) (aab _ e),mf,e5⟩)
 refine wpAny_mono key (λfin s' x=>?_) λe s' x=>?_
 ·cases fin with
  |done f=>
   obtain⟨h',tk,dr,acc',c',e,rfl,hk,mf,e5⟩:=x;cases e;show wpAny _ A (load s.heap.objs.size>>=_) _ _ _
   refine wpAny_bind (wpAny_load mf ?_);exact wpAny_pure (h h' tk dr acc'.toList hk e5)
  |again c₁=>
   refine⟨x.1,codeAny_mono x.2 λq s₂ y=>?_⟩;obtain⟨h',tk,dr,acc',c',rfl,rfl,hk,mf,e5⟩:=y;show wpAny _ A (load s.heap.objs.size>>=_) _ _ _
   refine wpAny_bind (wpAny_load mf ?_);exact wpAny_pure (h h' tk dr acc'.toList hk e5)
 ·obtain⟨_,_,_,_,_,e',_⟩:=x;cases e'
theorem iG.Fj{a:Addr}{h:Heap}{zs:List Str}{o:Obj}{es:Array (Int×Value)}{ep:Nat}{t:SetTable}(x:iG prog w h a zs (!bz w) o es ep t):eF w h a es ep t:=
 ⟨⟨o,x.ho,x.ex,x.hd⟩,x.fits,x.led,λq=>.inl (x.pl (by omega))⟩
end
theorem d9{α:Type}[DecidableEq α]:∀{l m:List α},l.Nodup->(∀x∈l,x∈m)->m.length<=l.length->l.Perm m
 |[],m,_,_,h=>by
  have:m=[]:=acb (by simpa using h)
  rw[this]
 |x::l,m,nd,sub,h=>by
  have nd':=aaT.mp nd;have hx:=sub x aal;have p:=List.perm_cons_erase hx;refine(List.Perm.cons x (d9 nd'.2 (λy hy=>?_) ?_)).trans p.symm
  ·have:=p.mem_iff.mp (sub y (aae _ hy))
   rcases aah.mp this with e|e
   ·exact absurd (e▸hy) nd'.1
   ·exact e
  ·have:=acx hx
   simp at h;omega
theorem Jb{σ:List Str}{z:Str}(h:σ.Nodup):(fg σ z).Nodup:=by
 unfold fg;split
 ·exact h
 ·rename_i q;exact aaT.mpr ⟨q,h⟩
theorem qh(zs:List Str):(dist zs).Nodup:=by
 unfold dist
 have:∀(zs σ:List Str),σ.Nodup->(zs.foldl fg σ).Nodup:=by
  intro zs;induction zs with
  |nil=>intro σ h;exact h
  |cons z zs ih=>intro σ h;exact ih _ (Jb h)
 exact this zs [] .nil
theorem Fm{zs:List Str}{k:Str}:k∈dist zs ↔ k∈zs:=by
 unfold dist
 have:∀(zs σ:List Str),k∈zs.foldl fg σ ↔ k∈σ\/k∈zs:=by
  intro zs;induction zs with
  |nil=>intro σ;simp
  |cons z zs ih=>intro σ;rw[abY,ih,kq,aah];exact⟨λh=>by rcases h with(h|h)|h<;>simp[h],λh=>by rcases h with h|h|h<;>simp[h]⟩
 simpa using this zs []
theorem wD:∀(us:List Value),(∀u∈us,∃z t,u=.str z t)->∃zs,StrsAre us zs
 |[],_=>⟨[],.nil⟩
 |u::us,h=>by obtain⟨z,t,rfl⟩:=h u aal;obtain⟨zs,q⟩:=wD us λv hv=>h v (aae _ hv);exact⟨z::zs,.cons z t q⟩
theorem Fn:∀{us:List Value} {zs:List Str} {z:Str},StrsAre us zs->(z∈zs ↔ ∃u∈us,Value.isStrOf z u=true):=by
 intro us zs z h;induction h with
 |nil=>simp
 |cons y t _ ih=>
  rw[aah,ih];constructor
  ·rintro(rfl|⟨u,hu,q⟩)
   ·exact⟨_,aal,by simp[Value.isStrOf]⟩
   ·exact⟨u,aae _ hu,q⟩
  ·rintro⟨u,hu,q⟩;rcases aah.mp hu with rfl|hu
   ·obtain⟨t',e⟩:=ac8 q;cases e;exact .inl rfl
   ·exact .inr ⟨u,hu,q⟩
theorem CU:∀{us vs:List Value},us.Perm vs->∀{zs:List Str},StrsAre us zs->∃ys,StrsAre vs ys/\zs.Perm ys:=by
 intro us vs p;induction p with
 |nil=>intro zs h;exact⟨zs,h,.refl _⟩
 |cons x _ ih=>intro zs h;cases h with|cons z t h=>obtain⟨ys,q,r⟩:=ih h;exact⟨z::ys,.cons z t q,.cons z r⟩
 |swap x y l=>intro zs h;cases h with|cons z t h=>cases h with|cons z' t' h=>exact⟨_,.cons z' t' (.cons z t h),.swap _ _ _⟩
 |trans _ _ Lv Lw=>intro zs h;obtain⟨ys,q,r⟩:=Lv h;obtain⟨ws,q',r'⟩:=Lw q;exact⟨ws,q',r.trans r'⟩
section
variable {prog:Program}{w:World}
theorem iG.vals{a:Addr}{h:Heap}{zs:List Str}{led:Bool}{o:Obj}{es:Array (Int×Value)}{ep:Nat}{t:SetTable}(x:iG prog w h a zs led o es ep t){acc:List Value}(p:acc.Perm (es.toList.map (·.2))):∃ys,StrsAre acc ys/\ys.Perm (dist zs):=by
 obtain⟨ks,hk⟩:=wD (es.toList.map (·.2)) λu hu=>by obtain⟨e,he,rfl⟩:=aaK.mp hu;obtain⟨⟨k,hk,_⟩,_⟩:=x.el e he;obtain⟨t,q⟩:=ac8 (x:=k) (v:=e.2) hk;exact⟨k,t,q⟩
 obtain⟨ys,hy,q⟩:=CU p.symm hk;refine⟨ys,hy,q.symm.trans (d9 (qh zs) (λz hz=>?_) ?_).symm⟩
 ·obtain⟨e,he,r⟩:=(x.mem z).mp (decide_eq_true hz);exact(Fn hk).mpr ⟨e.2,aaK.mpr ⟨e,he,rfl⟩,r⟩
 ·have:=eU hk
  rw[aaa,aau,x.size] at this;omega
end
theorem yu{xs ys:List Str}(p:xs.Perm ys):aK xs=aK ys:=lU ((eV xs).trans p) (pZ xs)
def oU(P:Program)(w:World)(a:Addr)(zs:List Str):HO:=.ext λh=>jJ P w h a zs (!bz w)
theorem Inv.drawn{X:Cx}{pins:List (Addr×Obj)}{σ:St}{H:Hp}{s:Shared}{dr:Drawn}(I:Inv X pins σ H s):Inv X pins σ H {s with drawn:=dr}:=
 ⟨I.ok,I.os,I.bare,I.base,I.loc,I.cell,I.free,I.dX,I.pin,I.aG,I.len⟩
section
variable {X:Cx}
theorem Jc{H:Hp}{h:Heap}{a:Addr}{zs:List Str}(x:jJ X.prog X.w h a zs (!bz X.w)):bc X.prog X.w H h a (oU X.prog X.w a zs):=by refine⟨x,?_,λh1 h2 q k=>q.keep λo e=>k o e⟩;obtain⟨o,es,ep,t,y⟩:=x;exact⟨o,y.ho⟩
theorem wF(hc:X.calm=true):bV X (.type "set") (λxs H Q=>∃(p:Addr) (zs:List Str),xs=[.ref p]/\(ar X.K H p (zs.map V.str)\/aZ X.K H p (zs.map V.str))/\zs.length+1<scanBound/\∀l,H l=none->Q (.ref l) (upd H l (oU X.prog X.w l zs))):=by
 rintro pins s σ H xs us Q I r ⟨p,zs,rfl,hp,small,q⟩;obtain⟨u,rfl,rx⟩:=vals1 r;cases rx;have fr:H s.heap.objs.size=none:=I.aG.fresh (aac _);have fin:∀(h':Heap) (tk:Nat),jJ X.prog X.w h' s.heap.objs.size zs (!bz X.w)->(∀b o,s.heap.get? b=some o->h'.get? b=some o)->EP X pins σ Q (.ref s.heap.objs.size) {s with heap:=h',toks:=tk}:=λh' tk T kp =>⟨.ref s.heap.objs.size,_,I.laid (t':=tk) kp (aac _) (Jc T),rfl,q _ fr⟩
 rcases hp with hp|hp
 ·obtain⟨its,rv,pl,_⟩:=I.list hp;exact CN (I.ok.hd hc) pl.isList (gq rv) small fin
 ·obtain⟨its,rv,pl,_⟩:=I.tuple hp;exact AK (I.ok.hd hc) pl (gq rv) small fin
theorem qi(hc:X.calm=true):bV X (.builtin "sorted") (λxs H Q=>∃(p:Addr) (zs:List Str),xs=[.ref p]/\H p=some (oU X.prog X.w p zs)/\zs.length<64/\∀l,H l=none->Q (.ref l) (upd H l (.lst ((aK (dist zs)).map V.str)))):=by
 rintro pins s σ H xs us Q I r ⟨p,zs,rfl,hp,aJ,q⟩;obtain⟨u,rfl,rx⟩:=vals1 r;cases rx;obtain⟨⟨o,es,ep,t,x⟩,_⟩:=I.aG _ _ hp;have kG:(dist zs).length<64:=abp (q9 zs) aJ;refine ab1 ad0 adJ adK (args_sorted1 _) ?_;unfold Builtin.«sorted»;apply wpAny_bind (m:=checkCount "sorted" 1 1 _);apply wpAny_pure;apply wpAny_bind;refine jK (A:=X.A.in1) x.Fj (by rw[x.size];exact aam (aaU kG) (by decide)) (by exact I.ok.hd hc) λh1 tk dr acc keep pm=>?_;obtain⟨ys,txt,py⟩:=x.vals pm;have la:acc.length=(dist zs).length:=by rw[eU txt];exact py.length_eq
 apply wpAny_bind;refine wpAny_newList ?_ (by rw[la];exact aam (aaU kG) (by decide));apply wpAny_bind;apply wpAny_holding;refine wpAny_mono (tT (prog:=X.prog) (w:=X.w) (s:={s with drawn:=dr}) (h:=h1) (tk:=tk) (Q:=EP X pins σ Q) txt (by rw[la];exact kG) λout n h2 o1 o2 o3=>?_) (λ_ _ z=>wpAny_pure ⟨_,rfl,z⟩) λ_ _ z=>z;rw[yu py] at o1;have no:s.heap.get? h1.objs.size=none:=by
  cases e:s.heap.get? h1.objs.size with
  |none=>rfl
  |some o=>exact absurd (aag (keep _ _ e)) (aaV _)
 have noH:H h1.objs.size=none:=by
  cases e:H h1.objs.size with
  |none=>rfl
  |some o =>obtain⟨u,eu⟩:=(I.aG _ _ e).there;rw[no] at eu;cases eu
 refine⟨.ref h1.objs.size,_,(I.drawn (dr:=dr)).uR (t':=tk) (o:=.lst ((aK (dist zs)).map V.str)) (λb o e=>o2 _ _ (keep _ _ e)) no noH ?_,rfl,q _ noH⟩;exact⟨by rw[aaa,cy];exact aam (aaU kG) (by decide),out,n,rg o1,o3⟩
theorem CV{P:Program}{w:World}{K:PySem.W.Frag}(hc:X.calm=true)(hP:X.prog=P:=by rfl)(hw:X.w=w:=by rfl)(hK:X.K=K:=by rfl):bV X (.type "set") (λxs H Q=>∃(p:Addr) (zs:List Str),xs=[.ref p]/\(ar K H p (zs.map V.str)\/aZ K H p (zs.map V.str))/\zs.length+1<scanBound/\∀l,H l=none->Q (.ref l) (upd H l (oU P w l zs))):=by subst hP hw hK;exact wF hc
theorem wG{P:Program}{w:World}(hc:X.calm=true)(hP:X.prog=P:=by rfl)(hw:X.w=w:=by rfl):bV X (.builtin "sorted") (λxs H Q=>∃(p:Addr) (zs:List Str),xs=[.ref p]/\H p=some (oU P w p zs)/\zs.length<64/\∀l,H l=none->Q (.ref l) (upd H l (.lst ((aK (dist zs)).map V.str)))):=by subst hP hw;exact qi hc
end
def CW(K:PySem.W.Frag)(a:Addr):It:=
 ⟨λi H=>∃xs x,ar K H a xs/\xs[i]?=some x,λi H x H'=>∃q y,H q=none/\(∀xs,ar K H a xs->xs[i]?=some y)/\x=.ref q/\H'=upd H q (.tup [.int i,y]),λi H=>∃xs,ar K H a xs/\xs.length<=i⟩
theorem CY{P:Program}{w:World}{K:PySem.W.Frag}{elts:List Expr}{x1}{tp:Pos}(a e it:Addr)(ne:e≠it):Turn P w K (.Tuple elts x1 tp) (CW K a) [e,it] e (λi h=>(∃old,IsEnum h e it i old)/\h.IsListIter it a i) where
 mem:=by simp
 obj:=λi h st b hb=>by
  obtain⟨⟨old,he⟩,o,ho,c,d⟩:=st;rcases aah.mp hb with q|q
  ·subst q;exact⟨_,he,λv z=>nomatch z⟩
  ·have q':b=it:=by simpa using q
   subst q';exact⟨o,ho,λv z=>by rw[d] at z;cases z⟩
 keep:=λi h h' st k=>⟨let ⟨old,he⟩:=st.1;⟨old,k e (by simp) _ he⟩,st.2.at λo q=>k it (by simp) o q⟩
 item:=by
  intro X hP hw hK hc i pins s σ H E I hf st hg;subst hP hw hK;obtain⟨⟨old,he⟩,hit⟩:=st;obtain⟨xs,x,hq,hx⟩:=hg;obtain⟨its,rv,p,hz⟩:=I.list hq;obtain⟨u,hu,ru⟩:=rv.get hx;have f1:=hf e (by simp);have f2:=hf it (by simp);refine wpAny_pyNext_enum_item he hit p.isList (x:=u) (by simpa using hu) ne λh1 o1 i1 t1 z1 k1=>⟨_,rfl,?_⟩
  refine wpAny_letOwnedTupleGo_enum o1 λh2 e2 sb=>?_;have nq:∀{b:Addr} {o:Obj},s.heap.get? b=some o->b≠s.heap.objs.size:=λ{b o} q=>aar (aag q);have WR:@LT.lt Nat _ e s.heap.objs.size:=aag he;have ltI:@LT.lt Nat _ it s.heap.objs.size:=let ⟨o,q,_⟩:=hit;aag q
  have qe:s.heap.objs.size≠e:=λz=>by have z':@Eq Nat s.heap.objs.size e:=z;omega
  have hn:H s.heap.objs.size=none:=I.aG.fresh (aac _);have kk:∀b o,b≠e->b≠it->s.heap.get? b=some o->h2.get? b=some o:=λb o n1 n2 q=>(sb.2 b n1).trans (k1 b o n1 n2 q);have tq:h2.get? s.heap.objs.size=some {cls:=.type "tuple",data:=.seq #[.int i s.toks,u]}:=(sb.2 _ qe).trans t1;have hH:∀b o,H b=some o->b≠e/\b≠it/\b≠s.heap.objs.size:=λb o q=>⟨au q f1.1,au q f2.1,au q hn⟩
  refine⟨.ref s.heap.objs.size,upd H s.heap.objs.size (.tup [.int i,x]),?_,rfl,⟨_,x,hn,λys hy=>by rw[I.vb hy hq];exact hx,rfl,rfl⟩,⟨⟨u,e2⟩,i1.at λo q=>(sb.2 _ (aaI ne)).trans q⟩,λb hb=>?_⟩
  ·refine Inv.pJ (ch:=[e,it]) I (s':={s with heap:=h2,toks:=s.toks+1}) rfl ⟨λb ob q n hb hx=>?_,λb ob q n hb hx=>?_,λb ob q n hx=>?_,λb ob q hx=>?_,λb ys q=>?_,λb ob ys q=>?_,λb ps q=>⟨#[],?_⟩⟩ ?_ I.bare λb hb=>?_
   ·exact kk b ob (λz=>hx (by simp[z])) (λz=>hx (by simp[z])) q
   ·exact⟨ob.slots,kk b ob (λz=>hx (by simp[z])) (λz=>hx (by simp[z])) q⟩
   ·rw[aq (nq q)];exact n
   ·exact⟨ob,kk b ob (λz=>hx (by simp[z])) (λz=>hx (by simp[z])) q⟩
   ·rw[aq (hH _ _ q).2.2];exact q
   ·rw[aq (hH _ _ q).2.2];exact q
   ·rw[aq (hH _ _ q).2.2,q];simp
   ·intro b ob q;by_cases hb:b=s.heap.objs.size
    ·subst hb;rw[af] at q;cases q;exact⟨by show 2<=sizeLine;decide,[.int i s.toks,u],.cons ⟨_,rfl⟩ (.cons ru .nil),⟨_,tq,rfl,0,rfl⟩⟩
    ·rw[aq hb] at q;refine(I.aG b ob q).fO (λc v hc g=>?_) (λc g=>?_) λc ys g=>?_
     ·refine kk c v ?_ ?_ g
      ·rcases hc with z|z
       ·rw[z];exact(hH _ _ q).1
       ·exact(hH _ _ z).1
      ·rcases hc with z|z
       ·rw[z];exact(hH _ _ q).2.1
       ·exact(hH _ _ z).2.1
     ·rw[aq (hH _ _ g).2.2];exact g
     ·rw[aq (hH _ _ g).2.2];exact g
   ·rcases aah.mp hb with z|z
    ·subst z;exact⟨f1.2.2.2.1,f1.2.1,f1.2.2.2.2.1,f1.2.2.2.2.2⟩
    ·have z':b=it:=by simpa using z
     subst z';exact⟨f2.2.2.2.1,f2.2.1,f2.2.2.2.2.1,f2.2.2.2.2.2⟩
  ·have lt:b≠s.heap.objs.size:=by
    rcases aah.mp hb with z|z
    ·rw[z];exact aar WR
    ·have z':b=it:=by simpa using z
     rw[z'];exact aar ltI
   rw[aq lt];exact(hf b hb).1
 done:=by intro X hP hw hK hc i pins s σ H E I hf st hg;subst hP hw hK;obtain⟨⟨old,he⟩,hit⟩:=st;obtain⟨xs,hq,hx⟩:=hg;obtain⟨its,rv,p,hz⟩:=I.list hq;obtain⟨f0,f1,f2,f3,f4,f5⟩:=hf it (by simp);have hl:=rv.length;exact wpAny_pyNext_enum_end (I.ok.hd hc) he hit p.isList (by simp;omega) λh' eb=>⟨rfl,I.turned (t':=s.toks) (λb o hb q=>eb b o hb q) f0 f1 f3 f4 f5⟩
 self:=λ_ _ _ _ _ st h=>let ⟨⟨_,he⟩,_⟩:=st;wpAny_pyIter_enum he h
def Pg(K:PySem.W.Frag)(ta:TA):TI:=λσ H R=>ta σ H λvs H1=>∃a,vs=[.ref a]/\(∃xs,ar K H1 a xs)/\R (CW K a) H1
section
variable {X:Cx}
theorem Jd{elts:List Expr}{x1}{tp:Pos}{l:Expr}{ta:TA}{p pos:Pos}(hg:Gl X "enumerate")(hm:X.mg "enumerate" = none)(ha:PA X [l] ta)(hs:starEach [l] X.env=[(false,eval l X.env)]:=by rfl):PI X (.Tuple elts x1 tp) (.Call (.Name "enumerate" p) [l] [] pos) (Pg X.K ta):=by
 intro pins s σ H R I h;refine aa8 (d7 I hg hm boot_enumerate ?_);refine aa0 (aH (ha pos pins s σ H _ I h) λus s1 ⟨vs,H1,I1,r1,q1⟩=>?_) hs rfl;obtain⟨a,rfl,⟨xs,hq⟩,q⟩:=q1;obtain⟨u,rfl,ru⟩:=vals1 r1;cases ru;obtain⟨its,rv,pl,hz⟩:=I1.list hq;refine call_enumerate_list pl.isList λh' e1 i1 z1 k1=>?_;refine wpAny_pyIter_enum e1 ?_;have ne:s1.heap.objs.size+1≠s1.heap.objs.size:=Nat.succ_ne_self _;refine⟨s1.heap.objs.size+1,[s1.heap.objs.size+1,s1.heap.objs.size],_,_,H1,rfl,I1.kept (t':=s1.toks) k1,CY a _ _ ne,⟨⟨_,e1⟩,i1⟩,λb hb=>?_,q⟩;have le:@LE.le Nat _ s1.heap.objs.size b:=by
  rcases aah.mp hb with z|z
  ·rw[z];exact aa7 _
  ·have z':b=s1.heap.objs.size:=by simpa using z
   rw[z'];exact aac _
 exact I1.vf le (I1.aG.fresh le)
end
theorem Fo{K:PySem.W.Frag}{a:Addr}{xs:List V}{g:TG}{tb:TS}{D:Ends}{σ:St}{H:Hp}(Pv:Nat->St->Hp->Prop)(h0:Pv 0 σ H)(hl:∀i σ H,i<=xs.length->Pv i σ H->ar K H a xs)
  (hs:∀i x σ H q,xs[i]?=some x->Pv i σ H->H q=none->g (.ref q) σ (upd H q (.tup [.int i,x])) λσ2 H2=>tb {D with nx:=Pv (i+1),ct:=Pv (i+1),bk:=D.nx} σ2 H2) (hd:∀σ H,Pv xs.length σ H->D.nx σ H) :
  ∃W:Nat->Nat->St->Hp->Prop,(∃m,W 0 m σ H)/\∀i m σ H,W i m σ H ->
   ((CW K a).stop i H/\D.nx σ H)\/((CW K a).go i H/\∃N:St->Hp->Prop,(∀σ' H',N σ' H'->∃m',m'<m/\W (i+1) m' σ' H')/\∀x H',(CW K a).sN i H x H'->g x σ H' λσ2 H2=>tb {D with nx:=N,ct:=N,bk:=D.nx} σ2 H2):=by
 refine⟨λi m σ H=>m=xs.length-i/\i<=xs.length/\Pv i σ H,⟨xs.length,by simp,aaG _,h0⟩,?_⟩;rintro i m σ H ⟨rfl,hi,p⟩;have q:=hl i σ H hi p;by_cases hlt:i<xs.length
 ·refine .inr ⟨⟨xs,xs[i],q,by simp[hlt]⟩,Pv (i+1),λσ' H' p'=>⟨xs.length-(i+1),by omega,rfl,hlt,p'⟩,λx H' ⟨r,y,hr,hy,e1,e2⟩=>?_⟩;subst e1 e2;exact hs i y σ _ r (hy xs q) p hr
 ·have e:i=xs.length:=by omega
  subst e;exact .inl ⟨⟨xs,q,aac _⟩,hd σ H p⟩
end L2
namespace dO
open PySem PySem.Spec PyProof.Rows L2
structure Mt(K:PySem.W.Frag)(mg:Str->Option Value)(C fP fS:Addr)(fdP e6:FuncData):Prop where
 wc:WC K mg C
 pF:aX K "places" "Web.places" m9 fP fdP
 pM:Meth K C "places" fP
 pB:Binds K fdP ["self"] []
 sF:aX K "ties" "Web.ties" uP fS e6
 sM:Meth K C "ties" fS
 sB:Binds K e6 ["self"] []
theorem cn.same{K:PySem.W.Frag}{H H':Hp}(s:av H H'){y:V}{t:Value}(h:cn K H y t):cn K H' y t:=by
 cases h with
 |aN=>exact .aN
 |bl x=>exact .bl x
 |int i=>exact .int i
 |str x=>exact .str x
 |lD x=>exact .lD x
 |lst e=>exact .lst (s _ _ e)
 |gD e=>exact .gD (s _ _ e)
 |tup e=>exact .tup (s _ _ e)
 |dK e=>exact .dK (s _ _ e)
 |dT e=>exact .dT (s _ _ e)
 |ins e c d f g h=>exact .ins (s _ _ e) c d f g h
theorem bq.ja{C x:Addr}{H:Hp}{ns:List Str}{ps:List (Str×Str)}(h:bq C H x ns ps)(m:Str)(e1:(m==("kept_places" : Str))=false:=by decide +kernel)(e2:(m==("kept_ties" : Str))=false:=by decide +kernel):∃dx fs,H x=some (.ins C dx fs)/\fs.lookup m=none:=by obtain⟨dx,kp,kt,us,q,_⟩:=h;exact⟨dx,_,q,Pe kp kt m e1 e2⟩
structure GoodW(ns:List Str)(ps:List (Str×Str)):Prop where
 good:nj ns
 ins:fb ns ps
 aJ:ps.length<=30
abbrev iy:Stmt:=top 19 -- Za
abbrev gy:Stmt:=top 21 -- spread
section
variable {P:Program}{w:World}{K:PySem.W.Frag}{mg:Str->Option Value}{base:Heap}
structure fB(H:Hp)(d:Addr)(ns:List Str)(ps:List (Str×Str))(ls:List Addr):Prop where
 len:ls.length=ns.length
 nd:ls.Nodup
 hd:H d=some (.dK (tab ns ls))
 at_:∀(i:Nat) z l,ns[i]?=some z->ls[i]?=some l->H l=some (.lst ((outs ps z).map V.str))
theorem fB.same{H H':Hp}{d:Addr}{ns:List Str}{ps:List (Str×Str)}{ls:List Addr}(h:fB H d ns ps ls)(s:av H H'):fB H' d ns ps ls:=⟨h.len,h.nd,s _ _ h.hd,λi z l e1 e2=>s _ _ (h.at_ i z l e1 e2)⟩
theorem fB.get{H:Hp}{d:Addr}{ns:List Str}{ps:List (Str×Str)}{ls:List Addr}(h:fB H d ns ps ls)(nd:ns.Nodup){z:Str}(hz:z∈ns):∃(i:Nat) (l:Addr),ns[i]?=some z/\ls[i]?=some l/\dZ (tab ns ls) (Sum.inr z:Key)=some (.ref l)/\H l=some (.lst ((outs ps z).map V.str)):=by
 obtain⟨i,hi,e⟩:=abC hz;have e1:ns[i]?=some z:=by rw[aad hi,e]
 have hl:i<ls.length:=by rw[h.len];exact hi
 have e2:ls[i]?=some ls[i]:=aad hl;exact⟨i,ls[i],e1,e2,CM nd e1 e2,h.at_ i z _ e1 e2⟩
def rF:Sp:=λvs H Q _=>∃(p t:Addr) (ns:List Str) (ts:List Addr) (ps:List (Str×Str)),vs=[.ref p,.ref t]/\H p=some (.lst (ns.map V.str))/\H t=some (.lst (ts.map V.ref))/\aV H ts ps/\ns.Nodup/\ns.length<=12/\fb ns ps/\ps.length<=1000 /\
 ∀(d:Addr) (ls:List Addr) (H':Hp),fB H' d ns ps ls->av H H'->Q (.ref d) H'
abbrev Rf:List Str:=["places","ties","steps","a","b"]
theorem AO:aF Rf ["places","ties"] (ao iy):=⟨rfl,rfl,rfl,by decide +kernel,rfl,by decide +kernel,by decide +kernel⟩
theorem wH{f:Addr}{fd:FuncData}(F:aX K "leads" "leads" iy f fd)(T:bK mg):ak P w K mg base aD 1 f fd ["places","ties"] rF:=by
 refine F.ok AO (λvs H Q E h=>?_) (λcdv A outer s H vs Q E hr h=>?_)
 ·obtain⟨p,t,ns,ts,ps,rfl,_⟩:=h;rfl
 ·obtain⟨p,t,ns,ts,ps,rfl,hp,ht,hT,nd,aJ,hI,many,k⟩:=h;have hu:=Ay hr;refine⟨_,aj (I8 (i:=2) ["place"] [] AO.nd rfl rfl rfl (bQ (osc:=(ao iy).names) (N:=Rf) rfl rfl (by decide +kernel)) (bJ (by decide)) (bh (pv 0))
     (λ_ _ _=>aI (i:=0) (show(["place"]:List Str).Nodup by decide +kernel) rfl (Or.inl rfl)) (λ_ _ _=>bT) (λ_ _ _=>pv 0) (λ_ _ _=>br ae))
   (aj (cI aaX rfl (bh (pv 1)) (ir rfl (bU (aI (i:=3) AO.nd rfl (Or.inl rfl)) (bU (aI (i:=4) AO.nd rfl (Or.inl rfl)) gf)))
    (ai (cb (ik aa5 abr abt gn (yS hu (pv 2) (pv 3) (λ_ _=>rfl)) (aa (pv 4) ae)))))
   (ai (aB (pv 2)))),?_⟩
  try rw[bu]
  refine⟨_,rfl,p,rfl,⟨_,ar.of hp⟩,Ja (K:=K) (xs:=ns.map V.str) (λi kvs H2=>av H H2/\∃ls:List Addr,ls.length=i/\ls.Nodup/\kvs=tab (ns.take i) ls/\∀l∈ls,H l=none/\H2 l=some (.lst [])) ⟨av.refl _,[],rfl,acg,rfl,λ_ z=>nomatch z⟩ ?_ ?_ ?_ ?_⟩
  ·rintro i kvs H2 hi ⟨_,ls,e1,_,rfl,_⟩;rw[aaa] at hi;have lt:(ns.take i).length=i:=by rw[aaP];omega
   rw[y8 (by rw[e1,lt]),lt];exact aaU (eT (by omega))
  ·rintro i kvs H2 _ ⟨s2,_⟩;exact ar.of (s2 _ _ hp)
  ·rintro i x kvs H2 R hx ⟨s2,ls,e1,nl,rfl,all⟩ kR;rw[aan] at hx;obtain⟨z,ez,rfl⟩:=aap.mp hx;have hi:i<ns.length:=(aaB.mp ez).1;have lt:(ns.take i).length=i:=by rw[aaP];omega
   simp only[dN,bF,aa3];refine⟨_,rfl,(by decide),λl hl=>⟨Sum.inr z,rfl,kR _ _ ?_⟩⟩;have nz:z∉ns.take i:=λm=>by
    obtain⟨j,hj,e⟩:=abC m;have ze:j<i:=by rw[lt] at hj;exact hj
    have q:ns[j]?=some z:=by rw[<-e,List.getElem_take,aad]
    have:=AI nd q ez
    omega
   have Lx:l∉ls:=λm=>by rw[(all l m).2] at hl;cases hl
   refine⟨s2.trans (ag hl),ls++[l],by simp[e1],g7 nl Lx,?_,λy hy=>?_⟩
   ·rw[aaC,ez,vw _ (wy nz)];exact(wx z l (by rw[e1,lt])).symm
   ·rcases aas.mp hy with q|q
    ·exact⟨(all y q).1,by rw[aq (au (all y q).2 hl)];exact(all y q).2⟩
    ·rw[aaf.mp q];exact⟨s2.free hl,af⟩
  ·rintro kvs H2 ⟨s2,ls,e1,nl,rfl,all⟩ d hd;rw[aaa] at e1⊢;rw[aaR (aac _)];have hS:fB (upd H2 d (.dK (tab ns ls))) d ns [] ls:=⟨e1,nl,af,λi z l _ el=>by
    have:=(all l (aak el)).2
    rw[aq (au this hd)];exact this⟩
   have s3:av H (upd H2 d (.dK (tab ns ls))):=s2.trans (ag hd);generalize upd H2 d (.dK (tab ns ls))=H3 at hS s3⊢;refine⟨_,rfl,t,rfl,⟨_,ar.of (s3 _ _ ht)⟩,dY (K:=K) (xs:=ts.map V.ref) (λi σ H4=>∃v3 v4,σ=[some (V.ref p),some (V.ref t),some (V.ref d),v3,v4]/\av H H4/\fB H4 d ns (ps.take i) ls) ⟨_,_,rfl,s3,by rw[afw];exact hS⟩ ?_ ?_ ?_⟩
   ·rintro i σ H4 _ ⟨v3,v4,rfl,s4,_⟩;exact ar.of (s4 _ _ ht)
   ·rintro i y σ H4 hy ⟨v3,v4,rfl,s4,S4⟩;rw[aan] at hy;obtain⟨u,eu,rfl⟩:=aap.mp hy;obtain⟨pr,ep,Ly⟩:=hT.get eu;obtain⟨i1,i2⟩:=hI pr (aak ep);refine⟨u,_,rfl,aZ.of (s4 _ _ Ly),rfl,_,_,rfl,_,_,rfl,rfl,?_⟩;obtain⟨j,l,j1,j2,j3,j4⟩:=S4.get nd i1;refine⟨_,rfl,_,rfl,d,_,rfl,(show iC H4 d (.str pr.1) (some (.ref l)) from j3▸iC.k (k:=Sum.inr pr.1) S4.hd),.inl ⟨rfl,_,ar.of j4⟩,_,rfl,l,_,_,rfl,rfl,j4,?_,?_⟩
    ·rw[aaa];refine eT (aam (E6 _ _) (aam ?_ many));rw[aaP];exact afd _ _
    ·have wI:H l=none:=(all l (aak j2)).1;refine⟨_,_,rfl,av.cR s4 wI,S4.len,S4.nd,?_,λi' z' l' qj nY=>?_⟩
     ·rw[aq (eG S4.hd j4 (by intro z;cases z))];exact S4.hd
     ·rw[aaC,ep];show _=some (HO.lst ((outs (ps.take i++[pr]) z').map V.str))
      rw[CC];by_cases e:i'=j
      ·subst e;rw[j1] at qj;rw[j2] at nY;cases qj;cases nY;rw[af,if_pos rfl];simp
      ·have Lx:l'≠l:=λq=>e (AI nl (q▸nY) j2);have WS:¬ pr.1=z':=λq=>e (AI nd (q▸qj) j1);rw[aq Lx,if_neg WS];exact S4.at_ i' z' l' qj nY
   ·rintro σ H4 ⟨v3,v4,rfl,s4,S4⟩;rw[aaa,hT.len,aaR (aac _)] at S4;exact⟨_,rfl,k d ls H4 S4 s4⟩
end
structure Fl(ns:List Str)(ps:List (Str×Str))(a:Str)(zs hs:List Str):Prop where
 nd:zs.Nodup
 sub:∀z∈zs,z∈ns
 cE:∀z∈zs,bP ps a z
 mh:∀z∈hs,z∈zs
 zf:hs.Nodup
theorem Fl.more{ns:List Str}{ps:List (Str×Str)}{a b c:Str}{zs hs:List Str}(F:Fl ns ps a zs hs)(hi:fb ns ps)(hb:b∈zs)(t:(b,c)∈ps)(n:c∉zs):Fl ns ps a (zs++[c]) (hs++[c]) where
 nd:=g7 F.nd n
 sub:=λz hz=>(aas.mp hz).elim (F.sub z) λe=>by rw[aaf.mp e];exact(hi _ t).2
 cE:=λz hz=>(aas.mp hz).elim (F.cE z) λe=>by rw[aaf.mp e];exact(F.cE b hb).on t
 mh:=λz hz=>(aas.mp hz).elim (λh=>aax _ (F.mh z h)) λe=>aaj _ e
 zf:=g7 F.zf λm=>n (F.mh c m)
def kz(zs:List Str):List (Key×V):=zs.map λz=>(Sum.inr z,V.bl true)
theorem CZ(zs:List Str)(z:Str):dZ (kz zs) (Sum.inr z:Key)=if z∈zs then some (.bl true) else none:=by
 induction zs with
 |nil=>rfl
 |cons y r ih=>
  by_cases e:y=z
  ·subst e;rw[if_pos aal];exact i6 rfl
  ·show dZ ((Sum.inr y,V.bl true)::kz r) _=_
   rw[g6 (λq=>e (adT q)),ih]
   have:z∈y::r ↔ z∈r:=by rw[aah];exact⟨λh=>h.resolve_left λq=>e q.symm,Or.inr⟩
   by_cases h:z∈r
   ·rw[if_pos h,if_pos (this.mpr h)]
   ·rw[if_neg h,if_neg λq=>h (this.mp q)]
theorem Lz{zs:List Str}{z:Str}(h:z∉zs):putK (kz zs) (Sum.inr z:Key) (.bl true)=kz (zs++[z]):=by rw[vw _ (by rw[CZ,if_neg h])];simp[kz]
theorem LA(zs:List Str):E9 (kz zs) zs:=by simp[E9,kz]
section
variable {P:Program}{w:World}{K:PySem.W.Frag}{mg:Str->Option Value}{base:Heap}
def kH:Sp:=λvs H Q _=>∃(d:Addr) (a:Str) (ns:List Str) (ps:List (Str×Str)) (ls:List Addr),vs=[.ref d,.str a]/\fB H d ns ps ls/\ns.Nodup/\ns.length<=12/\fb ns ps/\ps.length<=1000/\a∈ns /\
 ∀(l:Addr) (H':Hp),H l=none->H' l=some (.lst ((cE ns ps a).map V.str))->av H H'->Q (.ref l) H'
abbrev WT:List Str:=["steps","start","seen","ahead","place","after"]
theorem wJ:aF WT ["steps","start"] (ao gy):=⟨rfl,rfl,rfl,by decide +kernel,rfl,by decide +kernel,by decide +kernel⟩
def Rg(d se ah:Addr)(a:Str)(ns:List Str)(ps:List (Str×Str))(H:Hp)(m:Nat)(σ:L2.St)(H2:Hp):Prop:=
 ∃(v4 v5:Option V) (zs hs:List Str),σ=[some (.ref d),some (.str a),some (.ref se),some (.ref ah),v4,v5]/\av H H2/\H2 se=some (.dK (kz zs))/\H2 ah=some (.lst (hs.map V.str))/\Fl ns ps a zs hs/\a∈zs /\
  (∀z∈zs,z∉hs->∀b∈outs ps z,b∈zs)/\m=2*(ns.length-zs.length)+hs.length
theorem mi{f:Addr}{fd:FuncData}(F:aX K "spread" "spread" gy f fd)(T:bK mg):ak P w K mg base aD 1 f fd ["steps","start"] kH:=by
 refine F.ok wJ (λvs H Q E h=>?_) (λcdv A outer s H vs Q E hr h=>?_)
 ·obtain⟨d,a,ns,ps,ls,rfl,_⟩:=h;rfl
 ·obtain⟨d,a,ns,ps,ls,rfl,hS,nd,aJ,hI,many,ha,k⟩:=h;have hu:=Ay hr;refine⟨_,aj (aM (i:=2) wJ.nd rfl (Or.inl rfl) (IF (EM (pv 1) bS IE) rfl rfl (by intro z;cases z) (by decide)))
   (aj (aM (i:=3) wJ.nd rfl (Or.inl rfl) (br (aa (pv 1) ae)))
   (aj (vd aaX (EB (pv 3) (λ_=>rfl))
    (aj (aM (i:=4) wJ.nd rfl (Or.inl rfl) (KO aa5 PySem.F.slot_list_pop PySem.F.type_list_pop KQ (pv 3)))
    (ai (cI aaX rfl (bh (yS hu (pv 0) (pv 4) (λ_ _=>rfl))) (aI (i:=5) wJ.nd rfl (Or.inl rfl))
     (ai (ba (Ki (B7 hu (pv 5) (pv 2)))
      (aj (ID hu (pv 2) (pv 5) bS rfl)
      (ai (cb (ik aa5 abr abt gn (pv 3) (aa (pv 5) ae))))) aR))))))
   (ai (aB (ay (rn rfl) (by rfl) T.sorted acK (aa (pv 2) ae)))))),?_⟩
  try rw[bu]
  intro se Rh;refine⟨_,rfl,af,[(Sum.inr a,V.bl true)],rfl,(by show 1<=15;decide),?_⟩;rw[yD,show jQ [] [((Sum.inr a:Key),V.bl true)]=kz [a] from rfl];have s1:=ag (o:=.dK (kz [a])) Rh;have Fp:=af (H:=H) (a:=se) (o:=.dK (kz [a]));generalize upd H se (.dK (kz [a]))=H1 at s1 Fp⊢;refine⟨_,rfl,(by show 1<=sizeLine;decide),λah LB=>?_⟩;have LC:H ah=none:=s1.free LB;have WU:se≠ah:=au Fp LB;refine⟨Rg d se ah a ns ps H,⟨_,_,_,[a],[a],rfl,s1.trans (ag LB),by rw[aq WU];exact Fp,af,?_,aaf.mpr rfl,λz hz n=>absurd hz n,rfl⟩,?_⟩
  ·exact⟨by simp,λz hz=>by rw[aaf.mp hz];exact ha,λz hz=>by rw[aaf.mp hz];exact .here _,λz hz=>hz,by simp⟩
  rintro m σ H2 ⟨v4,v5,zs,hs,rfl,s2,Fq,AQ,FL,az,cl,rfl⟩;refine⟨_,rfl,_,.inl ⟨_,ar.of AQ,rfl⟩,?_⟩;have S2:=hS.same s2;have Ri:zs.length<=ns.length:=iR FL.nd FL.sub;have WV:True:=trivial;refine cS (λhne=>?_) (λWW=>?_)
  ·-- a turn
   have jH:hs≠[]:=λe=>by rw[e] at hne;simp at hne
   obtain⟨hs0,pl,rfl⟩:∃hs0 pl,hs=hs0++[pl]:=⟨hs.dropLast,hs.getLast jH,(List.dropLast_concat_getLast jH).symm⟩
   refine⟨λσ' H'=>∃m',m'<2*(ns.length-zs.length)+(hs0++[pl]).length/\Rg d se ah a ns ps H m' σ' H',λσ' H' h=>h,?_⟩;refine⟨_,rfl,.inl ⟨rfl,_,ar.of AQ⟩,ah,_,.str pl,rfl,rfl,AQ,(by simp),?_⟩;have eh:((hs0++[pl]).map V.str).dropLast=hs0.map V.str:=by simp
   rw[eh];have Rj:se≠ah:=eG Fq AQ (by intro z;cases z);have s3:av H (upd H2 ah (.lst (hs0.map V.str))):=av.cR s2 LC;have LD:(upd H2 ah (.lst (hs0.map V.str))) se=some (.dK (kz zs)):=by rw[aq Rj];exact Fq
   have LF:=af (H:=H2) (a:=ah) (o:=.lst (hs0.map V.str));generalize upd H2 ah (.lst (hs0.map V.str))=H3 at s3 LD LF⊢;have Hi:pl∈zs:=FL.mh pl (by simp);have S3:=hS.same s3;obtain⟨j,l,j1,j2,j3,j4⟩:=S3.get nd (FL.sub pl Hi);refine⟨_,rfl,_,rfl,d,_,rfl,(show iC H3 d (.str pl) (some (.ref l)) from j3▸iC.k (k:=Sum.inr pl) S3.hd),l,rfl,⟨_,ar.of j4⟩,?_⟩;have wI:=hS.at_ j pl l j1 j2;refine dY (K:=K) (xs:=(outs ps pl).map V.str) (λi σ H4=>∃(v5:Option V) (zs4 hs4:List Str),σ=[some (.ref d),some (.str a),some (.ref se),some (.ref ah),some (.str pl),v5]/\av H H4/\H4 se=some (.dK (kz zs4))/\H4 ah=some (.lst (hs4.map V.str))/\Fl ns ps a zs4 hs4/\(∀z∈zs,z∈zs4) /\
     (∀z∈zs4,z∉hs4->z≠pl->∀b∈outs ps z,b∈zs4)/\(∀b∈(outs ps pl).take i,b∈zs4)/\2*(ns.length-zs4.length)+hs4.length<2*(ns.length-zs.length)+(hs0++[pl]).length/\zs4.length<=ns.length)
    ⟨_,zs,hs0,rfl,s3,LD,LF,⟨FL.nd,FL.sub,FL.cE,λz hz=>FL.mh z (aax _ hz),(aeX.mp FL.zf).1⟩,λz hz=>hz,?_,λb hb=>by simp at hb,by simp,Ri⟩ ?_ ?_ ?_
   ·intro z hz n1 n2;exact cl z hz λq=>(aas.mp q).elim n1 λe=>n2 (aaf.mp e)
   ·rintro i σ H4 _ ⟨v5,zs4,hs4,rfl,s4,_⟩;exact ar.of (s4 _ _ wI)
   ·rintro i y σ H4 hy ⟨v5,zs4,hs4,rfl,s4,wK,AR,F4,sub4,cl4,seen4,m4,LG⟩;rw[aan] at hy;obtain⟨b,eb,rfl⟩:=aap.mp hy;have hb:b∈outs ps pl:=aak eb;have tb:(pl,b)∈ps:=vW.mp hb;have Rk:(outs ps pl).take (i+1)=(outs ps pl).take i++[b]:=by rw[aaC,eb];rfl
    refine⟨_,rfl,_,rfl,se,_,rfl,iC.k (k:=Sum.inr b) wK,_,rfl,?_⟩;rw[CZ];by_cases gK:b∈zs4
    ·rw[if_pos gK];refine aP ⟨_,zs4,hs4,rfl,s4,wK,AR,F4,sub4,cl4,λy hy=>?_,m4,LG⟩;rw[Rk] at hy;exact(aas.mp hy).elim (seen4 y) λe=>by rw[aaf.mp e];exact gK
    ·rw[if_neg gK];have Rm:(zs4++[b]).length<=ns.length:=iR (F4.more hI (sub4 pl Hi) tb gK).nd (F4.more hI (sub4 pl Hi) tb gK).sub;refine bt ⟨_,rfl,_,rfl,se,_,rfl,vy.k (k:=Sum.inr b) wK (by simp only[kz,aaa];exact eT (by omega)),?_⟩;rw[Lz gK];have LI:se≠ah:=Rj;have LJ:(upd H4 se (.dK (kz (zs4++[b])))) ah=some (.lst (hs4.map V.str)):=by rw[aq (aaI LI)];exact AR
     have hl4:hs4.length<=1000:=by
      have:=iR F4.zf F4.mh
      omega
     refine⟨_,rfl,.inl ⟨rfl,_,ar.of LJ⟩,_,rfl,ah,_,_,rfl,rfl,LJ,(by rw[aaa];exact eT hl4),?_⟩;refine⟨_,zs4++[b],hs4++[b],rfl,av.cR (av.cR s4 Rh) LC,by rw[aq LI,af],by rw[af];simp,F4.more hI (sub4 pl Hi) tb gK,λz hz=>aax _ (sub4 z hz),λz hz n1 n2 c hc=>?_,λy hy=>?_,?_,Rm⟩
     ·rcases aas.mp hz with q|q
      ·exact aax _ (cl4 z q (λe=>n1 (aax _ e)) n2 c hc)
      ·exact absurd (aaj _ q) n1
     ·rw[Rk] at hy;exact(aas.mp hy).elim (λq=>aax _ (seen4 y q)) λe=>aaj _ e
     ·simp only[aay,abH] at m4 Rm⊢;omega
   ·rintro σ H4 ⟨v5,zs4,hs4,rfl,s4,wK,AR,F4,sub4,cl4,seen4,m4,LG⟩;rw[aaa,aaR (aac _)] at seen4;refine⟨_,m4,_,_,zs4,hs4,rfl,s4,wK,AR,F4,sub4 a az,λz hz n b hb=>?_,rfl⟩;by_cases e:z=pl
    ·subst e;exact seen4 b hb
    ·exact cl4 z hz n e b hb
  ·-- Wg end
   have he:hs=[]:=by
    cases hs with
    |nil=>rfl
    |cons x r=>simp at WW
   subst he;have all:∀z,z∈zs ↔ bP ps a z:=λz=>⟨FL.cE z,λr=>r.stays (S:=(·∈zs)) az λp hp h1=>cl p.1 h1 (by simp) p.2 (vW.mpr hp)⟩
   refine⟨_,rfl,se,_,zs,rfl,Fq,LA zs,by omega,λl hl=>?_⟩;rw[CB nd FL.nd hI ha all];exact k l _ (s2.free hl) af (s2.trans (ag hl))
end
abbrev gA:Stmt:=top 20 -- LK
def turn(ps:List (Str×Str)):List (Str×Str):=ps.map λp=>(p.2,p.1)
theorem cC{ps:List (Str×Str)}{a b:Str}:(a,b)∈turn ps ↔ (b,a)∈ps:=by
 unfold turn;rw[aaK];constructor
 ·rintro⟨p,hp,e⟩;cases e;exact hp
 ·intro h;exact⟨_,h,rfl⟩
theorem bP.turned{ps:List (Str×Str)}{a b:Str}(h:bP ps a b):bP (turn ps) b a:=by
 induction h with
 |here=>exact .here _
 |on h t ih=>exact(bP.one (cC.mpr t)).trans ih
theorem rG{ns:List Str}{ps:List (Str×Str)}(h:fb ns ps):fb ns (turn ps):=λp hp=>by obtain⟨q,hq,rfl⟩:=aaK.mp hp;exact⟨(h q hq).2,(h q hq).1⟩
theorem kI(ps:List (Str×Str)):(turn ps).length=ps.length:=aaa ..
section
variable {P:Program}{w:World}{K:PySem.W.Frag}{mg:Str->Option Value}{base:Heap}
def oV:Sp:=λvs H Q _=>∃(b:Addr) (ts:List Addr) (ps:List (Str×Str)),vs=[.ref b]/\H b=some (.lst (ts.map V.ref))/\aV H ts ps/\ps.length<=1000 /\
 ∀(l:Addr) (us:List Addr) (H':Hp),H l=none->H' l=some (.lst (us.map V.ref))->aV H' us (turn ps)->av H H'->Q (.ref l) H'
theorem UI:aF ["ties"] ["ties"] (ao gA):=⟨rfl,rfl,rfl,by decide +kernel,rfl,by decide +kernel,by decide +kernel⟩
theorem Je{b:Addr}{ts:List Addr}{ps:List (Str×Str)}{H:Hp}{Q:VK}{σ:L2.St}{fr:List Nat}{o1 o2:Str}(hb:H b=some (.lst (ts.map V.ref)))(hT:aV H ts ps)(aJ:ps.length<=1000)
  (k:∀(l:Addr) (us:List Addr) (H':Hp),H l=none->H' l=some (.lst (us.map V.ref))->aV H' us (turn ps)->av H H'->Q (.ref l) H') :
  gJ [o1,o2] fr (Af K 2 (jr (bF 0) (jr (bF 1) qS))) dN (KC (uJ (Ae 1) (uJ (Ae 0) As))) σ Q (pK K b) H:=by
 have le:(ts.map V.ref).length=ps.length:=by rw[aaa,hT.len]
 refine cu (K:=K) (xs:=ts.map V.ref) (λi ys H5=>av H H5/\∃us:List Addr,ys=us.map V.ref/\us.length=i/\aV H5 us (turn (ps.take i))) ⟨av.refl _,[],rfl,rfl,.nil⟩ ?_ ?_ ?_ ?_
 ·rintro i ys H5 hi ⟨_,us,rfl,e,_⟩;rw[aaa,e];rw[le] at hi;exact aam hi (aam aJ (by decide))
 ·rintro i ys H5 _ ⟨s5,_⟩;exact ar.of (s5 _ _ hb)
 ·rintro i y ys H5 R hy ⟨s5,us,rfl,e,hU⟩ kR;rw[aan] at hy;obtain⟨t,et,rfl⟩:=aap.mp hy;obtain⟨p,ep,ht⟩:=hT.get et;refine⟨t,_,rfl,aZ.of (s5 _ _ ht),rfl,_,_,rfl,_,_,rfl,rfl,?_⟩;simp only[dN,aa3];refine⟨_,rfl,_,rfl,(by show 2<=sizeLine;decide),λu hu=>?_⟩;have e2:us.map V.ref++[V.ref u]=(us++[u]).map V.ref:=by simp
  refine kR _ _ ⟨s5.trans (ag hu),us++[u],e2,by simp[e],?_⟩;rw[aaC,ep];unfold turn;rw[aaN];exact aV.snoc (hU.same (ag hu)) af
 ·rintro ys H5 ⟨s5,us,rfl,e,hU⟩ D hD;rw[le,abb] at hU;exact k D us _ (s5.free hD) af (hU.same (ag hD)) (s5.trans (ag hD))
theorem tX{f:Addr}{fd:FuncData}(F:aX K "turned_pairs" "turned_pairs" gA f fd)(T:bK mg):ak P w K mg base aD 1 f fd ["ties"] oV:=by
 refine F.ok UI (λvs H Q E h=>?_) (λcdv A outer s H vs Q E hr h=>?_)
 ·obtain⟨b,ts,ps,rfl,_⟩:=h;rfl
 ·obtain⟨b,ts,ps,rfl,hb,hT,aJ,k⟩:=h;refine⟨_,ai (aB (cV ["a","b"] [] rfl (bQ (osc:=(ao gA).names) (N:=["ties"]) rfl rfl (by decide +kernel)) (vD (k:=2) (by decide) (by decide)) (bh (pv 0))
    (λ_ _ _=>ir (n:=2) rfl (bU (aI (i:=0) (show(["a","b"]:List Str).Nodup by decide +kernel) rfl (Or.inl rfl)) (bU (aI (i:=1) (show(["a","b"]:List Str).Nodup by decide +kernel) rfl (Or.inl rfl)) gf))) (λ_ _ _=>bT)
    (λ_ _ _=>cK (aa (pv 1) (aa (pv 0) ae))))),?_⟩
  try rw[bu]
  exact⟨_,rfl,b,rfl,⟨_,ar.of hb⟩,Je hb hT aJ k⟩
end
end dO
namespace L3
open PySem
def n9(m:Nat)(p:Probe):Probe:=
 if p.more > 0 then {p with j:=p.j+1,more:=p.more-1} else
 let (i,perturb):=SetTable.leap m p.i p.perturb
 {p with j:=i,more:=SetTable.runEnd m i-i,i,perturb}
def start(m:Nat)(h:Int):Probe:={j:=SetTable.bits h % (m+1),more:=SetTable.runEnd m (SetTable.bits h % (m+1))-SetTable.bits h % (m+1),i:=SetTable.bits h % (m+1),perturb:=SetTable.bits h,dummy:=none}
def st(m:Nat)(h:Int):Nat->Probe
 |0=>start m h
 |k+1=>n9 m (st m h k)
def sl(m:Nat)(h:Int)(k:Nat):Nat:=(st m h k).j
theorem C0(m:Nat)(p:Probe)(h:p.dummy=none):(n9 m p).dummy=none:=by unfold n9;split<;>exact h
theorem wL(m:Nat)(h:Int):∀k,(st m h k).dummy=none
 |0=>rfl
 |k+1=>C0 m _ (wL m h k)
def lp(m:Nat)(h:Int):Nat->Nat×Nat
 |0=>(SetTable.bits h % (m+1),SetTable.bits h)
 |k+1=>SetTable.leap m (lp m h k).1 (lp m h k).2
def at_(m:Nat)(h:Int)(L r:Nat):Probe:={j:=(lp m h L).1+r,more:=SetTable.runEnd m (lp m h L).1-(lp m h L).1-r,i:=(lp m h L).1,perturb:=(lp m h L).2,dummy:=none}
def run(m:Nat)(h:Int)(L:Nat):Nat:=SetTable.runEnd m (lp m h L).1-(lp m h L).1
theorem C1(m:Nat)(h:Int)(L:Nat):run m h L<=9:=by unfold run SetTable.runEnd;split<;>omega
def off(m:Nat)(h:Int):Nat->Nat
 |0=>0
 |L+1=>off m h L+run m h L+1
theorem wM(m:Nat)(h:Int):∀L,off m h L<=10*L
 |0=>aac _
 |L+1=>by have:=wM m h L;have:=C1 m h L;unfold off;omega
theorem wN(m:Nat)(h:Int):∀(L r:Nat),r<=run m h L->st m h (off m h L+r)=at_ m h L r
 |0,0,_=>by simp[off,st,start,at_,lp]
 |L+1,0,_=>by
  show n9 m (st m h (off m h L+run m h L))=_
  rw[wN m h L (run m h L) (aac _)];unfold n9 at_;rw[if_neg (by unfold run;simp)];simp[lp]
 |L,r+1,hr=>by
  show n9 m (st m h (off m h L+r))=_
  rw[wN m h L r (by omega)];unfold n9 at_;rw[if_pos (by unfold run at hr;simp;omega)];simp;omega
theorem mj{m:Nat}{h:Int}{L r:Nat}(hr:r<=run m h L):sl m h (off m h L+r)=(lp m h L).1+r:=by unfold sl;rw[wN m h L r hr];rfl
theorem Jf(h:Int):SetTable.bits h<2 ^ 64:=by unfold SetTable.bits;have a:=ac5 h (show(2 ^ 64:Int)≠0 by decide);have b:=acw h (show(0:Int)<2 ^ 64 by decide);omega
theorem C2(m:Nat)(h:Int):∀k,(lp m h k).2=SetTable.bits h / 32 ^ k
 |0=>by simp[lp]
 |k+1=>by
  show(lp m h k).2 / 32=_
  rw[C2 m h k,Nat.div_div_eq_div_mul,Nat.pow_succ]
theorem Jg(m:Nat)(h:Int)(k:Nat):(lp m h (13+k)).2=0:=by rw[C2];refine Nat.div_eq_of_lt (aaD (Jf h) ?_);rw[Nat.pow_add];exact aam (by decide:2 ^ 64<=32 ^ 13) (Nat.le_mul_of_pos_right _ (Nat.pow_pos (by decide)))
theorem Hj(m:Nat)(h:Int):∀k,(lp m h k).1<m+1
 |0=>ac6 _ (adM _)
 |k+1=>ac6 _ (adM _)
def it(m:Nat)(i:Nat):Nat->Nat
 |0=>i
 |k+1=>(it m i k*5+1) % (m+1)
theorem AS(m:Nat)(h:Int):∀k,(lp m h (13+k)).1=it m (lp m h 13).1 k
 |0=>rfl
 |k+1=>by
  show(SetTable.leap m (lp m h (13+k)).1 (lp m h (13+k)).2).1=_
  have z:(lp m h (13+k)).2 / 32=0:=by rw[Jg]
  unfold SetTable.leap;rw[z,AS m h k];rfl
theorem WX:∀i j:Fin 8,∃k:Fin 8,it 7 i.val k.val=j.val:=by decide +kernel
theorem UJ:∀i j:Fin 32,∃k:Fin 32,it 31 i.val k.val=j.val:=by decide +kernel
theorem Hk{m:Nat}(hm:m=7\/m=31)(h:Int){j:Nat}(hj:j<=m):∃L,L<m+15/\(lp m h L).1=j:=by
 have i:=Hj m h 13;rcases hm with rfl|rfl
 ·obtain⟨k,e⟩:=WX ⟨_,i⟩ ⟨j,by omega⟩;exact⟨13+k.val,by omega,by rw[AS];exact e⟩
 ·obtain⟨k,e⟩:=UJ ⟨_,i⟩ ⟨j,by omega⟩;exact⟨13+k.val,by omega,by rw[AS];exact e⟩
theorem cover{m:Nat}(hm:m=7\/m=31)(h:Int){j:Nat}(hj:j<=m):∃k,k<10*SetTable.turns m/\sl m h k=j:=by
 obtain⟨L,hL,e⟩:=Hk hm h hj;refine⟨off m h L+0,?_,by rw[mj (aaG _)];exact e⟩
 have:=wM m h L
 unfold SetTable.turns;omega
theorem least{P:Nat->Prop}:∀n,P n->∃m,m<=n/\P m/\∀k,k<m->¬ P k:=by
 intro n;induction n using Nat.strongRecOn with
 |ind n ih=>
  intro h;by_cases q:∃k,k<n/\P k
  ·obtain⟨k,hk,pk⟩:=q;obtain⟨m,a,b,c⟩:=ih k hk pk;exact⟨m,by omega,b,c⟩
  ·exact⟨n,aac _,h,λk hk pk=>q ⟨k,hk,pk⟩⟩
theorem jU{α:Type}[DecidableEq α]:∀{l m:List α},l.Nodup->(∀x∈l,x∈m)->l.length<=m.length
 |[],m,_,_=>aaG _
 |x::l,m,h,k=>by
  obtain⟨h1,h2⟩:=aaT.mp h;have mx:=k x aal
  have:=jU (m:=m.erase x) h2 λy hy=>(aej (a:=y) (b:=x) (λe=>h1 (by rw[<-e];exact hy))).mpr (k y (aae _ hy))
  rw[acx mx] at this;have pos:=ab' mx;rw[aaH];omega
theorem gg{α:Type}(xs:Array α){p:Nat}(hp:p<=xs.size)(x:α)(i:Nat):(SetTable.insertAt xs p x)[i]?=if i<p then xs[i]? else if i=p then some x else xs[i-1]?:=by
 rw[<-aaO,SetTable.toList_insertAt];have lt:(xs.toList.take p).length=p:=by rw[aaP];simp;omega
 by_cases h:i<p
 ·rw[if_pos h,aa6 (by omega),List.getElem?_take,if_pos h,aaO]
 ·rw[if_neg h,abn (by omega),lt];by_cases e:i=p
  ·subst e;simp
  ·rw[if_neg e];obtain⟨d,rfl⟩:∃d,i=p+1+d:=⟨i-(p+1),by omega⟩
   rw[show p+1+d-p=d+1 by omega,List.getElem?_cons_succ,List.getElem?_drop,aaO];congr 1;omega
structure Tab(t:SetTable)(es:Array (Int×Value)):Prop where
 rise:eZ t.place
 size:t.place.size=es.size
 mr:t.dummies=#[]
 wO:t.mask=7\/t.mask=31
 le:∀i j:Nat,t.place[i]?=some j->j<=t.mask
 aJ:es.size<=t.mask
 wp:∀(i j:Nat) (e:Int×Value),t.place[i]?=some j->es[i]?=some e->∃k,k<10*SetTable.turns t.mask/\sl t.mask e.1 k=j/\∀k',k'<k->∃i':Nat,t.place[i']?=some (sl t.mask e.1 k')
theorem Tab.fits{t:SetTable}{es:Array (Int×Value)}(T:Tab t es):t.fits es.size=true:=by
 unfold SetTable.fits SetTable.fill;rw[T.size,T.mr]
 have:=T.aJ
 simp;omega
theorem Tab.Fd{t:SetTable}{es:Array (Int×Value)}(T:Tab t es):t.gaveWay=false:=by unfold SetTable.gaveWay;rcases T.wO with e|e<;>rw[e]<;>rfl
theorem Tab.free{t:SetTable}{es:Array (Int×Value)}(T:Tab t es):∃j,j<=t.mask/\∀i:Nat,t.place[i]?≠some j:=by
 refine aaF λno=>?_;have all:∀j,j<=t.mask->∃i:Nat,t.place[i]?=some j:=λj hj=>aaF λq=>no ⟨j,hj,λi e=>q ⟨i,e⟩⟩;have l:=jU (l:=List.range (t.mask+1)) (m:=t.place.toList) acS λj hj=>by obtain⟨i,e⟩:=all j (by have:=abg.mp hj;omega);rw[<-aaO] at e;exact aak e
 rw[abo,aau,T.size] at l
 have:=T.aJ
 omega
theorem Tab.first{t:SetTable}{es:Array (Int×Value)}(T:Tab t es)(h:Int):∃K,K<10*SetTable.turns t.mask/\(∀i:Nat,t.place[i]?≠some (sl t.mask h K))/\∀k,k<K->∃i:Nat,t.place[i]?=some (sl t.mask h k):=by obtain⟨j,hj,e⟩:=T.free;obtain⟨k,hk,es⟩:=cover T.wO h hj;obtain⟨K,a,b,c⟩:=least (P:=λk=>∀i:Nat,t.place[i]?≠some (sl t.mask h k)) k (by rw[es];exact e);exact⟨K,by omega,b,λk' dM=>aaF λq=>c k' dM λi e=>q ⟨i,e⟩⟩
theorem zg{t:SetTable}{es:Array (Int×Value)}(T:Tab t es)(hashAt:Nat->Int)(h:Int):∀(f k:Nat),(∃K,k<=K/\K<k+f/\∀i:Nat,t.place[i]?≠some (sl t.mask h K)) ->
  ∃n,k<=n/\(∀k',k<=k'->k'<n->∃i:Nat,t.place[i]?=some (sl t.mask h k')/\(hashAt i==h)=false) /\
   (((∀i:Nat,t.place[i]?≠some (sl t.mask h n))/\SetTable.probe.go t hashAt h f (st t.mask h k)=some (.empty (sl t.mask h n) none)) \/
   ∃i:Nat,t.place[i]?=some (sl t.mask h n)/\(hashAt i==h)=true/\SetTable.probe.go t hashAt h f (st t.mask h k)=some (.candidate (sl t.mask h n) i (st t.mask h (n+1))))
 |0,k,⟨K,a,b,_⟩=>by omega
 |f+1,k,⟨K,a,b,c⟩=>by
  have ej:(st t.mask h k).j=sl t.mask h k:=rfl;by_cases em:∃i:Nat,t.place[i]?=some (sl t.mask h k)
  ·obtain⟨i,ei⟩:=em;cases hh:hashAt i==h with
   |true =>refine⟨k,aac _,λk' x y=>by omega,.inr ⟨i,ei,hh,?_⟩⟩;rw[SetTable.probe.go,ej,jy T.rise ei];dsimp only;rw[hh];rfl
   |false=>
    have ne:k≠K:=λe=>c i (e▸ei);obtain⟨n,n1,n2,n3⟩:=zg T hashAt h f (k+1) ⟨K,by omega,by omega,c⟩;have e:SetTable.probe.go t hashAt h (f+1) (st t.mask h k)=SetTable.probe.go t hashAt h f (st t.mask h (k+1)):=by rw[SetTable.probe.go,ej,jy T.rise ei];dsimp only;rw[hh];rfl
    rw[e];refine⟨n,by omega,λk' x y=>?_,n3⟩;by_cases q:k'=k
    ·subst q;exact⟨i,ei,hh⟩
    ·exact n2 k' (by omega) y
  ·refine⟨k,aac _,λk' x y=>by omega,.inl ⟨λi e=>em ⟨i,e⟩,?_⟩⟩;rw[SetTable.probe.go,ej,AL T.mr (λi e=>em ⟨i,e⟩)];dsimp only;rw[wL]
theorem Tab.put{t:SetTable}{es:Array (Int×Value)}(T:Tab t es){h:Int}{x:Value}{K:Nat}(room:es.size+1<=t.mask)(hK:K<10*SetTable.turns t.mask)(hj:∀i:Nat,t.place[i]?≠some (sl t.mask h K))(hb:∀k,k<K->∃i:Nat,t.place[i]?=some (sl t.mask h k))(sle:sl t.mask h K<=t.mask) :
  Tab (t.put (sl t.mask h K)).1 (SetTable.insertAt es (t.put (sl t.mask h K)).2 (h,x)):=by
 obtain⟨b1,b2,b3⟩:=kF T.rise (sl t.mask h K);have ep:(t.put (sl t.mask h K)).2=SetTable.below t.place (sl t.mask h K):=rfl;have em:(t.put (sl t.mask h K)).1.mask=t.mask:=rfl;have C3:(t.put (sl t.mask h K)).1.place=SetTable.insertAt t.place (SetTable.below t.place (sl t.mask h K)) (sl t.mask h K):=rfl;have ed:(t.put (sl t.mask h K)).1.dummies=#[]:=by
  show(if SetTable.has t.dummies (sl t.mask h K) then _ else t.dummies)=#[]
  have e:SetTable.has t.dummies (sl t.mask h K)=false:=by rw[T.mr];rfl
  rw[e];exact T.mr
 rw[ep];generalize hp:SetTable.below t.place (sl t.mask h K)=p at b1 b2 b3 C3⊢;generalize (t.put (sl t.mask h K)).1=t' at em C3 ed⊢;have uS:∀{α:Type} (xs:Array α) (x:α),(SetTable.insertAt xs p x).size=xs.size+1:=λxs x=>by rw[<-aau,(acN xs p x).length_eq];simp
 have pe:p<=es.size:=by rw[<-T.size];exact b1
 have get':∀i:Nat,t'.place[i]?=if i<p then t.place[i]? else if i=p then some (sl t.mask h K) else t.place[i-1]?:=λi=>by rw[C3,gg _ b1]
 have Fs:∀i:Nat,(SetTable.insertAt es p (h,x))[i]?=if i<p then es[i]? else if i=p then some (h,x) else es[i-1]?:=λi=>gg _ pe _ i;have up:∀{s:Nat},(∃i:Nat,t.place[i]?=some s)->∃i:Nat,t'.place[i]?=some s:=λ{s} ⟨i,e⟩=>by
  by_cases q:i<p
  ·exact⟨i,by rw[get',if_pos q];exact e⟩
  ·exact⟨i+1,by rw[get',if_neg (by omega),if_neg (by omega),adl];exact e⟩
 refine⟨λi j hi ze ij=>?_,by rw[C3,uS,uS,T.size],ed,by rw[em];exact T.wO,λi j e=>?_,by rw[em,uS];exact room,λi j e e1 e2=>?_⟩
 ·have g1:=get' i;have g2:=get' j;rw[aao hi] at g1;rw[aao ze] at g2;have sz:t'.place.size=t.place.size+1:=by rw[C3,uS]
  have lo:∀a (ha:a<t.place.size),a<p->t.place[a]<sl t.mask h K:=λa ha q=>b2 a ha q;have hi':∀a (ha:a<t.place.size),p<=a->sl t.mask h K<t.place[a]:=λa ha q=>by
   have:=b3 a ha q
   have ne:t.place[a]≠sl t.mask h K:=λe=>hj a (by rw[aao ha,e]);omega
  by_cases c1:i<p
  ·rw[if_pos c1,aao (show i<t.place.size by omega)] at g1;have v1:=aat g1;rw[v1];by_cases c2:j<p
   ·rw[if_pos c2,aao (show j<t.place.size by omega)] at g2;rw[aat g2];exact T.rise _ _ _ _ ij
   ·rw[if_neg c2] at g2;by_cases c3:j=p
    ·rw[if_pos c3] at g2;rw[aat g2];exact lo i _ c1
    ·rw[if_neg c3,aao (show j-1<t.place.size by omega)] at g2;rw[aat g2];exact ac0 (lo i _ c1) (hi' (j-1) _ (by omega))
  ·rw[if_neg c1] at g1;rw[if_neg (show ¬ j<p by omega),if_neg (show j≠p by omega),aao (show j-1<t.place.size by omega)] at g2;rw[aat g2];by_cases c3:i=p
   ·rw[if_pos c3] at g1;rw[aat g1];exact hi' (j-1) _ (by omega)
   ·rw[if_neg c3,aao (show i-1<t.place.size by omega)] at g1;rw[aat g1];exact T.rise _ _ _ _ (by omega)
 ·rw[get'] at e;rw[em];split at e
  ·exact T.le _ _ e
  ·split at e
   ·cases e;exact sle
   ·exact T.le _ _ e
 ·rw[get'] at e1;rw[Fs] at e2;rw[em];have old:∀{i:Nat},t.place[i]?=some j->es[i]?=some e->∃k,k<10*SetTable.turns t.mask/\sl t.mask e.1 k=j/\∀k',k'<k->∃i':Nat,t'.place[i']?=some (sl t.mask e.1 k'):=λ{i} a b=>by obtain⟨k,x1,x2,x3⟩:=T.wp i j e a b;exact⟨k,x1,x2,λk' dM=>up (x3 k' dM)⟩
  split at e1
  ·rename_i c;rw[if_pos c] at e2;exact old e1 e2
  ·rename_i c
   rw[if_neg c] at e2;split at e1
   ·rename_i c2
    rw[if_pos c2] at e2;cases e1;cases e2;exact⟨K,hK,rfl,λk' dM=>up (hb k' dM)⟩
   ·rename_i c2;rw[if_neg c2] at e2;exact old e1 e2
theorem mw{m i:Nat}(h:i<=m):SetTable.runEnd m i<=m:=by unfold SetTable.runEnd;split<;>omega
theorem jB(m i:Nat):i<=SetTable.runEnd m i:=by unfold SetTable.runEnd;split<;>omega
theorem Hl(m:Nat)(h:Int):∀k,(st m h k).j+(st m h k).more<=m
 |0=>by
  have a:SetTable.bits h % (m+1)<=m:=aeY (ac6 _ (adM m));have b:=mw a;have c:=jB m (SetTable.bits h % (m+1));show SetTable.bits h % (m+1)+(SetTable.runEnd m (SetTable.bits h % (m+1))-SetTable.bits h % (m+1))<=m
  omega
 |k+1=>by
  have ih:=Hl m h k;show(n9 m (st m h k)).j+(n9 m (st m h k)).more<=m
  unfold n9;split
  ·dsimp only;omega
  ·have a:(SetTable.leap m (st m h k).i (st m h k).perturb).1<=m:=aeY (ac6 _ (adM m));have b:=mw a;have c:=jB m (SetTable.leap m (st m h k).i (st m h k).perturb).1;dsimp only;omega
theorem AU(m:Nat)(h:Int)(k:Nat):sl m h k<=m:=by have:=Hl m h k;unfold sl;omega
structure Own(m:Nat)(hs:List Int)(ow:Array (Option Nat)):Prop where
 size:ow.size=m+1
 has:∀a,a<hs.length->∃j:Nat,ow[j]?=some (some a)
 lt:∀(j a:Nat),ow[j]?=some (some a)->a<hs.length
 inj:∀(i j a:Nat),ow[i]?=some (some a)->ow[j]?=some (some a)->i=j
 wp:∀(j a:Nat) (h:Int),ow[j]?=some (some a)->hs[a]?=some h->∃k,k<10*SetTable.turns m/\sl m h k=j/\∀k',k'<k->∃b:Nat,ow[sl m h k']?=some (some b)
theorem rJ{m:Nat}{hs:List Int}{ow:Array (Option Nat)}(O:Own m hs ow){j:Nat}(h:j<=m):ow[j]?=some none\/∃a,ow[j]?=some (some a):=by
 have hj:j<ow.size:=by rw[O.size];omega
 rw[aao hj];cases e:ow[j] with
 |none=>exact .inl rfl
 |some a=>exact .inr ⟨a,rfl⟩
theorem wQ{α β:Type}{f:α->β}:∀{l:List α},l.Nodup->(∀i∈l,∀j∈l,f i=f j->i=j)->(l.map f).Nodup
 |[],_,_=>acg
 |x::l,h,k=>by
  obtain⟨h1,h2⟩:=aaT.mp h;refine aaT.mpr ⟨λm=>?_,wQ h2 λi hi j hj=>k i (aae _ hi) j (aae _ hj)⟩;obtain⟨y,hy,e⟩:=aaK.mp m
  have:=k y (aae _ hy) x aal e
  exact h1 (this▸hy)
theorem Ft{m:Nat}{hs:List Int}{ow:Array (Option Nat)}(O:Own m hs ow)(l:hs.length<=m):∃j,j<=m/\ow[j]?=some none:=by
 refine aaF λno=>?_;have all:∀j,j<=m->∃a,ow[j]?=some (some a):=λj hj=>(rJ O hj).elim (λe=>absurd ⟨j,hj,e⟩ no) id;have f:=jU (l:=(List.range (m+1)).map λj=>((ow[j]?).join).getD 0) (m:=List.range hs.length) (by
   refine wQ acS λi hi j hj e=>?_;obtain⟨a,ea⟩:=all i (by have:=abg.mp hi;omega);obtain⟨b,eb⟩:=all j (by have:=abg.mp hj;omega);rw[ea,eb] at e;have e':a=b:=by simpa using e
   subst e';exact O.inj i j a ea eb) λx hx=>by
  obtain⟨j,hj,rfl⟩:=aaK.mp hx;obtain⟨a,ea⟩:=all j (by have:=abg.mp hj;omega);rw[ea];exact abg.mpr (O.lt j a ea)
 rw[aaa,abo,abo] at f;omega
theorem tY{m:Nat}{hs:List Int}{ow:Array (Option Nat)}(O:Own m hs ow)(h:Int):∀(f L:Nat),(∃L',L<=L'/\L'<L+f/\ow[(lp m h L').1]?=some none)->(∀k,k<off m h L->∃b:Nat,ow[sl m h k]?=some (some b)) ->
  ∃K,SetTable.layClean.free m ow f (lp m h L).1 (lp m h L).2=some (sl m h K)/\K<10*(L+f)/\ow[sl m h K]?=some none/\∀k,k<K->∃b:Nat,ow[sl m h k]?=some (some b)
 |0,L,⟨L',a,b,_⟩,_=>by omega
 |f+1,L,⟨L',a,b,c⟩,hb=>by
  have il:(lp m h L).1<=m:=by have:=Hj m h L;omega
  have re:SetTable.runEnd m (lp m h L).1+1-(lp m h L).1=run m h L+1:=by have:=jB m (lp m h L).1;unfold run;omega
  have inb:∀r,r<=run m h L->(lp m h L).1+r<=m:=λr hr=>by have:=mw il;have:=jB m (lp m h L).1;unfold run at hr;omega
  have gd:∀r,r<=run m h L->((ow.getD ((lp m h L).1+r) (some 0)).isNone=true ↔ ow[(lp m h L).1+r]?=some none):=λr hr=>by
   have hj:(lp m h L).1+r<ow.size:=by rw[O.size];have:=inb r hr;omega
   rw[aao hj];simp[Array.getD,hj]
  rw[SetTable.layClean.free,re];cases hf:(List.range (run m h L+1)).find? λk=>(ow.getD ((lp m h L).1+k) (some 0)).isNone with
  |some r=>
   dsimp only;obtain⟨h1,h2,h3⟩:=List.find?_range_eq_some.mp hf;have hr:r<=run m h L:=by have:=abg.mp h2;omega
   refine⟨off m h L+r,by rw[mj hr],?_,by rw[mj hr];exact(gd r hr).mp h1,λk hk=>?_⟩
   ·have:=wM m h L;have:=C1 m h L;omega
   ·by_cases q:k<off m h L
    ·exact hb k q
    ·obtain⟨r',rfl⟩:∃r',k=off m h L+r':=⟨k-off m h L,by omega⟩
     have LL:r'<=run m h L:=by omega
     rw[mj LL];have nn:=h3 r' (by omega);rcases rJ O (inb r' LL) with e|e
     ·have:=(gd r' LL).mpr e
      rw[this] at nn;cases nn
     ·exact e
  |none=>
   dsimp only;have all:=List.find?_range_eq_none.mp hf;have Rn:∀r,r<=run m h L->∃b:Nat,ow[(lp m h L).1+r]?=some (some b):=λr hr=>by
    have nn:=all r (by omega);rcases rJ O (inb r hr) with e|e
    ·have:=(gd r hr).mpr e
     rw[this] at nn;cases nn
    ·exact e
   have ne:L≠L':=λe=>by subst e;obtain⟨b,eb⟩:=Rn 0 (aaG _);rw[Nat.add_zero,c] at eb;cases eb
   obtain⟨K,k1,k2,k3,k4⟩:=tY O h f (L+1) ⟨L',by omega,by omega,c⟩ λk hk=>by
    by_cases q:k<off m h L
    ·exact hb k q
    ·obtain⟨r,rfl⟩:∃r,k=off m h L+r:=⟨k-off m h L,by omega⟩
     have hr:r<=run m h L:=by have dM:off m h L+r<off m h L+run m h L+1:=hk;omega
     rw[mj hr];exact Rn r hr
   exact⟨K,k1,by omega,k3,k4⟩
theorem Fu{m:Nat}{hs:List Int}{ow:Array (Option Nat)}(O:Own m hs ow){h:Int}{K:Nat}(hK:K<10*SetTable.turns m)(e:ow[sl m h K]?=some none)(hb:∀k,k<K->∃b:Nat,ow[sl m h k]?=some (some b)):Own m (hs++[h]) (ow.setIfInBounds (sl m h K) (some hs.length)):=by
 have hj:sl m h K<ow.size:=by rw[O.size];have:=AU m h K;omega
 have get:∀j:Nat,(ow.setIfInBounds (sl m h K) (some hs.length))[j]?=if sl m h K=j then some (some hs.length) else ow[j]?:=λj=>by
  rw[Array.getElem?_setIfInBounds];by_cases q:sl m h K=j
  ·rw[if_pos q,if_pos q,if_pos hj]
  ·rw[if_neg q,if_neg q]
 have keep:∀{j a:Nat},ow[j]?=some (some a)->(ow.setIfInBounds (sl m h K) (some hs.length))[j]?=some (some a):=λ{j a} q=>by rw[get,if_neg (λz=>by rw[z,q] at e;cases e)];exact q
 refine⟨by rw[Array.size_setIfInBounds];exact O.size,λa ha=>?_,λj a q=>?_,λi j a p q=>?_,λj a g p q=>?_⟩
 ·rw[aay,abH] at ha;by_cases q:a<hs.length
  ·obtain⟨j,ej⟩:=O.has a q;exact⟨j,keep ej⟩
  ·exact⟨sl m h K,by rw[get,if_pos rfl,show a=hs.length by omega]⟩
 ·rw[get] at q;rw[aay,abH];split at q
  ·cases q;omega
  ·have:=O.lt j a q;omega
 ·rw[get] at p q;split at p
  ·cases p;split at q
   ·rename_i x y;omega
   ·exact absurd (O.lt _ _ q) (aaV _)
  ·split at q
   ·cases q;exact absurd (O.lt _ _ p) (aaV _)
   ·exact O.inj i j a p q
 ·rw[get] at p;split at p
  ·rename_i x
   cases p;rw[abn (aac _),Nat.sub_self] at q;cases q;exact⟨K,hK,x,λk' dM=>let ⟨b,eb⟩:=hb k' dM;⟨b,keep eb⟩⟩
  ·have la:=O.lt j a p;rw[aa6 la] at q;obtain⟨k,a1,a2,a3⟩:=O.wp j a g p q;exact⟨k,a1,a2,λk' dM=>let ⟨b,eb⟩:=a3 k' dM;⟨b,keep eb⟩⟩
def wR(m:Nat)(acc:Option (Array (Option Nat)×Nat))(h:Int):Option (Array (Option Nat)×Nat):=do
 let (owner,k) <-acc
 let j <-SetTable.layClean.free m owner (SetTable.turns m) (SetTable.bits h % (m+1)) (SetTable.bits h)
 pure (owner.setIfInBounds j (some k),k+1)
theorem zh{m:Nat}(hm:m=7\/m=31):∀(more hs:List Int) (ow:Array (Option Nat)),Own m hs ow->hs.length+more.length<=m->∃ow',more.foldl (wR m) (some (ow,hs.length))=some (ow',(hs++more).length)/\Own m (hs++more) ow'
 |[],hs,ow,O,_=>⟨ow,by simp,by simpa using O⟩
 |h::more,hs,ow,O,l=>by
  rw[aaH] at l;obtain⟨j,hj,ej⟩:=Ft O (by omega);obtain⟨L',l1,l2⟩:=Hk hm h hj;obtain⟨K,k1,k2,k3,k4⟩:=tY O h (SetTable.turns m) 0 ⟨L',aaG _,by unfold SetTable.turns;omega,by rw[l2];exact ej⟩ λk hk=>absurd hk (ab7 _);rw[abK] at k2;have O':=Fu O k2 k3 k4;have e:wR m (some (ow,hs.length)) h=some (ow.setIfInBounds (sl m h K) (some hs.length),(hs++[h]).length):=by unfold wR;have WY:SetTable.layClean.free m ow (SetTable.turns m) (SetTable.bits h % (m+1)) (SetTable.bits h)=some (sl m h K):=k1;simp[WY]
  obtain⟨ow',a,b⟩:=zh hm more (hs++[h]) _ O' (by rw[aay,abH];omega);refine⟨ow',?_,by simpa using b⟩;rw[abY,e,a];simp
theorem C4{m:Nat}(hm:m=7\/m=31)(hs:Array Int)(l:hs.size<=m):∃ow,SetTable.layClean m hs=some ow/\Own m hs.toList ow:=by
 have O0:Own m [] (Array.replicate (m+1) (none:Option Nat)):=by
  have no:∀(j a:Nat),(Array.replicate (m+1) (none:Option Nat))[j]?≠some (some a):=λj a e=>by rw[Array.getElem?_replicate] at e;split at e<;>cases e
  exact⟨by simp,λa ha=>absurd ha (ab7 _),λj a e=>absurd e (no j a),λi j a e=>absurd e (no i a),λj a h e=>absurd e (no j a)⟩
 obtain⟨ow,a,b⟩:=zh hm hs.toList [] _ O0 (by simpa using l);refine⟨ow,?_,by simpa using b⟩;unfold SetTable.layClean;rw[<-Array.foldl_toList];have a':List.foldl (wR m) (some (Array.replicate (m+1) none,0)) hs.toList=some (ow,([]++hs.toList).length):=a;show Option.map (·.1) (List.foldl (wR m) (some (Array.replicate (m+1) none,0)) hs.toList)=some ow
 rw[a'];rfl
theorem qk{g:Nat->Option Nat}:∀l:List Nat,(l.filterMap λj=>(g j).map λa=>(j,a)).map (·.1)=l.filter λj=>(g j).isSome
 |[]=>rfl
 |j::l=>by
  cases e:g j with
  |none=>rw[List.filterMap_cons_none (by simp[e]),qk l,List.filter_cons_of_neg (by simp[e])]
  |some a=>rw[adN (b:=(j,a)) (by simp[e]),aaE,qk l,List.filter_cons_of_pos (by simp[e])]
theorem C5{α:Type}{f:Nat->Option α}:∀{l:List Nat},(∀a∈l,∃x,f a=some x)->∀i:Nat,(l.filterMap f)[i]?=(l[i]?).bind f
 |[],_,i=>by simp
 |a::l,h,i=>by
  obtain⟨x,e⟩:=h a aal;rw[adN e];cases i with
  |zero=>simp[e]
  |succ i=>simpa using C5 (λb hb=>h b (aae _ hb)) i
theorem tZ{α β:Type}{f:α->β}:∀{l:List α},(l.map f).Nodup->l.Nodup
 |[],_=>acg
 |x::l,h=>by obtain⟨h1,h2⟩:=aaT.mp h;exact aaT.mpr ⟨λm=>h1 (aaK.mpr ⟨x,m,rfl⟩),tZ h2⟩
theorem Fv{m:Nat}(hm:m=7\/m=31)(es:Array (Int×Value))(l:es.size<=m)(finger moves:Nat)(led plain:Bool):∃(t:SetTable) (order:Array Nat),SetTable.laid m finger moves led plain (es.map (·.1))=some (t,order)/\t.mask=m/\t.led=led/\t.plain=plain /\
  Tab t (order.filterMap λi=>es[i]?)/\(order.filterMap λi=>es[i]?).toList.Perm es.toList/\(order.filterMap λi=>es[i]?).size=es.size:=by
 obtain⟨ow,e,O⟩:=C4 hm (es.map (·.1)) (by rw[aec];exact l);have hl:(es.map (·.1)).toList.length=es.size:=by simp
 have gd:∀j a:Nat,ow.getD j none=some a ↔ ow[j]?=some (some a):=λj a=>by
  by_cases hj:j<ow.size
  ·simp[Array.getD,hj]
  ·simp[Array.getD,hj]
 refine⟨_,_,by unfold SetTable.laid;rw[e];rfl,rfl,rfl,rfl,?_⟩;generalize hL:(List.range (m+1)).filterMap (λj=>(ow.getD j none).map λx=>(j,x))=live;have mem:∀{j a:Nat},(j,a)∈live ↔ j<=m/\ow[j]?=some (some a):=λ{j a}=>by
  rw[<-hL,abG];constructor
  ·rintro⟨j',ze,q⟩;cases g:ow.getD j' none with
   |none=>rw[g] at q;cases q
   |some a' =>rw[g] at q;cases q;exact⟨by have:=abg.mp ze;omega,(gd _ _).mp g⟩
  ·rintro⟨hj,q⟩;exact⟨j,abg.mpr (by omega),by rw[(gd j a).mpr q];rfl⟩
 have e1:live.map (·.1)=(List.range (m+1)).filter λj=>(ow.getD j none).isSome:=by rw[<-hL];exact qk _
 have ge:∀a∈live.map (·.2),∃x,es[a]?=some x:=λa ha=>by
  obtain⟨⟨j,a'⟩,hp,rfl⟩:=aaK.mp ha
  have:=O.lt j a' (mem.mp hp).2
  rw[hl] at this;exact⟨es[a'],aao this⟩
 have WZ:(live.map (·.2)).Nodup:=by
  have Xa:live.Nodup:=by
   have:(live.map (·.1)).Nodup:=by rw[e1];exact acS.filter _
   exact tZ this
  refine wQ Xa λp hp q hq ee=>?_;obtain⟨j1,a1⟩:=p;obtain⟨j2,a2⟩:=q;have Xb:a1=a2:=ee;subst Xb;rw[O.inj j1 j2 a1 (mem.mp hp).2 (mem.mp hq).2]
 have pm:(live.map (·.2)).Perm (List.range es.size):=(adq WZ acS).mpr λa=>by
  rw[abg];constructor
  ·intro h;obtain⟨⟨j,a'⟩,hp,rfl⟩:=aaK.mp h
   have:=O.lt j a' (mem.mp hp).2
   rw[hl] at this;exact this
  ·intro h;obtain⟨j,ej⟩:=O.has a (by rw[hl];exact h);have hj:j<ow.size:=(acn.mp ej).1;exact aaK.mpr ⟨(j,a),mem.mpr ⟨by rw[O.size] at hj;omega,ej⟩,rfl⟩
 have tl:((live.map (·.2)).toArray.filterMap λi=>es[i]?).toList=(live.map (·.2)).filterMap λi=>es[i]?:=by rw[Array.toList_filterMap]
 have perm:((live.map (·.2)).toArray.filterMap λi=>es[i]?).toList.Perm es.toList:=by rw[tl];exact(pm.filterMap _).trans (by rw[filterMap_getElem?_range])
 have size:((live.map (·.2)).toArray.filterMap λi=>es[i]?).size=es.size:=by rw[<-aau,perm.length_eq,aau]
 have Fs:∀i:Nat,((live.map (·.2)).toArray.filterMap λi=>es[i]?)[i]?=(live[i]?).bind λp=>es[p.2]?:=λi=>by rw[<-aaO,tl,C5 ge,aan];cases live[i]?<;>rfl
 have Fw:∀i:Nat,((live.map (·.1)).toArray)[i]?=(live[i]?).map (·.1):=λi=>by rw[aea,aan]
 have LM:∀{j:Nat},(∃b:Nat,ow[j]?=some (some b))->j<=m->∃i:Nat,((live.map (·.1)).toArray)[i]?=some j:=λ{j} ⟨b,eb⟩ hj=>by obtain⟨i,hi,ei⟩:=abC (mem.mpr ⟨hj,eb⟩);exact⟨i,by rw[Fw,aad hi,ei];rfl⟩
 refine⟨⟨λi j hi hj ij=>?_,?_,rfl,hm,λi j q=>?_,by rw[size];exact l,λi j x q1 q2=>?_⟩,perm,size⟩
 ·have pw:(live.map (·.1)).Pairwise (· < ·):=by rw[e1];exact aca.filter _
  have:=ab3.mp pw i j (by simpa using hi) (by simpa using hj) ij
  simpa using this
 ·rw[size]
  have:=pm.length_eq
  rw[aaa,abo] at this;simp[this]
 ·rw[Fw] at q;obtain⟨⟨j',a⟩,qj,nY⟩:=aap.mp q;cases nY;exact(mem.mp (aak qj)).1
 ·rw[Fw] at q1;rw[Fs] at q2;obtain⟨⟨j',a⟩,qj,nY⟩:=aap.mp q1;cases nY;rw[qj] at q2;have Xc:es[a]?=some x:=q2;have mm:=mem.mp (aak qj);obtain⟨k,k1,k2,k3⟩:=O.wp j' a x.1 mm.2 (by rw[aaO,Array.getElem?_map,Xc];rfl);exact⟨k,k1,k2,λk' dM=>LM (k3 k' dM) (AU _ _ _)⟩
theorem Jh:SetTable.sizeAbove 20-1=31:=by decide
end L3
namespace L2
open PySem PySem.Spec PyProof.Rows
section
variable {prog:Program}{w:World}{A:Around}{E:Value->Shared->Prop}{s:Shared}{src:Array Keyed}{kd:SortKind}{κ:PyProof.Rows.KeyKind}
structure eI(src:Array Keyed)(kd:SortKind)(st:SortSt):Prop where
 pm:(arrOf st).Perm src
 kn:kindOf st=kd
 pn:pendingOf st=#[]
 fl:failedOf st=none
theorem eI.len{st:SortSt}(q:eI src kd st):(arrOf st).size=src.size:=q.pm.size_eq
theorem eI.put{st:SortSt}{xs:Array Keyed}(q:eI src kd st)(p:xs.Perm (arrOf st)):eI src kd (setArr st xs):=⟨p.trans q.pm,q.kn,q.pn,q.fl⟩
abbrev ky(κ:PyProof.Rows.KeyKind)(st:SortSt)(i:Nat):κ.α:=KK κ (arrOf st) i
def oa(prog:Program)(w:World)(A:Around)(E:Value->Shared->Prop)(s:Shared)(src:Array Keyed)(kd:SortKind)(κ:PyProof.Rows.KeyKind):Prop:=
 ∀(st:SortSt) (i j:Nat) (R:Option Bool->SortSt->Prop),eI src kd st->i<src.size->j<src.size->R (some (κ.blt (ky κ st i) (ky κ st j))) st->wpS (model prog w) A E s (ltAt' i j) R st
theorem Fx{st:SortSt}{n:Nat}(up:SortedToK κ (arrOf st) n)(last:0<n->κ.kle (ky κ st (n-1)) (ky κ st n)):SortedToK κ (arrOf st) (n+1):=by
 intro i j ij jn;rcases acy j n with q|q
 ·exact up i j ij q
 ·obtain rfl:j=n:=by omega
  rcases acy i j with r|r
  ·exact acT (up i (j-1) (by omega) (by omega)) (last (by omega))
  ·obtain rfl:i=j:=by omega
   exact abM _
theorem iz{xs:Array Keyed}{n:Nat}(dn:NonIncK κ xs n)(last:0<n->κ.kle (KK κ xs n) (KK κ xs (n-1))):NonIncK κ xs (n+1):=by
 intro i j ij jn;rcases acy j n with q|q
 ·exact dn i j ij q
 ·obtain rfl:j=n:=by omega
  rcases acy i j with r|r
  ·exact acT (last (by omega)) (dn i (j-1) (by omega) (by omega))
  ·obtain rfl:i=j:=by omega
   exact abM _
theorem Ji{xs:Array Keyed}:SortedToK κ xs 1:=λi j ij j1=>by
 obtain rfl:i=j:=by omega
 exact abM _
theorem Hm{st:SortSt}{b n:Nat}{R:AscSt->SortSt->Prop}(C:oa prog w A E s src kd κ)(q:eI src kd st)(b1:1<=b)(bn:b<=n)(nn:n<=src.size)(up:SortedToK κ (arrOf st) b)
  (k:∀m,b<=m->m<=n->SortedToK κ (arrOf st) m->(m<n->κ.klt (ky κ st m) (ky κ st (m-1)))->R (none,m) st):wpS (model prog w) A E s (ascLoop b n) R st:=by
 unfold ascLoop;refine wpS_forRange (I:=λm c t=>t=st/\c=(none,m)/\SortedToK κ (arrOf st) m) (λm c t bm mn h=>?_) (λc t h=>?_) ⟨rfl,rfl,up⟩
 ·obtain⟨e1,e2,um⟩:=h;subst e1 e2;refine wpS_bind (C _ _ _ _ q (by omega) (by omega) ?_);by_cases lt:κ.klt (ky κ t m) (ky κ t (m-1))
  ·have lt':κ.blt (ky κ t m) (ky κ t (m-1))=true:=lt;rw[lt'];exact wpS_pure (k m bm (by omega) um λ_=>lt)
  ·have lt':κ.blt (ky κ t m) (ky κ t (m-1))=false:=abZ lt;rw[lt'];exact wpS_pure ⟨rfl,rfl,Fx um λ_=>lt'⟩
 ·obtain⟨e1,e2,um⟩:=h;subst e1 e2;rw[afe bn] at um⊢;exact k n bn (aac _) um λz=>absurd z (aaV _)
theorem zi{st:SortSt}{m n:Nat}{R:Option Nat->SortSt->Prop}(C:oa prog w A E s src kd κ)(q:eI src kd st)(m1:1<=m)(mn:m<=n)(nn:n<=src.size)(dn:NonIncK κ (arrOf st) m)
  (k:∀l t,eI src kd t->1<=l->l<=n->SortedToK κ (arrOf t) l->R (some l) t):wpS (model prog w) A E s (tail3 m n) R st:=by
 unfold tail3;have ml:m<=(arrOf st).size:=by rw[q.len];omega
 refine wpS_bind (wpS_reverse ?_);have q2:=q.put (mirror_perm (arrOf st) 0 m ((m-0) / 2));refine wpS_bind (Hm C q2 m1 mn nn (λi j ij jm=>?_) λl ml ln up _=>wpS_pure (k l _ q2 (by omega) ln up));have ei:KK κ (mirror (arrOf st) 0 m ((m-0) / 2)) i=KK κ (arrOf st) (0+m-1-i):=by rw[KK_mirror ml,if_pos ⟨aaG _,by omega⟩]
 have ej:KK κ (mirror (arrOf st) 0 m ((m-0) / 2)) j=KK κ (arrOf st) (0+m-1-j):=by rw[KK_mirror ml,if_pos ⟨aaG _,by omega⟩]
 show κ.kle (KK κ (mirror (arrOf st) 0 m ((m-0) / 2)) i) (KK κ (mirror (arrOf st) 0 m ((m-0) / 2)) j)
 rw[ei,ej];exact dn _ _ (by omega) (by omega)
def AV(κ:PyProof.Rows.KeyKind)(xs:Array Keyed)(m e:Nat):Prop:=e<m/\∀i,m-(e+1)<=i->i<m->KK κ xs i=KK κ xs (m-1)
theorem wU{xs:Array Keyed}{m:Nat}(h:0<m):AV κ xs m 0:=⟨h,λi a b=>by
 have e:i=m-1:=by omega
 rw[e]⟩
theorem Jj{st:SortSt}{b n:Nat}{R:DescSt->SortSt->Prop}(C:oa prog w A E s src kd κ)(q:eI src kd st)(b1:1<=b)(bn:b<=n)(nn:n<=src.size)(dn:NonIncK κ (arrOf st) b)
  (k:∀m e t,eI src kd t->b<=m->m<=n->NonIncK κ (arrOf t) m->AV κ (arrOf t) m e->R (none,m,e) t):wpS (model prog w) A E s (descLoop b n) R st:=by
 unfold descLoop;refine wpS_forRange (I:=λm c t=>∃e,c=(none,m,e)/\eI src kd t/\NonIncK κ (arrOf t) m/\AV κ (arrOf t) m e) (λm c t bm mn h=>?_) (λc t h=>?_) ⟨0,rfl,q,dn,wU (by omega)⟩
 ·obtain⟨e,rfl,qt,dt,fl⟩:=h;have ml:m<=(arrOf t).size:=by rw[qt.len];omega
  dsimp only;refine wpS_bind (C _ _ _ _ qt (by omega) (by omega) ?_);by_cases lt:κ.klt (ky κ t m) (ky κ t (m-1))
  ·have lt':κ.blt (ky κ t m) (ky κ t (m-1))=true:=lt;rw[lt'];dsimp only;rw[if_pos rfl];by_cases e0:e > 0
   ·rw[if_pos e0];refine wpS_bind (wpS_reverse (wpS_pure ⟨0,rfl,qt.put (mirror_perm _ _ _ _),?_,wU (by omega)⟩));have same:∀i,KK κ (mirror (arrOf t) (m-(e+1)) m ((m-(m-(e+1))) / 2)) i=KK κ (arrOf t) i:=adR ml fl.2;refine iz (λi j ij jm=>?_) λ_=>?_
    ·show κ.kle (KK κ (mirror (arrOf t) _ _ _) j) (KK κ (mirror (arrOf t) _ _ _) i)
     rw[same,same];exact dt i j ij jm
    ·show κ.kle (KK κ (mirror (arrOf t) _ _ _) m) (KK κ (mirror (arrOf t) _ _ _) (m-1))
     rw[same,same];exact ace lt
   ·rw[if_neg e0];exact wpS_pure ⟨0,rfl,qt,iz dt λ_=>ace lt,wU (by omega)⟩
  ·have lt':κ.blt (ky κ t m) (ky κ t (m-1))=false:=abZ lt;rw[lt'];dsimp only;rw[if_neg aaw];refine wpS_bind (C _ _ _ _ qt (by omega) (by omega) ?_);by_cases gt:κ.klt (ky κ t (m-1)) (ky κ t m)
   ·have gt':κ.blt (ky κ t (m-1)) (ky κ t m)=true:=gt;rw[gt'];exact wpS_pure (k m e t qt bm (by omega) dt fl)
   ·have gt':κ.blt (ky κ t (m-1)) (ky κ t m)=false:=abZ gt;rw[gt'];have alike:ky κ t m=ky κ t (m-1):=aet gt' lt';refine wpS_pure ⟨e+1,rfl,qt,iz dt λ_=>gt',by have:=fl.1;omega,λi a b=>?_⟩;rw[adl];rcases acy i m with r|r
    ·exact(fl.2 i (by omega) r).trans alike.symm
    ·obtain rfl:i=m:=by omega
     rfl
 ·obtain⟨e,rfl,qt,dt,fl⟩:=h;rw[afe bn] at dt fl⊢;exact k n e t qt bn (aac _) dt fl
theorem ua{st:SortSt}{m n:Nat}{R:Option Nat->SortSt->Prop}(C:oa prog w A E s src kd κ)(q:eI src kd st)(mn:m+1<=n)(nn:n<=src.size)(dn:NonIncK κ (arrOf st) (m+1))
  (k:∀l t,eI src kd t->1<=l->l<=n->SortedToK κ (arrOf t) l->R (some l) t):wpS (model prog w) A E s (descPart m n) R st:=by
 unfold descPart;refine wpS_bind (wpS_lift (wpAny_rule ⟨rfl,?_⟩));refine wpS_bind (Jj C q (by omega) mn nn dn λl e t qt bl ln dt fl=>?_);dsimp only;by_cases e0:e > 0
 ·rw[if_pos e0];have ll:l<=(arrOf t).size:=by rw[qt.len];omega
  have same:∀i,KK κ (mirror (arrOf t) (l-(e+1)) l ((l-(l-(e+1))) / 2)) i=KK κ (arrOf t) i:=adR ll fl.2;refine wpS_bind (wpS_reverse (zi C (qt.put (mirror_perm _ _ _ _)) (by omega) ln nn (λi j ij jl=>?_) k));show κ.kle (KK κ (mirror (arrOf t) _ _ _) j) (KK κ (mirror (arrOf t) _ _ _) i)
  rw[same,same];exact dt i j ij jl
 ·rw[if_neg e0];exact zi C qt (by omega) ln nn dt k
theorem C6{st:SortSt}{n:Nat}{R:Option Nat->SortSt->Prop}(C:oa prog w A E s src kd κ)(q:eI src kd st)(n1:1<=n)(nn:n<=src.size)
  (k:∀l t,eI src kd t->1<=l->l<=n->SortedToK κ (arrOf t) l->R (some l) t):wpS (model prog w) A E s (countRun' 0 n) R st:=by
 rw[countRun0_eq];refine wpS_bind (Hm C q (aac 1) n1 nn Ji λm m1 mn up low=>?_);dsimp only;by_cases whole:m=n
 ·rw[if_pos (by simpa using whole)];exact wpS_pure (k m st q m1 mn up)
 rw[if_neg (by simpa using whole)];have less:=low (by omega);by_cases long:m > 1
 ·rw[if_pos long];refine wpS_bind (C _ _ _ _ q (by omega) (by omega) ?_);by_cases LN:κ.klt (ky κ st 0) (ky κ st (m-1))
  ·have uT:κ.blt (ky κ st 0) (ky κ st (m-1))=true:=LN;rw[uT];exact wpS_pure (k m st q m1 mn up)
  ·have uT:κ.blt (ky κ st 0) (ky κ st (m-1))=false:=abZ LN;rw[uT];have ml:m<=(arrOf st).size:=by rw[q.len];omega
   have alike:∀i,0<=i->i<m->KK κ (arrOf st) i=KK κ (arrOf st) (m-1):=λi _ im =>aet (up i (m-1) (by omega) (by omega)) (acT uT (up 0 i (aaG _) im))
   have same:∀i,KK κ (mirror (arrOf st) 0 m ((m-0) / 2)) i=KK κ (arrOf st) i:=adR ml alike;dsimp only;rw[if_neg aaw];refine wpS_bind (wpS_reverse (ua C (q.put (mirror_perm _ _ _ _)) (by omega) nn (iz (λi j ij jm=>?_) λ_=>?_) k))
   ·show κ.kle (KK κ (mirror (arrOf st) _ _ _) j) (KK κ (mirror (arrOf st) _ _ _) i)
    rw[same,same,alike i (aaG _) (by omega),alike j (aaG _) jm];exact abM _
   ·show κ.kle (KK κ (mirror (arrOf st) _ _ _) m) (KK κ (mirror (arrOf st) _ _ _) (m-1))
    rw[same,same];exact ace less
 ·rw[if_neg long];obtain rfl:m=1:=by omega
  refine ua C q (by omega) nn (iz (λi j ij j1=>?_) λ_=>ace less) k;obtain rfl:i=j:=by omega
  exact abM _
theorem seek{st:SortSt}{k:Nat}{R:Option Bool×Nat×Nat->SortSt->Prop}(C:oa prog w A E s src kd κ)(q:eI src kd st)(kn:k<src.size)(up:SortedToK κ (arrOf st) k)
  (f:Nat->Option Bool×Nat×Nat->StateT SortSt Sem (ForInStep (Option Bool×Nat×Nat)))
  (hf:∀x l r,f x (none,l,r)=if l ≥ r then pure (.done (none,l,r)) else ltAt' k ((l+r) / 2)>>=λb=>match b with
   |some true=>pure (.yield (none,l,(l+r) / 2))
   |some false=>pure (.yield (none,(l+r) / 2+1,r))
   |none=>pure (.done (some false,l,r)))
  (h:∀l r,l<=k->(∀i,i<l->κ.kle (ky κ st i) (ky κ st k))->(∀i,l<=i->i<k->κ.klt (ky κ st k) (ky κ st i))->R (none,l,r) st) :
  wpS (model prog w) A E s (forIn [0:k] (none,0,k) f) R st:=by
 refine wpS_forRange (I:=λx c t=>t=st/\∃l r,c=(none,l,r)/\l<=r/\r<=k/\r<=l+(k-x)/\(∀i,i<l->κ.kle (ky κ st i) (ky κ st k))/\∀i,r<=i->i<k->κ.klt (ky κ st k) (ky κ st i))
  (λx c t _ xk z=>?_) (λc t z=>?_) ⟨rfl,0,k,rfl,aaG _,aac _,by omega,λi z=>absurd z (ab7 _),λi a b=>by omega⟩
 ·obtain⟨e,l,r,rfl,lr,rk,gap,lo,hi⟩:=z;subst e;rw[hf];by_cases met:l ≥ r
  ·rw[if_pos met];obtain rfl:l=r:=by omega
   exact wpS_pure (h l l rk lo hi)
  ·rw[if_neg met];refine wpS_bind (C _ _ _ _ q kn (by omega) ?_);by_cases lt:κ.klt (ky κ t k) (ky κ t ((l+r) / 2))
   ·have lt':κ.blt (ky κ t k) (ky κ t ((l+r) / 2))=true:=lt;rw[lt'];exact wpS_pure ⟨rfl,l,(l+r) / 2,rfl,by omega,by omega,by omega,lo,λi a b=>KeyOrd.klt_of_klt_of_kle lt (up _ _ a b)⟩
   ·have lt':κ.blt (ky κ t k) (ky κ t ((l+r) / 2))=false:=abZ lt;rw[lt'];exact wpS_pure ⟨rfl,(l+r) / 2+1,r,rfl,by omega,rk,by omega,λi a=>acT (up i ((l+r) / 2) (by omega) (by omega)) lt',hi⟩
 ·obtain⟨e,l,r,rfl,lr,rk,gap,lo,hi⟩:=z;subst e;obtain rfl:l=r:=by omega
  exact h l l rk lo hi
theorem AW{st:SortSt}{k l:Nat}(kn:k<(arrOf st).size)(lk:l<=k)(up:SortedToK κ (arrOf st) k)(lo:∀i,i<l->κ.kle (ky κ st i) (ky κ st k))(hi:∀i,l<=i->i<k->κ.klt (ky κ st k) (ky κ st i)) :
  SortedToK κ (bubble (arrOf st) k (k-l)) (k+1):=by
 have at_:∀i,KK κ (bubble (arrOf st) k (k-l)) i=if i=l then ky κ st k else if l<i/\i<=k then ky κ st (i-1) else ky κ st i:=λi=>by rw[KK_bubble kn (by omega),show k-(k-l)=l by omega]
 intro i j ij jk;rw[at_,at_];rcases acI i l with a|a|a
 ·rw[if_neg (by omega),if_neg (by omega)];rcases acI j l with b|b|b
  ·rw[if_neg (by omega),if_neg (by omega)];exact up i j ij (by omega)
  ·rw[if_pos b];exact lo i a
  ·rw[if_neg (by omega),if_pos ⟨b,by omega⟩];exact up i (j-1) (by omega) (by omega)
 ·rw[if_pos a];rcases acy l j with b|b
  ·rw[if_neg (by omega),if_pos ⟨b,by omega⟩];exact ace (hi _ (by omega) (by omega))
  ·rw[if_pos (by omega)];exact abM _
 ·rw[if_neg (by omega),if_pos ⟨a,by omega⟩,if_neg (by omega),if_pos ⟨by omega,by omega⟩];exact up (i-1) (j-1) (by omega) (by omega)
theorem AX{st:SortSt}{n m:Nat}{R:Bool->SortSt->Prop}(C:oa prog w A E s src kd κ)(q:eI src kd st)(nn:n<=src.size)(mn:m<=n)(up:SortedToK κ (arrOf st) m)
  (k:∀t,eI src kd t->SortedToK κ (arrOf t) n->R true t):wpS (model prog w) A E s (binarySort' 0 n m) R st:=by
 rw[binarySort'_eq];simp only[abK];refine wpS_bind (wpS_mono (wpS_forRange (I:=λx c t=>c=(none,())/\eI src kd t/\SortedToK κ (arrOf t) (min x n)) (Q:=λc t=>c=(none,())/\eI src kd t/\SortedToK κ (arrOf t) n)
  (λx c t mx xn z=>?_) (λc t z=>?_) ⟨rfl,q,?_⟩) λc t z=>?_)
 ·obtain⟨rfl,qt,ut⟩:=z;rw[adS (by omega)] at ut;have xs:x<(arrOf t).size:=by rw[qt.len];omega
  refine wpS_bind (seek (k:=x) C qt (by omega) ut _ (λy l r=>?_) λl r lx lo hi=>?_)
  ·split
   ·rfl
   ·congr 1;funext b
    match b with
    |some true=>rfl
    |some false=>rfl
    |none=>rfl
  ·show wpS _ _ _ _ (moveDown' x l>>=λ_=>pure (ForInStep.yield (none,()))) _ _
   rw[moveDown'_eq];refine wpS_bind (wpS_modify (wpS_pure ⟨rfl,qt.put (bubble_perm _ _ _),?_⟩));rw[adS (by omega)];exact AW xs lx ut lo hi
 ·obtain⟨rfl,qt,ut⟩:=z;refine⟨rfl,qt,?_⟩;rw[Nat.min_eq_right (by omega)] at ut;exact ut
 ·rcases aeH m with e|e
  ·intro i j ij j1;obtain rfl:i=j:=by omega
   exact abM _
  ·rw[Nat.max_eq_left e,adS mn];exact up
 ·obtain⟨rfl,qt,ut⟩:=z;exact wpS_pure (k t qt ut)
structure ql(src:Array Keyed)(κ:PyProof.Rows.KeyKind)(st:SortSt):Prop where
 pm:(arrOf st).Perm src
 fl:failedOf st=none
 pn:(pendingOf st).size=1
 up:SortedToK κ (arrOf st) src.size
theorem Fy{st:SortSt}{R:Unit->SortSt->Prop}(C:oa prog w A E s src kd κ)(q:eI src kd st)(two:2<=src.size)(aJ:src.size<64)(k:∀t,ql src κ t->R () t):wpS (model prog w) A E s sortRuns' R st:=by
 rw[sortRuns'_eq];refine wpS_bind (wpS_get ?_);dsimp only;have one:minRun' src.size src.size 0=src.size:=by
  match hs:src.size,two with
  |n+1,_=>rw[minRun'_succ,if_pos (by omega)]
 simp only[q.len,one];refine wpS_bind (wpS_mono (wpS_forRange (I:=λx c t=>(x=0/\c=(none,0)/\eI src kd t)\/(0<x/\c=(none,src.size)/\ql src κ t)) (Q:=λc t=>c=(none,src.size)/\ql src κ t)
  (λx c t _ xn z=>?_) (λc t z=>?_) (.inl ⟨rfl,rfl,q⟩)) λc t z=>?_)
 ·rcases z with⟨rfl,rfl,qt⟩|⟨x0,rfl,en⟩
  ·dsimp only;rw[if_neg (by omega)];simp only[Nat.sub_zero,Nat.min_self,abK];have push:∀t2,eI src kd t2->SortedToK κ (arrOf t2) src.size->ql src κ (setPending t2 ((pendingOf t2).push (0,src.size,0))):=λt2 q2 u2=>⟨q2.pm,q2.fl,by show((pendingOf t2).push _).size=1;rw[q2.pn];rfl,u2⟩
   refine wpS_bind (C6 C qt (by omega) (aac _) λl t1 q1 l1 ln u1=>?_);dsimp only;by_cases short:l<src.size
   ·rw[if_pos short];refine wpS_bind (wpS_lift (wpAny_rule ⟨rfl,?_⟩));refine wpS_bind (AX C q1 (aac _) ln u1 λt2 q2 u2=>?_);simp only[ab0,aaz,aa9];refine wpS_bind (wpS_get ?_);rw[show(pendingOf t2).back?=none by rw[q2.pn];rfl];exact wpS_bind (wpS_modify (wpS_pure (.inr ⟨afq,rfl,push t2 q2 u2⟩)))
   ·rw[if_neg short];obtain rfl:l=src.size:=by omega
    refine wpS_bind (wpS_get ?_);rw[show(pendingOf t1).back?=none by rw[q1.pn];rfl];exact wpS_bind (wpS_modify (wpS_pure (.inr ⟨afq,rfl,push t1 q1 u1⟩)))
  ·dsimp only;rw[if_pos (aac _)];exact wpS_pure ⟨rfl,en⟩
 ·rcases z with⟨z,_⟩|⟨_,e,en⟩
  ·omega
  ·exact⟨e,en⟩
 ·obtain⟨rfl,en⟩:=z;dsimp only;refine wpS_bind (wpS_mono (wpS_forRange (I:=λ_ c t'=>t'=t/\c=(none,())) (Q:=λc t'=>t'=t/\c=(none,())) (λx c t' _ _ z=>?_) (λ_ _ z=>z) ⟨rfl,rfl⟩) λc t' z=>?_)
  ·obtain⟨e,rfl⟩:=z;subst e;refine wpS_bind (wpS_get ?_);rw[if_pos (by rw[en.pn];exact aac 1)];exact wpS_pure ⟨rfl,rfl⟩
  ·obtain⟨e,rfl⟩:=z;subst e;exact wpS_pure (k _ en)
theorem Fz{h:Heap}{us:List Value}{P:Fin->Shared->Prop}(hs:s.heap=h.push (seqObj "list" us.toArray 0))(aJ:us.length<64)(kd:SortKind)(κ:PyProof.Rows.KeyKind)
  (hk:∀(t:Shared),(∀b o,h.get? b=some o->t.heap.get? b=some o)->2<=us.length->∀(R:SortKind->Shared->Prop),R kd t->wpAny (model prog w) A (keyKind' us.toArray) R E t)
  (C:∀(t:Shared),(∀b o,h.get? b=some o->t.heap.get? b=some o)->oa prog w A E t (pairsOf us) kd κ)
  (k:∀(out:Array Keyed) (n:Nat) (h2:Heap),out.Perm (pairsOf us)->SortedToK κ out us.length->(∀b o,h.get? b=some o->h2.get? b=some o)->h2.get? h.objs.size=some (seqObj "list" (out.map (·.2)) n)->P (.done (.ret .none)) {s with heap:=h2}) :
  wpAny (model prog w) A (Builtin.«list.sort» ⟨[.ref h.objs.size],[]⟩) P E s:=by
 have ho:s.heap.get? h.objs.size=some (seqObj "list" us.toArray 0):=by rw[hs];exact aaq _ rfl
 have old:∀b o,h.get? b=some o->b≠h.objs.size:=λb o e=>aar (aag e);have k0:∀b o,h.get? b=some o->s.heap.get? b=some o:=λb o e=>by rw[hs];exact aab _ e
 rw[list_sort_plain];refine wpAny_bind (listItems_at ho rfl ?_);refine wpAny_bind (listUpdate_at ho rfl ?_);have gT:=ac7 ho (λ_=>#[]);have k1:∀b o,h.get? b=some o->(s.heap.update h.objs.size (Obj.mapSeq λ_=>#[])).get? b=some o:=λb o e=>(aaQ _ _ (aaI (old b o e))).trans (k0 b o e);generalize s.heap.update h.objs.size (Obj.mapSeq λ_=>#[])=h1 at gT k1⊢;generalize (if ((λ_=>#[]) us.toArray).size==us.toArray.size then 0 else 0+1)=e1 at gT;refine wpAny_bind (seqEpoch_at gT rfl ?_);refine wpAny_bind (wpAny_newTuple ?_ (aam (aaU aJ) (by decide)));refine wpAny_bind (wpAny_newList ?_);refine wpAny_holding ?_;dsimp only;have ZC:@LT.lt Nat _ h.objs.size h1.objs.size:=aag gT;have k2:∀b o,h1.get? b=some o->((h1.push (seqObj "tuple" us.toArray.toList.toArray 0)).push (seqObj "list" #[] 0)).get? b=some o:=λb o e=>aab _ (aab _ e);have wV:=k2 _ _ gT;show wpAny (model prog w) A _ P E {s with heap:=(h1.push (seqObj "tuple" us.toArray.toList.toArray 0)).push (seqObj "list" #[] 0)}
 generalize (h1.push (seqObj "tuple" us.toArray.toList.toArray 0)).push (seqObj "list" #[] 0)=h2 at k2 wV⊢;have us2:us.toArray.size=us.length:=aai ..;by_cases two:us.length<2
 ·rw[if_pos (by rw[us2];exact two)];refine wpAny_bind (wpAny_pure ?_);rw[if_pos (by rw[us2];exact two),StateT.run_pure];refine wpAny_bind (wpAny_pure ?_);have up:SortedToK κ (pairsOf us) us.length:=λi j ij j1=>by
   obtain rfl:i=j:=by omega
   exact abM _
  obtain⟨st,es,ef,pm⟩:∃st,st=SortSt.mk' general' (us.toArray.zip us.toArray) #[] 7 none/\failedOf st=none/\arrOf st=pairsOf us:=⟨_,rfl,rfl,rfl⟩
  rw[<-es];dsimp only;have len:((arrOf st).map (·.2)).size=us.length:=by rw[aec,((by rw[pm]:(arrOf st).Perm (pairsOf us))).size_eq,acz]
  refine wpAny_bind (seqEpoch_at wV rfl ?_);refine wpAny_bind (listUpdate_at wV rfl ?_ (hsz2:=by rw[len];exact aam (aaU aJ) (by decide)));rw[ef];dsimp only;rw[if_neg (by simp)];have LO:=ac7 wV (λ_=>(arrOf st).map (·.2));exact wpAny_pure (k (arrOf st) _ _ ((by rw[pm]:(arrOf st).Perm (pairsOf us))) (by rw[pm];exact up) (λb o e=>(aaQ _ _ (aaI (old b o e))).trans (k2 b o (k1 b o e))) LO)
 ·rw[if_neg (by rw[us2];exact two)];refine wpAny_bind (hk _ (λb o e=>k2 b o (k1 b o e)) (by omega) _ ?_);rw[if_neg (by rw[us2];exact two)];refine wpAny_bind (wpAny_mono (Fy (R:=λ_ t=>ql (pairsOf us) κ t) (C _ (λb o e=>k2 b o (k1 b o e))) (st:=SortSt.mk' kd (us.toArray.zip us.toArray) #[] 7 none) ⟨agw _,rfl,rfl,rfl⟩ (by rw[acz];omega) (by rw[acz];exact aJ) λt en=>en) (λr s' z=>?_) λ_ _ z=>z);obtain⟨u,st⟩:=r;obtain⟨e,en⟩:=z;subst e;have up:=en.up;rw[acz] at up;dsimp only;have len:((arrOf st).map (·.2)).size=us.length:=by rw[aec,(en.pm).size_eq,acz]
  refine wpAny_bind (seqEpoch_at wV rfl ?_);refine wpAny_bind (listUpdate_at wV rfl ?_ (hsz2:=by rw[len];exact aam (aaU aJ) (by decide)));rw[en.fl];dsimp only;rw[if_neg (by simp)];have LO:=ac7 wV (λ_=>(arrOf st).map (·.2));exact wpAny_pure (k (arrOf st) _ _ (en.pm) (up) (λb o e=>(aaQ _ _ (aaI (old b o e))).trans (k2 b o (k1 b o e))) LO)
end
def cO:List Str->List Str->Bool
 |[],[]=>false
 |[],_::_=>true
 |_::_,[]=>false
 |a::as,b::bs=>if a=b then cO as bs else decide (a.cps.toList<b.cps.toList)
theorem zk{a b:Str}(h:a.cps.toList=b.cps.toList):a=b:=by cases a;cases b;simp only[af3];exact abR.mp h
theorem kJ:∀a:List Str,cO a a=false
 |[]=>rfl
 |x::xs=>by rw[cO,if_pos rfl];exact kJ xs
theorem ub:∀a b c:List Str,cO a b=true->cO b c=true->cO a c=true
 |[],[],_,h,_=>by cases h
 |[],_::_,[],_,h=>by cases h
 |[],_::_,_::_,_,_=>rfl
 |_::_,[],_,h,_=>by cases h
 |_::_,_::_,[],_,h=>by cases h
 |x::xs,y::ys,z::zs,h1,h2=>by
  rw[cO] at h1 h2⊢;by_cases e1:x=y
  ·subst e1;rw[if_pos rfl] at h1;by_cases e2:x=z
   ·subst e2;rw[if_pos rfl] at h2⊢;exact ub xs ys zs h1 h2
   ·rw[if_neg e2] at h2⊢;exact h2
  ·rw[if_neg e1,aaL] at h1;by_cases e2:y=z
   ·subst e2;rw[if_neg e1];exact decide_eq_true h1
   ·rw[if_neg e2,aaL] at h2;have lt:=List.lt_trans h1 h2;have ne:x≠z:=λq=>by rw[q] at lt;exact List.lt_irrefl _ lt
    rw[if_neg ne];exact decide_eq_true lt
theorem zl:∀a b c:List Str,cO a c=true->cO a b=true\/cO b c=true
 |[],[],_,h=>.inr h
 |[],_::_,_,_=>.inl rfl
 |_::_,_,[],h=>by cases h
 |_::_,[],_::_,_=>.inr rfl
 |x::xs,y::ys,z::zs,h=>by
  rw[cO] at h;rw[cO,cO];by_cases e:x=z
  ·subst e;rw[if_pos rfl] at h;by_cases e1:x=y
   ·subst e1;rw[if_pos rfl,if_pos rfl];exact zl xs ys zs h
   ·rw[if_neg e1,if_neg (aaI e1)];rcases Std.lt_trichotomy x.cps.toList y.cps.toList with q|q|q
    ·exact .inl (decide_eq_true q)
    ·exact absurd (zk q) e1
    ·exact .inr (decide_eq_true q)
  ·rw[if_neg e,aaL] at h;by_cases e1:x=y
   ·subst e1;rw[if_neg e];exact .inr (decide_eq_true h)
   ·by_cases e2:y=z
    ·subst e2;rw[if_neg e1];exact .inl (decide_eq_true h)
    ·rw[if_neg e1,if_neg e2];by_cases q:x.cps.toList<y.cps.toList
     ·exact .inl (decide_eq_true q)
     ·exact .inr (decide_eq_true (List.lt_of_le_of_lt (ae5.mp q) h))
theorem uc:∀a b:List Str,cO a b=false->cO b a=false->a=b
 |[],[],_,_=>rfl
 |[],_::_,h,_=>by cases h
 |_::_,[],_,h=>by cases h
 |x::xs,y::ys,h1,h2=>by
  rw[cO] at h1 h2;by_cases e:x=y
  ·subst e;rw[if_pos rfl] at h1 h2;rw[uc xs ys h1 h2]
  ·rw[if_neg e,decide_eq_false_iff_not] at h1;rw[if_neg (aaI e),decide_eq_false_iff_not] at h2;exact absurd (zk (afa (ae5.mp h2) (ae5.mp h1))) e
def jV(f:Addr->List Str):PyProof.Rows.KeyKind where
 α:=List Str
 blt:=cO
 irrefl:=kJ
 trans:=ub
 negTrans:=zl
 total:=uc
 keyOf v:=match v with|.ref a=>some (f a)|_=>none
 dflt:=[]
theorem wW(b:Bool)(x y:Value):keyLt' (tuples' b) x y=(do
  let xs <-Builtin.List.listItems x;let ys <-Builtin.List.listItems y
  for ((p,q),i) in (xs.toList.zip ys.toList).zipIdx do
   if !(<-eqBool p q) then return <-oneLt' (b&&i==0) p q
  return xs.size<ys.size):=rfl
section
variable {prog:Program}{w:World}{A:Around}{E:Value->Shared->Prop}{s:Shared}
theorem C7{a b:Str}{t u:Tok}{o:Bool}{Q:Bool->Shared->Prop}(h:Q (decide (a.cps.toList<b.cps.toList)) s):wpAny (model prog w) A (oneLt' o (.str a t) (.str b u)) Q E s:=by
 cases o with
 |true=>exact oneLt_str h
 |false=>
  rw[oneLt'_eq];simp only[aaz,aa9];refine wpAny_bind ?_;show wpAny _ _ (compareOp .Lt (.str a t) (.str b u)) _ _ _
  exact lt_str (wpAny_truthy_bool h)
theorem Jk{o:Bool}{f:(Value×Value)×Nat->Option Bool×Unit->Sem (ForInStep (Option Bool×Unit))}
  (hf:∀p q i,f ((p,q),i) (none,())=eqBool p q>>=λe=>if (!e)=true then oneLt' (o&&i==0) p q>>=λr=>pure (.done (some r,())) else pure (.yield (none,()))) :
  ∀{xs:List Value} {as:List Str},StrsAre xs as->∀{ys:List Value} {bs:List Str},StrsAre ys bs->∀(k:Nat) (Q:Option Bool×Unit->Shared->Prop),
   (∀r,(match r with|some b=>b=cO as bs|none=>cO as bs=decide (as.length<bs.length))->Q (r,()) s)->wpAny (model prog w) A (forIn ((xs.zip ys).zipIdx k) (none,()) f) Q E s:=by
 intro xs as sx;induction sx with
 |nil =>intro ys bs sy k Q h;rw[List.zip_nil_left,afr,adf];refine wpAny_pure (h none ?_);cases bs<;>simp[cO]
 |cons a ta sx ih=>
  intro ys bs sy k Q h;cases sy with
  |nil =>rw[List.zip_nil_right,afr,adf];exact wpAny_pure (h none (by simp[cO]))
  |cons b tb sy=>
   rw[List.zip_cons_cons,List.zipIdx_cons,adQ,hf];refine wpAny_bind (wpAny_bind (wpAny_eqBool_str ?_));by_cases e:a=b
   ·rw[decide_eq_true e,if_neg (by simp)];refine wpAny_pure (ih sy (k+1) Q λr z=>h r ?_);cases r with
    |some v=>rw[show v=_ from z,cO,if_pos e]
    |none=>
     show cO (a::_) (b::_)=_
     rw[cO,if_pos e,show cO _ _=_ from z];simp
   ·rw[aaA e,if_pos (by simp)];refine wpAny_bind (C7 (wpAny_pure (wpAny_pure (h (some _) ?_))));show _=cO (a::_) (b::_)
    rw[cO,if_neg e]
theorem Jl{x y:Addr}{xs ys:List Value}{as bs:List Str}{o:Bool}{Q:Bool->Shared->Prop}(hx:IsTup s.heap x xs.toArray)(hy:IsTup s.heap y ys.toArray)(sx:StrsAre xs as)(sy:StrsAre ys bs)(h:Q (cO as bs) s) :
  wpAny (model prog w) A (keyLt' (tuples' o) (.ref x) (.ref y)) Q E s:=by
 obtain⟨ox,Xd,_,nx,dx⟩:=hx;obtain⟨oy,Xe,_,ny,dy⟩:=hy;rw[wW];refine wpAny_bind (listItems_at Xd dx ?_);refine wpAny_bind (listItems_at Xe dy ?_);refine wpAny_bind ?_;refine Jk (o:=o) (λp q i=>rfl) (by simpa using sx) (by simpa using sy) 0 _ λr z=>?_;cases r with
 |some v=>rw[show v=_ from z];exact wpAny_pure h
 |none =>refine wpAny_pure ?_;have lx:=eU sx;have ly:=eU sy;rw[aai,aai,lx,ly,<-show cO as bs=_ from z];exact h
def AY(h:Heap):List Value->List (List Str)->Prop:=Paired λv zs=>∃a its,v=.ref a/\IsTup h a its.toArray/\StrsAre its zs
theorem C8{a:Addr}{its:List Value}{z:Str}{zs:List Str}{Q:Option Value->Shared->Prop}(ha:IsTup s.heap a its.toArray)(q:StrsAre its (z::zs))(h:∀t,Q (some (.str z t)) s):wpAny (model prog w) A (firstOfTuple' (.ref a)) Q E s:=by
 obtain⟨o,ho,hc,n,hd⟩:=id ha;cases q with
 |cons _ t r=>
  show wpAny _ _ (typeOf (.ref a)>>=λt=>if (t !=.type "tuple")=true then pure none else Builtin.List.listItems (.ref a)>>=λxs=>pure xs[0]?) _ _ _
  refine wpAny_bind (wpAny_typeOf ha.typeIs ?_);rw[if_neg (by decide)];exact wpAny_bind (listItems_at ho hd (wpAny_pure (h t)))
theorem C9:∀{us:List Value} {my:List (List Str)} {Q:List (Option Value)->Shared->Prop},AY s.heap us my->(∀zs∈my,zs≠[])->(∀vs ss,StrsAre vs ss->vs.length=us.length->Q (vs.map some) s)->wpAny (model prog w) A (us.mapM firstOfTuple') Q E s
 |[],_,Q,.nil,_,h=>by rw[List.mapM_nil];exact wpAny_pure (h [] [] .nil rfl)
 |u::us,_,Q,.cons (b:=zs) ⟨a,its,e,ha,q⟩ t,ne,h=>by
  subst e;rw[List.mapM_cons];match zs,q,ne zs aal with
  |z::zr,q,_ =>refine wpAny_bind (C8 ha q λtk=>wpAny_bind (C9 t (λXf hz=>ne Xf (aae _ hz)) λvs ss sv lv=>wpAny_pure ?_));exact h (.str z tk::vs) (z::ss) (.cons z tk sv) (by simp[lv])
  |[],_,z=>exact absurd rfl z
theorem C'{us:List Value}{my:List (List Str)}{R:SortKind->Shared->Prop}(t:AY s.heap us my)(ne:∀zs∈my,zs≠[])(two:2<=us.length)(h:R (tuples' true) s):wpAny (model prog w) A (keyKind' us.toArray) R E s:=by
 rw[keyKind'_eq,aeZ];refine wpAny_bind ?_;show wpAny _ _ (List.toArray <$> us.mapM firstOfTuple') _ _ _
 rw[map_eq_pure_bind];refine wpAny_bind (C9 t ne λvs ss sv lv=>wpAny_pure ?_);rw[if_pos (by simp)];refine wpAny_bind (wpAny_rule ?_);have e:((vs.map some).toArray.filterMap id)=vs.toArray:=by simp
 rw[e,oneTypeOnly'_eq,aeZ,mapM_typeOf_strs sv];simp only[map_pure,pure_bind];match vs,lv,sv with
 |v::r,lv,sv=>
  have all:((List.map (λ_=>Value.type "str") (v::r)).toArray.all λx=>x==Value.type "str")=true:=by simp only[List.all_toArray,acu,abF];intro _ _;rfl
  have h0:(List.map (λ_=>Value.type "str") (v::r)).toArray[0]?=some (Value.type "str"):=by simp
  rw[h0];simp only[all,aa3,pure_bind];exact wpAny_pure h
 |[],lv,_=>simp at lv;omega
end
end L2
namespace L3
open PySem PySem.Spec PyProof.Rows L2
section
variable {prog:Program}{w:World}{A:Around}{E:Value->Shared->Prop}{s:Shared}
abbrev KT(prog:Program)(w:World)(h:Heap)(zs:List Str)(a:Addr):Prop:=IsTupleKey (PySem.strKind prog w) h zs a
abbrev hT(prog:Program)(w:World)(zs:List Str):Int:=tupleKeyHash (PySem.strKind prog w) zs
theorem items_str{ks:List Str}{vs:List Value}(h:ItemsAre (PySem.strKind prog w) ks vs):∀v∈vs,∃z t,v=.str z t:=by
 induction h with
 |nil=>intro v hv;exact nomatch hv
 |@cons k v' ks vs h1 _ ih=>
  intro v hv;rcases aah.mp hv with rfl|hv
  ·have h1':Value.isStrOf k v=true:=h1;cases v with
   |str z t=>exact⟨z,t,rfl⟩
   |_=>simp[Value.isStrOf] at h1'
  ·exact ih v hv
theorem og{ks:List Str}{a:Addr}{Q:Bool->Shared->Prop}(hk:KT prog w s.heap ks a)(h:Q false s):wpAny (model prog w) A (ofAClassStatement 8 (.ref a)) Q E s:=by
 have hT:=hk.typeIs;obtain⟨o,items,n,ho,_,hd,hi⟩:=hk;unfold ofAClassStatement;refine wpAny_bind (wpAny_typeOf hT ?_);dsimp only;rw[if_pos (by decide)];refine wpAny_bind (wpAny_pure ?_);simp only[ab0,aaz,aa9];refine wpAny_bind (wpAny_seqItems ho hd ?_);dsimp only;refine wpAny_bind ?_;rw[<-aeI];refine aff _ (λrest r s'=>r.1=none/\s'=s/\∀v∈rest,∃z t,v=.str z t) _ ?_ ?_ _ _ ⟨rfl,rfl,items_str hi⟩
 ·rintro v rest r s' ⟨hr,rfl,hall⟩;obtain⟨z,t,rfl⟩:=hall v aal;have e:ofAClassStatement 7 (.str z t)=pure false:=rfl;rw[e];refine wpAny_bind (wpAny_pure ?_);simp only[aaz,aa9];exact wpAny_pure ⟨rfl,rfl,λu hu=>hall u (aae _ hu)⟩
 ·rintro⟨r1,r2⟩ s' ⟨hr,rfl,_⟩;simp only at hr;subst hr;exact wpAny_pure h
theorem LP{ks:List Str}{b:Addr}{Q:Bool->Shared->Prop}(hk:KT prog w s.heap ks b){stored:List Value}(hs:∀v∈stored,∃c ys,v=.ref c/\KT prog w s.heap ys c)(h:Q false s):wpAny (model prog w) A (searchCouldBeSeen (.ref b) stored) Q E s:=by
 unfold searchCouldBeSeen;refine wpAny_bind ?_;refine aff _ (λrest r s'=>r.1=none/\s'=s/\∀v∈rest,∃c ys,v=.ref c/\KT prog w s.heap ys c) _ ?_ ?_ _ _ ⟨rfl,rfl,hs⟩
 ·rintro v rest r s' ⟨hr,rfl,hall⟩;obtain⟨c,ys,rfl,hc⟩:=hall v aal;have Hn:∀u∈rest,∃c ys,u=.ref c/\KT prog w s'.heap ys c:=λu hu=>hall u (aae _ hu);dsimp only;by_cases q:(b==c||carriedByValue (.ref b)&&carriedByValue (.ref c))=true
  ·rw[if_pos q];exact wpAny_pure ⟨rfl,rfl,Hn⟩
  ·rw[if_neg q];refine wpAny_bind (wpAny_eqIsQuiet_tuple hk ?_);simp only[ab0,aaz,aa9];refine wpAny_bind (wpAny_eqIsQuiet_tuple hc ?_);simp only[ab0,aaz,aa9];refine wpAny_bind (og hk ?_);simp only[aaz,aa9];refine wpAny_bind (og hc ?_);simp only[aaz,aa9];exact wpAny_pure ⟨rfl,rfl,Hn⟩
 ·rintro⟨r1,r2⟩ s' ⟨hr,rfl,_⟩;simp only at hr;subst hr;exact wpAny_pure h
def Ho(prog:Program)(w:World)(h:Heap)(es:Array (Int×Value)):Prop:=∀e∈es.toList,∃c ys,e.2=.ref c/\KT prog w h ys c/\e.1=hT prog w ys
def uU(prog:Program)(w:World)(h:Heap)(es:Array (Int×Value))(zs:List Str):Prop:=∃e∈es.toList,∃c,e.2=.ref c/\KT prog w h zs c
theorem rK{α:Type}{es:Array α}{i:Nat}{e:α}(h:es[i]?=some e):e∈es.toList:=by rw[<-aaO] at h;exact aak h
theorem oh{a b:Addr}{o:Obj}{es:Array (Int×Value)}{ep:Nat}{t:SetTable}{zs:List Str}{K:Nat}{Q:SetFound->Shared->Prop}(hu:A.units<cLine)(ho:s.heap.get? a=some o)(hd:o.data=.set es ep t)(T:Tab t es)(el:Ho prog w s.heap es)(hk:KT prog w s.heap zs b)
  (hK:K<10*SetTable.turns t.mask) (emp:∀i:Nat,t.place[i]?≠some (sl t.mask (hT prog w zs) K)) (bef:∀k,k<K->∃i:Nat,t.place[i]?=some (sl t.mask (hT prog w zs) k))
  (q1:uU prog w s.heap es zs->Q (.there none) s) (q2:¬ uU prog w s.heap es zs->Q (.free (sl t.mask (hT prog w zs) K) false) s) :
  ∀(fuel k:Nat) (stand:Option SetTable.Probe),K-k<fuel->k<=K->stand.getD (t.probeStart (hT prog w zs))=st t.mask (hT prog w zs) k ->
   (∀(k' i:Nat) (e:Int×Value),k'<k->t.place[i]?=some (sl t.mask (hT prog w zs) k')->es[i]?=some e->∀c,e.2=.ref c->¬ KT prog w s.heap zs c) ->
   wpAny (model prog w) A (setSearchFrom a (.ref b) (hT prog w zs) true fuel stand) Q E s
 |0,k,stand,lt,_,_,_=>by omega
 |fuel+1,k,stand,lt,le,Xg,no=>by
  unfold setSearchFrom;refine wpAny_bind (wpAny_setState_of ho hd T.fits ?_);dsimp only;rw[T.Fd];simp only[aaz,aa9];rw[Xg];have hg:=zg T (λi=>((es[i]?).map (·.1)).getD 0) (hT prog w zs) (10*SetTable.turns t.mask) k ⟨K,le,by omega,emp⟩;obtain⟨n,kn,mid,res⟩:=hg;have nK:n<=K:=by refine acR λq=>?_;obtain⟨i,e,_⟩:=mid K le q;exact emp i e
  rcases res with⟨ne,pe⟩|⟨i,pi,hh,pe⟩
  ·have en:n=K:=by refine Nat.le_antisymm nK (acR λq=>?_);obtain⟨i,e⟩:=bef n q;exact ne i e
   subst en;have Dc:t.probe (λi=>((es[i]?).map (·.1)).getD 0) (hT prog w zs) (st t.mask (hT prog w zs) k)=some (.empty (sl t.mask (hT prog w zs) n) none):=pe;have fin:¬ uU prog w s.heap es zs:=by
    intro am;obtain⟨e,he,c,ec,hc⟩:=am;obtain⟨i,hi,rfl⟩:=abC he;have hi':i<es.size:=by simpa using hi
    have ei:es[i]?=some es[i]:=aao hi';have Hq:i<t.place.size:=by rw[T.size];exact hi'
    obtain⟨ke,b1,b2,b3⟩:=T.wp i t.place[i] es[i] (aao Hq) ei;obtain⟨c',ys,wX,hys,tj⟩:=el _ he;have Xh:es.toList[i]=es[i]:=by simp
    rw[Xh] at ec wX tj;rw[ec] at wX;cases wX;have ez:zs=ys:=hc.inj hys;subst ez;rw[tj] at b2 b3;have kK:ke<n:=by
     refine Nat.lt_of_not_le λq=>?_;by_cases eq:n=ke
     ·subst eq;exact ne i (by rw[b2];exact aao Hq)
     ·obtain⟨i',e'⟩:=b3 n (by omega);exact ne i' e'
    by_cases kk:ke<k
    ·exact no ke i es[i] kk (by rw[b2];exact aao Hq) ei c ec hc
    ·obtain⟨i',e1,e2⟩:=mid ke (by omega) kK;have ii:i'=i:=by have x1:=below_at T.rise e1;have x2:=below_at T.rise (show t.place[i]?=some (sl t.mask (hT prog w zs) ke) by rw[b2];exact aao Hq);omega
     subst ii;rw[ei] at e2;simp[tj] at e2
   split
   ·rename_i met heq
    have em:=aat (heq.symm.trans Dc);subst em;exact wpAny_pure (q2 fin)
   ·rename_i heq
    exact(heq _ Dc).elim
  ·have hi:i<es.size:=by rw[<-T.size];exact(acn.mp pi).1
   have ei:es[i]?=some es[i]:=aao hi;obtain⟨c,ys,ec,hys,tj⟩:=el _ (rK ei);have Dc:t.probe (λi=>((es[i]?).map (·.1)).getD 0) (hT prog w zs) (st t.mask (hT prog w zs) k)=some (.candidate (sl t.mask (hT prog w zs) n) i (st t.mask (hT prog w zs) (n+1))):=pe;have Ro:n<K:=by refine aeJ nK λe=>?_;subst e;exact emp i pi
   split;rotate_left
   ·rename_i heq
    exact(heq _ Dc).elim
   rename_i met heq
   have em:=aat (heq.symm.trans Dc);subst em;dsimp only;have hl:t.led=true\/t.led=false:=by cases t.led<;>simp
   rcases hl with ld|ld;all_goals rw[ld]
   all_goals simp only[ab0,aed,aaz,aa9,aa3]
   rotate_left;refine wpAny_bind (LP hk (λv hv=>?hv) ?_)
   case hv=>
    obtain⟨e,he,rfl⟩:=aaK.mp hv;have jR:e∈es.toList:=by rw[Array.toList_filter] at he;exact(abm.mp he).1
    obtain⟨c2,LQ,g1,g2,_⟩:=el e jR;exact⟨c2,LQ,g1,g2⟩
   simp only[aaz,aa9];all_goals (
    rw[ei];generalize es[i]=en at ec tj ei;obtain⟨ZD,y⟩:=en;dsimp only at ec tj;subst ec;dsimp only;refine wpAny_bind (wpAny_holding (wpAny_eqBool_tuple hu hys hk ?_));refine wpAny_bind (wpAny_setState_of ho hd T.fits ?_);dsimp only;by_cases ez:ys=zs
    ·rw[decide_eq_true ez];subst ez;simp only[ab6,aa3];exact wpAny_pure (q1 ⟨_,rK ei,c,rfl,hys⟩)
    ·rw[aaA ez];simp only[ab6,aaz,aa9];have sm:t.sameMemory t.moves t.mask=some true:=by unfold SetTable.sameMemory;rw[if_pos (by simp)]
     rw[sm];dsimp only;rw[if_pos rfl,jy T.rise pi];dsimp only;rw[ei];dsimp only;refine wpAny_bind (wpAny_isSame_ref_self ?_);refine wpAny_bind (wpAny_pure ?_);simp only[aa3];refine oh hu ho hd T el hk hK emp bef q1 q2 fuel (n+1) _ (by omega) (by omega) rfl λk' i' e' dM p' e1 c' wX kt=>?_;by_cases k1:k'<k
     ·exact no k' i' e' k1 p' e1 c' wX kt
     ·by_cases k2:k'=n
      ·subst k2;have ii:i'=i:=by have x1:=below_at T.rise p';have x2:=below_at T.rise pi;omega
       subst ii;rw[ei] at e1;cases e1;cases wX;exact ez (hys.inj kt)
      ·obtain⟨i2,f1,f2⟩:=mid k' (by omega) (by omega);have ii:i'=i2:=by have x1:=below_at T.rise p';have x2:=below_at T.rise f1;omega
       subst ii;obtain⟨c2,LQ,g1,g2,g3⟩:=el _ (rK e1);rw[wX] at g1;cases g1
       have:zs=LQ:=kt.inj g2
       subst this;rw[e1] at f2;simp[g3] at f2)
end
section
variable {prog:Program}{w:World}{A:Around}{E:Value->Shared->Prop}{s:Shared}
theorem yw{ks:List Str}{a:Addr}{Q:Bool->Shared->Prop}(hk:KT prog w s.heap ks a)(ne:ks≠[])(h:Q false s):wpAny (model prog w) A (hashByValue 8 (.ref a)) Q E s:=by
 have hT:=hk.typeIs;obtain⟨o,items,n,ho,_,hd,hi⟩:=hk;unfold hashByValue;refine wpAny_bind (wpAny_specialOf hT F.slot_tuple_hash.lookup ?_);dsimp only;refine wpAny_bind (wpAny_seqItems ho hd ?_);refine wpAny_bind ?_;show wpAny _ _ (forIn items _ _) _ _ s
 rw[<-aeI];have st:=items_str hi;have nil:items.toList≠[]:=λe=>by rw[e] at hi;cases hi;exact ne rfl
 cases hl:items.toList with
 |nil=>exact absurd hl nil
 |cons v r =>rw[hl] at st;obtain⟨z,t,rfl⟩:=st v aal;rw[adQ];have e:hashByValue 7 (.str z t)=pure false:=rfl;rw[e];refine wpAny_bind (wpAny_bind (wpAny_pure ?_));simp only[aed,aa3];exact wpAny_pure (wpAny_pure (wpAny_pure h))
abbrev LR(prog:Program)(w:World)(p:Addr×List Str):Int×Value:=(hT prog w p.2,.ref p.1)
structure dP(prog:Program)(w:World)(h:Heap)(a:Addr)(ps:List (Addr×List Str))(led:Bool)(o:Obj)(es:Array (Int×Value))(ep:Nat)(t:SetTable):Prop where
 ho:h.get? a=some o
 ex:o.ExactSet
 hd:o.data=.set es ep t
 tab:Tab t es
 pm:es.toList.Perm (ps.map (LR prog w))
 four:t.mask=7->es.size<=4
 led:t.led=led
 pl:es.size≠0->t.plain=false
def dQ(ps:List (Addr×List Str))(p:Addr×List Str):List (Addr×List Str):=if p.2∈ps.map (·.2) then ps else ps++[p]
theorem dP.size{h:Heap}{a:Addr}{ps:List (Addr×List Str)}{led:Bool}{o:Obj}{es:Array (Int×Value)}{ep:Nat}{t:SetTable}(x:dP prog w h a ps led o es ep t):es.size=ps.length:=by rw[<-aau,x.pm.length_eq,aaa]
theorem dP.keep{h h':Heap}{a:Addr}{ps:List (Addr×List Str)}{led:Bool}{o:Obj}{es:Array (Int×Value)}{ep:Nat}{t:SetTable}(x:dP prog w h a ps led o es ep t)(k:∀o,h.get? a=some o->h'.get? a=some o):dP prog w h' a ps led o es ep t:={x with ho:=k _ x.ho}
theorem dP.elems{h:Heap}{a:Addr}{ps:List (Addr×List Str)}{led:Bool}{o:Obj}{es:Array (Int×Value)}{ep:Nat}{t:SetTable}(x:dP prog w h a ps led o es ep t)(ks:∀p∈ps,KT prog w h p.2 p.1):Ho prog w h es:=λe he=>by obtain⟨p,hp,rfl⟩:=aaK.mp (x.pm.mem_iff.mp he);exact⟨p.1,p.2,rfl,ks p hp,rfl⟩
theorem dP.among{h:Heap}{a:Addr}{ps:List (Addr×List Str)}{led:Bool}{o:Obj}{es:Array (Int×Value)}{ep:Nat}{t:SetTable}(x:dP prog w h a ps led o es ep t)(ks:∀p∈ps,KT prog w h p.2 p.1){zs:List Str}:uU prog w h es zs ↔ zs∈ps.map (·.2):=by
 constructor
 ·rintro⟨e,he,c,ec,hc⟩;obtain⟨p,hp,rfl⟩:=aaK.mp (x.pm.mem_iff.mp he);cases ec;exact aaK.mpr ⟨p,hp,(ks p hp).inj hc⟩
 ·intro hz;obtain⟨p,hp,rfl⟩:=aaK.mp hz;exact⟨_,x.pm.mem_iff.mpr (aaK.mpr ⟨p,hp,rfl⟩),p.1,rfl,ks p hp⟩
theorem Tab.plain{t:SetTable}{es:Array (Int×Value)}(T:Tab t es)(p:Bool):Tab {t with plain:=p} es:=⟨T.rise,T.size,T.mr,T.wO,T.le,T.aJ,T.wp⟩
theorem qm{h:Heap}{a:Addr}{o:Obj}{es:Array (Int×Value)}{ep:Nat}{t:SetTable}(ho:h.get? a=some o)(hd:o.data=.set es ep t)(es':Array (Int×Value))(t':SetTable):(h.update a (Obj.putSet es' t')).get? a=some {o with data:=.set es' (ep+1) t' }:=by
 have:=aaZ (Obj.putSet es' t') ho (by rw[putSet_of es' t' hd];rfl)
 rw[putSet_of es' t' hd] at this;exact this
theorem dP.add{a b:Addr}{zs:List Str}{ps:List (Addr×List Str)}{led:Bool}{o:Obj}{es:Array (Int×Value)}{ep:Nat}{t:SetTable}{Q:Bool->Shared->Prop}(hu:A.units<cLine)(x:dP prog w s.heap a ps led o es ep t)(ks:∀p∈ps,KT prog w s.heap p.2 p.1)(hk:KT prog w s.heap zs b)(ne:zs≠[])(room:ps.length+1<=12)
  (k:∀(bb:Bool) h' o' es' gS t',Heap.SameBut a s.heap h'->dP prog w h' a (dQ ps (b,zs)) led o' es' gS t'->Q bb {s with heap:=h' }) :
  wpAny (model prog w) A (setAddHashed a (.ref b) (hT prog w zs)) Q E s:=by
 obtain⟨K,hK,emp,bef⟩:=x.tab.first (hT prog w zs)
 have big:es.size+1<=12:=by rw[x.size];exact room
 have Ph:es.size+1<=t.mask:=by
  rcases x.tab.wO with e|e
  ·have:=x.four e;omega
  ·omega
 unfold setAddHashed;refine wpAny_holding ?_;show wpAny _ _ (setAddHashedIn a (.ref b) (hT prog w zs) (99999+1)) _ _ _
 unfold setAddHashedIn;refine wpAny_bind (wpAny_setState_of x.ho x.hd x.tab.fits ?_);dsimp only;have bs:byScan (.ref b) es=false:=rfl;rw[bs];simp only[aaz,aa9];refine wpAny_bind ?_;refine oh hu x.ho x.hd x.tab (x.elems ks) hk hK emp bef (λam=>?_) (λnam=>?_) 100000 0 none (by have:SetTable.turns t.mask<=46:=by {unfold SetTable.turns;rcases x.tab.wO with e|e<;>omega};omega) (aaG _) rfl (λk' i e dM=>absurd dM (ab7 _))
 ·have e2:dQ ps (b,zs)=ps:=by unfold dQ;rw[if_pos ((x.among ks).mp am)]
  refine wpAny_pure ?_;exact k false s.heap o es ep t (acF a s.heap) (by rw[e2];exact x)
 ·have e2:dQ ps (b,zs)=ps++[(b,zs)]:=by unfold dQ;rw[if_neg λq=>nam ((x.among ks).mpr q)]
  rw[e2] at k;dsimp only;refine wpAny_bind (wpAny_setState_of x.ho x.hd x.tab.fits ?_);dsimp only;have T1:=x.tab.put (x:=.ref b) Ph hK emp bef (AU _ _ _);have em:(t.put (sl t.mask (hT prog w zs) K)).1.mask=t.mask:=rfl;have el1:(t.put (sl t.mask (hT prog w zs) K)).1.led=t.led:=rfl;have UK:(t.put (sl t.mask (hT prog w zs) K)).1.plain=t.plain:=rfl;have perm:(SetTable.insertAt es (t.put (sl t.mask (hT prog w zs) K)).2 (hT prog w zs,Value.ref b)).toList.Perm (es.toList++[(hT prog w zs,Value.ref b)]):=by
   have:=acN es (t.put (sl t.mask (hT prog w zs) K)).2 (hT prog w zs,Value.ref b)
   rw[acH] at this;exact this
  generalize (t.put (sl t.mask (hT prog w zs) K)).1=t1 at T1 em el1 UK⊢;generalize SetTable.insertAt es (t.put (sl t.mask (hT prog w zs) K)).2 (hT prog w zs,Value.ref b)=es1 at T1 perm⊢;have tV:es1.size=es.size+1:=by rw[<-aau,perm.length_eq,aay,aau];rfl
  have Rp:es1.toList.Perm ((ps++[(b,zs)]).map (LR prog w)):=by rw[aaN];exact perm.trans (x.pm.append_right _)
  have tail:∀t2:SetTable,Tab t2 es1->t2.mask=t.mask->t2.led=led->t2.plain=false->wpAny (model prog w) A (do
    storeSet a es1 t2
    if (!false&&t2.tooFull)=true then do
      setRelay a (SetTable.grown (es.size+1))
      pure true
     else pure true) Q E s:=λt2 T2 m2 l2 p2=>by
   refine wpAny_bind (wpAny_storeSet_of x.ho x.hd ?_ (aam (by omega:es1.size<=12) (by decide)));have g1:=qm x.ho x.hd es1 t2;have sb1:=aa' s.heap a (Obj.putSet es1 t2);generalize s.heap.update a (Obj.putSet es1 t2)=h1 at g1 sb1⊢;by_cases tf:t2.tooFull=true
   ·rw[tf];simp only[aed,ab6,aa3];have UL:t.mask=7/\es.size=4:=by
     unfold SetTable.tooFull SetTable.fill at tf;rw[T2.mr,T2.size,m2,tV] at tf;have Hr:(es.size+1+0)*5 ≥ t.mask*3:=by simpa using tf
     rcases x.tab.wO with e|e
     ·have:=x.four e;exact⟨e,by omega⟩
     ·omega
    rw[UL.2];refine wpAny_bind ?_;unfold setRelay;refine wpAny_bind (wpAny_setState_of (s:={s with heap:=h1}) g1 rfl T2.fits ?_);dsimp only;have gr:SetTable.grown (4+1)=20:=rfl;rw[gr,if_neg (by decide)];obtain⟨t3,order,er,m3,l3,p3,T3,Rq,Rr⟩:=Fv (m:=31) (.inr rfl) es1 (by omega) t2.finger (t2.movedTo 31) t2.led t2.plain;have Xi:t2.relaid (es1.map (·.1)) 20=some (t3,order):=by unfold SetTable.relaid;rw[Jh];exact er
    rw[Xi];refine wpAny_bind ?_;obtain⟨es3,Rt⟩:∃es3,es3=order.filterMap (λi=>es1[i]?):=⟨_,rfl⟩
    rw[<-Rt] at T3 Rq Rr;refine wpAny_of_eq (Eq.trans (b:=if (es3.size !=es1.size)=true then (unsupported "internal:set-table-lost-an-element">>=λ(_:PUnit)=>pure (es3,t3)) else pure (es3,t3)) ?_ (if_neg (by rw[Rr];simp))) ?_
    ·rw[Rt];rfl
    dsimp only;refine wpAny_storeSet_of (s:={s with heap:=h1}) g1 rfl ?_ (aam (by omega:es3.size<=12) (by decide));have g2:=qm (es':=es3) (t':=t3) g1 rfl;have Xj:=sb1.trans (aa' h1 a (Obj.putSet es3 t3));exact wpAny_pure (k true _ _ es3 _ t3 Xj ⟨g2,x.ex,rfl,T3,Rq.trans Rp,λe=>by rw[m3] at e;omega,by rw[l3];exact l2,λ_=>by rw[p3];exact p2⟩)
   ·have Hr:t2.tooFull=false:=by simpa using tf
    rw[Hr];simp only[acC,aaz,aa9];refine wpAny_pure (k true _ _ es1 _ t2 sb1 ⟨g1,x.ex,rfl,T2,Rp,λe=>?_,l2,λ_=>p2⟩);have q:¬ (es.size+1+0)*5 ≥ t.mask*3:=by
     intro q
     have:t2.tooFull=true:=by unfold SetTable.tooFull SetTable.fill;rw[T2.mr,T2.size,m2,tV];simpa using q
     rw[this] at Hr;cases Hr
    rw[m2] at e;omega
  by_cases tp:t1.plain=true
  ·rw[if_pos tp];refine wpAny_bind (yw hk ne ?_);simp only[aaz,aa9];exact tail {t1 with plain:=false} (T1.plain false) em (el1.trans x.led) rfl
  ·rw[if_neg tp];refine wpAny_bind (wpAny_pure ?_);simp only[aa3];exact tail t1 T1 em (el1.trans x.led) (by simpa using tp)
end
section
variable {prog:Program}{w:World}{A:Around}{E:Value->Shared->Prop}{s:Shared}{R:Result->Shared->Prop}
theorem FC{zs:List Str}{us:List Value}(h:Vals (zs.map V.str) us):ItemsAre (PySem.strKind prog w) zs us:=by
 induction zs generalizing us with
 |nil=>cases h;exact .nil
 |cons z zs ih=>
  cases h with
  |cons r t=>
   obtain⟨k,rfl⟩:=(show ∃k,_=Value.str z k from r)
   exact .cons (by show Value.isStrOf z (.str z k)=true;simp[Value.isStrOf]) (ih t)
theorem Jm{a b:Addr}{zs:List Str}{ps:List (Addr×List Str)}{led:Bool}{o:Obj}{es:Array (Int×Value)}{ep:Nat}{t:SetTable}{Q:Value->Shared->Prop}(hu:A.units+1<cLine)(x:dP prog w s.heap a ps led o es ep t)(ks:∀p∈ps,KT prog w s.heap p.2 p.1)(hk:KT prog w s.heap zs b)(ne:zs≠[])(room:ps.length+1<=12)
  (k:∀h' o' es' gS t',Heap.SameBut a s.heap h'->dP prog w h' a (dQ ps (b,zs)) led o' es' gS t'->Q .none {s with heap:=h',toks:=s.toks+(zs.length+1)}) :
  wpAny (model prog w) A (call (.builtin "set.add") [.ref a,.ref b]) Q E s:=by
 have Xk:s.TypeIs (.ref a) "set" := ⟨o,x.ho,x.ex.1⟩
 refine wpAny_call_entry F.slot_set_add Xk F.entry_set_add ?_ (F.args_set_add_2 _ _);unfold Builtin.«set.add» Builtin.Frozenset.oneOther;simp only[adL,bind_assoc];unfold Builtin.Frozenset.addrOf setAdd;refine wpAny_bind (wpAny_pure ?_);try dsimp only
 refine wpAny_bind (wpAny_pure ?_);try dsimp only
 refine wpAny_bind ?_;refine wpAny_holding ?_;refine wpAny_bind (wpAny_pyHash_tuple (by show A.units+1<cLine;exact hu) hk ?_);refine dP.add (s:={s with toks:=s.toks+(zs.length+1)}) (by show A.units+1<cLine;exact hu) x ks hk ne room λbb h' o' es' gS t' sb x'=>?_;show wpAny _ _ (ret Value.none) _ _ _
 exact wpAny_pure ⟨_,rfl,k h' o' es' gS t' sb x'⟩
theorem FD(elt tg iter:Expr)(ifs:List Expr)(sc:Scope)(pos:Pos)(it acc:Value)(env:Env) :
  compTurn (.SetComp elt [⟨tg,iter,ifs,0⟩] sc pos) 0 it acc env=(do
   standAt iter.pos
   match <-pyNext it with
   |none=>pure (.done .next)
   |some v=>
    letOwnedTupleGo tg it v
    assign tg env v
    let mut ok:=true
    for c in ifs do
     if ok then ok <-isTrue c env (eval c env)
    if ok then
     (do let v <-eval elt env;standAt elt.pos;let _ <-call (.builtin "set.add") [acc,v])
    again (.compLoop (.SetComp elt [⟨tg,iter,ifs,0⟩] sc pos) 0 it acc env)):=by rfl
theorem Dd{elt target iter ifs rest scope pos it acc env}
  (h0:codeAny (model prog w) A (.compLoop (.SetComp elt (⟨target,iter,ifs,0⟩::rest) scope pos) 0 it acc env) R s)
  (h:wpAny (model prog w) A (pyIter it) (λLS s'=>codeAny (model prog w) A (.compLoop (.SetComp elt (⟨target,iter,ifs,0⟩::rest) scope pos) 0 LS acc env) R s')
   (notedBy (model prog w) A env λx s'=>R (.error x) s') s) :
  codeAny (model prog w) A (.compStart (.SetComp elt (⟨target,iter,ifs,0⟩::rest) scope pos) 0 it acc env) R s:=by
 refine codeAny_of_tree ?_;show wpAny _ A ((compStart (.SetComp elt (⟨target,iter,ifs,0⟩::rest) scope pos) 0 it acc env).onRaise (λx=>do noteFrame x env;standAt theWindowsPlace)) _ _ s
 refine wpAny_notedAt ?_;unfold compStart;show wpAny _ A (ask>>=_) _ _ s
 refine wpAny_bind (wpAny_askSetting (wpAny_ite ?_));split
 ·first
   |exact wpAny_bind (wpAny_pure (wpAny_pure (And.intro rfl h0)))
   |exact wpAny_pure (And.intro rfl h0)
 ·first
   |exact wpAny_bind (wpAny_rule (wpAny_bind (wpAny_standAt (wpAny_bind (wpAny_mono h (λLS s' h'=>wpAny_pure (And.intro rfl h')) λ_ _ x=>x)))))
   |(refine wpAny_bind (wpAny_rule ?_);show wpAny _ _ (standAt iter.pos>>=_) _ _ s;exact wpAny_bind (wpAny_standAt (wpAny_bind (wpAny_mono h (λLS s' h'=>wpAny_pure (And.intro rfl h')) λ_ _ x=>x))))
theorem De{elt tg iter:Expr}{ifs:List Expr}{sc:Scope}{pos:Pos}{env:Env}{it:Value}{acc:Value}(G:Nat->Shared->Prop)
  (turn:∀k t,G k t->gp.Tame prog w A (pyNext it) (λr t1=>match r with
   |none=>R (.ok .next) t1
   |some v=>gp.Tame prog w A (letOwnedTupleGo tg it v) (λ_=>gp.Tame prog w A (assign tg env v) λ_=>gp.Tame prog w A (km env ifs) λb t4=>match b with
     |false=>∃j,j<k/\G j t4
     |true=>gp.Tame prog w A (eval elt env) (λy=>gp.Tame prog w A (call (.builtin "set.add") [acc,y]) λ_ u=>∃j,j<k/\G j u) t4) t1) t)
  {k:Nat} {t:Shared} (g:G k t):codeAny (model prog w) A (.compLoop (.SetComp elt [⟨tg,iter,ifs,0⟩] sc pos) 0 it acc env) R t:=by
 have one:∀k t,G k t->gp.Tame prog w A (compTurn (.SetComp elt [⟨tg,iter,ifs,0⟩] sc pos) 0 it acc env) (λx t'=>match x with|.done r=>R (.ok r) t'|.again c=>c=.compLoop (.SetComp elt [⟨tg,iter,ifs,0⟩] sc pos) 0 it acc env/\∃j,j<k/\G j t') t:=by
  intro k t g;rw[FD];apply wpAny_bind;apply wpAny_standAt;apply wpAny_bind;refine aH (turn k t g) λx t1 h1=>?_;match x,h1 with
  |none,h1=>exact wpAny_pure h1
  |some v,h1=>
   apply wpAny_bind;refine aH h1 λ_ t2 h2=>?_;apply wpAny_bind;refine aH h2 λ_ t3 h3=>?_;apply wpAny_bind;refine aH h3 λb t4 h4=>?_;match b,h4 with
   |false,h4=>exact wpAny_pure ⟨rfl,h4⟩
   |true,h4 =>apply wpAny_bind;apply wpAny_bind;refine aH h4 λy t5 h5=>?_;apply wpAny_bind;apply wpAny_standAt;apply wpAny_bind;refine aH h5 λ_ t6 h6=>?_;exact wpAny_pure (wpAny_pure ⟨rfl,h6⟩)
 exact aeE rfl G (λk t g=>wpAny_noted (wpAny_mono (one k t g) (λ_ _ q=>q) λ_ _ f=>f.elim)) k g
end
def ud(P:Program)(w:World)(a:Addr)(ps:List (Addr×List Str)):HO:=.ext λh=>∃o es ep t,dP P w h a ps (!bz w) o es ep t
theorem LU{X:Cx}{H:Hp}{h:Heap}{a:Addr}{ps:List (Addr×List Str)}(x:∃o es ep t,dP X.prog X.w h a ps (!bz X.w) o es ep t):bc X.prog X.w H h a (ud X.prog X.w a ps):=by refine⟨x,?_,λh1 h2 ⟨o,es,ep,t,q⟩ k=>⟨o,es,ep,t,q.keep λo e=>k o e⟩⟩;obtain⟨o,es,ep,t,y⟩:=x;exact⟨o,y.ho⟩
def fV(H:Hp)(ps:List (Addr×List Str)):Prop:=∀p∈ps,H p.1=some (.tup (p.2.map V.str))
theorem Hs{X:Cx}{pins:List (Addr×Obj)}{σ:L2.St}{H:Hp}{s:Shared}(I:Inv X pins σ H s){c:Addr}{zs:List Str}(h:H c=some (.tup (zs.map V.str))):KT X.prog X.w s.heap zs c:=by obtain⟨its,rv,⟨o,ho,hc,n,hd⟩,_⟩:=I.tuple (aZ.of (K:=X.K) h);exact⟨o,its.toArray,n,ho,hc,hd,by simpa using FC rv⟩
def wY(P:Program)(w:World)(own:List Str)(fr:List Nat)(g:TG)(tt:TT)(te:TE)(σ:L2.St)(Q:VK)(J:It)(H1:Hp):Prop:=
 ∃W:Nat->Nat->List (Addr×List Str)->Hp->Prop,(∃m,W 0 m [] H1)/\∀i m ps H2,W i m ps H2->fV H2 ps /\
  ((J.stop i H2/\∀D,H2 D=none->Q (.ref D) (upd H2 D (ud P w D ps))) \/
  (J.go i H2/\∀x H3,J.sN i H2 x H3->g x (dS own fr σ) H3 λσ4 H4=>tt σ4 H4 λb H5=>if b=true then te σ4 H5 λy H6=>∃c zs,y=.ref c/\zs≠[]/\H6 c=some (.tup (zs.map V.str))/\fV H6 ps/\ps.length+1<=12/\∃m',m'<m/\W (i+1) m' (dQ ps (c,zs)) H6 else ∃m',m'<m/\W (i+1) m' ps H5))
def Xl(P:Program)(w:World)(own:List Str)(fr:List Nat)(wi:TI)(g:TG)(tt:TT)(te:TE):TE:=λσ H Q=>wi σ H (wY P w own fr g tt te σ Q)
section
variable {X:Cx}{own:List Str}{fr:List Nat}{sc:Scope}{tg iter elt:Expr}{ifs:List Expr}{pos:Pos}{wi:TI}{g:TG}{tt:TT}{te:TE}
theorem Jn{pins:List (Addr×Obj)}{σ:L2.St}{H2:Hp}{s2:Shared}{Q:VK}{it:Addr}{fp:List Addr}{tn:Nat->Heap->Prop}{J:It}{RR:Value->Addr->Result->Shared->Prop}{E:Value->Shared->Prop}(hu:X.A.units+1<cLine)(hc:X.calm=true)(S:gI X own fr sc)(gk:GK own.length g)
  (hg:∀s H fp,PG (du X own fr sc s H fp) tg g) (ht:∀s H fp,iE (du X own fr sc s H fp) ifs tt) (he:∀s H fp,PE (du X own fr sc s H fp) elt te)
  (I2:Inv X pins σ H2 s2) (T:Turn X.prog X.w X.K tg J fp it tn) (st2:tn 0 s2.heap) (f2:∀b∈fp,gF X pins H2 b) (L:wY X.prog X.w own fr g tt te σ Q J H2)
  (hRR:∀D C s',(∃m,s'.heap.Ns C m)->@LE.le Nat _ s2.heap.objs.size C->(∃H',H' C=none/\Q (.ref D) H'/\∀h' tk,Heap.SameBut C s'.heap h'->Inv X pins σ H' {s' with heap:=h',toks:=tk})->RR (.ref D) C (.ok .next) s') :
  wpAny (model X.prog X.w) X.A (newSet (.type "set")) (λacc s₃=>wpAny (model X.prog X.w) X.A (newFunctionEnv sc X.env.globals (cU X.env sc.names []) [] X.env.qual none .none (some X.env)) (λlQ s₄ =>codeAny (model X.prog X.w) X.A (.compStart (.SetComp elt [⟨tg,iter,ifs,0⟩] sc pos) 0 (.ref it) acc {lQ with scope:=relabel sc X.env}) (RR acc lQ.locals) s₄) E s₃) E s2:=by
 obtain⟨W,⟨m0,w0⟩,turn⟩:=L;unfold newSet;refine wpAny_bind (gN (wpAny_newObj_type (jG ?_)));dsimp only;generalize cW:s2.heap.push {cls:=.type "set",dict:=none,data:=.set #[] 0 (.fresh 0 0 (!bz X.w))}=h1;have hz:h1.objs.size=s2.heap.objs.size+1:=by rw[<-cW,aa1]
 have hk1:∀b o,s2.heap.get? b=some o->h1.get? b=some o:=λb o e=>by rw[<-cW];exact aab _ e
 have B9:h1.get? s2.heap.objs.size=some {cls:=.type "set",dict:=none,data:=.set #[] 0 (.fresh 0 0 (!bz X.w))}:=by rw[<-cW];exact aaq _ rfl
 have hfl:∀b∈fp,@LT.lt Nat _ b s2.heap.objs.size:=λb hb=>by obtain⟨o,e,_⟩:=T.obj _ _ st2 b hb;exact aag e
 have I3:=oN I2 S f2 hz hk1 hfl;rw[hz];generalize hY:du X own fr sc s2 H2 fp=Y at I3;have k8:(hC s2 sc h1).get? s2.heap.objs.size=some {cls:=.type "set",dict:=none,data:=.set #[] 0 (.fresh 0 0 (!bz X.w))}:=pushCells_keeps _ _ _ _ (aab _ B9);have lH:tn 0 (hC s2 sc h1):=T.keep _ _ _ st2 λb _ o e=>pushCells_keeps _ _ _ _ (aab _ (hk1 b o e));have eP:Y.prog=X.prog:=by rw[<-hY];rfl
 have eW:Y.w=X.w:=by rw[<-hY];rfl
 have eK:Y.K=X.K:=by rw[<-hY];rfl
 have eA:Y.A=X.A:=by rw[<-hY];rfl
 have eX:Y.xe=nR:=by rw[<-hY];rfl
 have tE:Y.calm=true:=by rw[<-hY];exact hc
 have vE:({scope:=relabel sc X.env,locals:=s2.heap.objs.size+1,globals:=X.env.globals,cells:=cellsFrom (s2.heap.objs.size+1+1) sc.names (cU X.env sc.names []),qual:=X.env.qual,func:=none,code:=X.env.code,frame:=X.env.frame,builtins:=X.env.builtins}:Env)=Y.env:=by rw[<-hY];rfl
 have eL:Y.env.locals=s2.heap.objs.size+1:=by rw[<-hY];rfl
 rw[vE];have vF:PG Y tg g:=hY▸hg s2 H2 fp;have B':iE Y ifs tt:=hY▸ht s2 H2 fp;have jR:PE Y elt te:=hY▸he s2 H2 fp;have dfp:s2.heap.objs.size∉fp:=λz=>aaV _ (hfl _ z);have dC:s2.heap.objs.size≠s2.heap.objs.size+1:=aar (aba _);have pW:∀x c,Y.env.cells.lookup x=some c->c≠s2.heap.objs.size:=λx c e z=>by obtain⟨v,o,q,d⟩:=I3.cell x c e;rw[z] at q;have q':=k8.symm.trans q;cases q';cases d
 have vG:s2.heap.objs.size∉Y.fs:=by
  rw[<-hY];intro z;rcases aah.mp (I2.gE _ z) with e|e
  ·exact aaV _ (by have:=I2.lt;rw[<-e] at this;exact this)
  ·exact I2.Ad (aac _) e
 have vH:@LE.le Nat _ Y.s₀.heap.objs.size s2.heap.objs.size:=by rw[<-hY];exact aac _
 have fpY:∀{H':Hp} {pp:List (Addr×Obj)},(∀b∈fp,H' b=none)->(∀p∈pp,p.1∉fp)->∀b∈fp,gF Y pp H' b:=λ{H' pp} hn hp b hb=>by
  refine⟨hn b hb,?_,?_,?_,?_,λp hq z=>?_⟩
  ·have:=hfl b hb;rw[eL];intro z;have z':@Eq Nat b (s2.heap.objs.size+1):=z;omega
  ·rw[<-hY];intro z;rcases aah.mp (I2.gE _ z) with e|e
   ·exact(f2 b hb).2.1 e
   ·exact(f2 b hb).2.2.1 e
  ·exact .inl (by rw[<-hY];exact hb)
  ·exact(I3.ok.yF b (by rw[<-hY];exact hb)).2
  ·rcases aas.mp hq with q|q
   ·have:p∈([]:List (Addr×Obj)):=by rw[<-hY] at q;exact q
    exact nomatch this
   ·exact hp p q (z▸hb)
 have vI:∀{H':Hp} {s':Shared} {σ':L2.St} {ob:Obj},Inv Y [] σ' H' s'->H' s2.heap.objs.size=none->s'.heap.get? s2.heap.objs.size=some ob->(∀v,ob.data≠.cell v)->Inv Y [(s2.heap.objs.size,ob)] σ' H' s':=λ{H' s' σ' ob} J0 hn e d=>
  J0.dI λp hp=>by
   have:p=(s2.heap.objs.size,ob):=by simpa using hp
   subst this;exact⟨e,hn,by rw[eL];exact dC,vG,d⟩
 have lR:∀{ob:Obj} (p:Addr×Obj),p∈[(s2.heap.objs.size,ob)]->p.1∉fp:=λ{ob} p hp=>by
  have:p=(s2.heap.objs.size,ob):=by simpa using hp
  subst this;exact dfp
 have loop:codeAny (model X.prog X.w) X.A (.compLoop (.SetComp elt [⟨tg,iter,ifs,0⟩] sc pos) 0 (.ref it) (.ref s2.heap.objs.size) Y.env) (RR (.ref s2.heap.objs.size) (s2.heap.objs.size+1)) {s2 with heap:=hC s2 sc h1}:=by
  have CL:∃o es ep t,dP X.prog X.w (hC s2 sc h1) s2.heap.objs.size [] (!bz X.w) o es ep t:=by
   refine⟨_,_,_,_,k8,⟨rfl,rfl,rfl⟩,rfl,⟨λi j hi=>absurd hi (ab7 _),rfl,rfl,.inl rfl,λi j e=>?_,aaG _,λi j e e1=>?_⟩,.nil,λ_=>aaG _,rfl,λq=>absurd rfl q⟩
   ·have:(#[]:Array Nat)[i]?=some j:=e
    simp at this
   ·have:(#[]:Array Nat)[i]?=some j:=e1
    simp at this
  refine De (λn s'=>∃i ps H',W i n ps H'/\Inv Y [] (dS own fr σ) H' s'/\tn i s'.heap/\(∀b∈fp,H' b=none)/\H' s2.heap.objs.size=none/\∃o es ep t,dP X.prog X.w s'.heap s2.heap.objs.size ps (!bz X.w) o es ep t) ?_ (k:=m0)
   ⟨0,[],H2,w0,I3,lH,λb hb=>(f2 b hb).1,I2.aG.fresh (aac _),CL⟩
  rintro n s' ⟨i,ps,H',w',J0,gG,tG,hDn,ob,es,ep,tb,hDo⟩;obtain⟨hold,lS⟩:=turn i n ps H' w';have Lq:∀v,ob.data≠.cell v:=λv z=>by rw[hDo.hd] at z;cases z
  have J1:=vI J0 hDn hDo.ho Lq;rcases lS with⟨stop,fin⟩|⟨go,step⟩
  ·have d0:=T.done Y eP eW eK tE i _ s' _ H' nR J1 (fpY tG lR) gG stop;rw[eA] at d0;refine wpAny_mono d0 (λr s4 ⟨hr,J4⟩=>?_) λ_ _ z=>z;subst hr;have pD:=(J4.pin (s2.heap.objs.size,_) (aaj _ aal)).1;refine hRR _ _ s4 ?_ (aa7 _) ⟨upd H' s2.heap.objs.size (ud X.prog X.w s2.heap.objs.size ps),?_,fin _ hDn,λh' tk hs=>?_⟩
   ·obtain⟨m,hn,_⟩:=J4.loc;rw[eL] at hn;exact⟨m,hn⟩
   ·rw[L2.aq (aaI dC),<-eL];exact J4.free
   ·subst hY;have hO:bc X.prog X.w (upd H' s2.heap.objs.size (ud X.prog X.w s2.heap.objs.size ps)) h' s2.heap.objs.size (ud X.prog X.w s2.heap.objs.size ps):=LU ⟨ob,es,ep,tb,{hDo with ho:=(hs.2 _ dC).trans pD}⟩;exact oO I2 f2 J4 (aac _) hDn dC hs hO tk
  ·have d0:=T.item Y eP eW eK tE i _ s' _ H' nR J1 (fpY tG lR) gG go;rw[eA] at d0;refine wpAny_mono d0 (λr s4 ⟨u,hr,h4⟩=>?_) λ_ _ z=>z;subst hr;refine wpAny_mono h4 (λ_ s5 ⟨x,H5,J5,r5,y5,iY,vh⟩=>?_) λ_ _ z=>z;have Cb:=J5.pinned (fpY vh lR) (T.obj _ _ iY);have s1:=vF _ s5 _ H5 x u _ Cb r5 (gk _ _ _ _ (step x H5 y5));rw[eP,eW,eA,eX] at s1;refine wpAny_mono s1 (λ_ s6 ⟨σ6,H6,J6,q6,tH⟩=>?_) λ_ _ z=>z;have tI:=B' _ s6 σ6 H6 _ J6 q6;rw[eP,eW,eA,eX] at tI;refine wpAny_mono tI (λok s7 ⟨H7,J7,q7⟩=>?_) λ_ _ z=>z;have low:∀{H8:Hp} {s8:Shared},Inv Y ([(s2.heap.objs.size,ob)]++fm fp s5.heap) σ6 H8 s8 ->
     Inv Y (fm fp s5.heap) σ6 H8 s8/\H8 s2.heap.objs.size=none/\s8.heap.get? s2.heap.objs.size=some ob/\(∀b∈fp,H8 b=none)/\tn (i+1) s8.heap:=λ{H8 s8} J8=>by
    have p8:=J8.pin (s2.heap.objs.size,_) (aaj _ (aax _ aal));refine⟨J8.dI λp hp=>J8.pin p (aaj _ (aaj _ hp)),p8.2.1,p8.1,λb hb=>?_,T.keep _ _ _ iY λb hb o e=>(J8.pin (b,o) (aaj _ (aaj _ (dD hb e)))).1⟩;obtain⟨o,e,d⟩:=T.obj _ _ iY b hb;exact(J8.pin (b,o) (aaj _ (aaj _ (dD hb e)))).2.1
   have weak:∀{H8:Hp} {s8:Shared} {pp:List (Addr×Obj)},Inv Y pp σ6 H8 s8->Inv Y [] (dS own fr σ) H8 s8:=λ{H8 s8 pp} J8=>(J8.weak tH.1.symm (λj v e=>by
    by_cases hj:j<own.length
    ·exfalso;unfold dS at e;rw[aa6 (by simpa using hj),abP] at e;split at e<;>cases e
    ·rw[tH.2 j (adB.mp hj)];exact e)).dI λp hp=>nomatch hp
   cases ok with
   |false=>
    obtain⟨m',hm,w7⟩:=(show ∃m',m'<n/\W (i+1) m' ps H7 by simpa using q7)
    obtain⟨_,l1,l2,l3,l4⟩:=low J7;exact⟨m',hm,i+1,ps,H7,w7,weak J7,l4,l3,l1,ob,es,ep,tb,{hDo with ho:=l2}⟩
   |true=>
    have Cc:te σ6 H7 λy H6=>∃c zs,y=.ref c/\zs≠[]/\H6 c=some (.tup (zs.map V.str))/\fV H6 ps/\ps.length+1<=12/\∃m',m'<n/\W (i+1) m' (dQ ps (c,zs)) H6:=by simpa using q7
    have s3:=jR _ s7 σ6 H7 _ J7 Cc;rw[eP,eW,eA,eX] at s3;show wpAny _ _ _ _ _ _
    refine wpAny_mono s3 (λyv s8 ⟨y,H8,J8,r8,c,zs,ey,ne,Xm,hold8,room,m',hm,w8⟩=>?_) λ_ _ z=>z;subst ey;cases r8;have Ru:=Hs J8 Xm;have Xn:∀p∈ps,KT X.prog X.w s8.heap p.2 p.1:=λp hp=>by have:=Hs J8 (hold8 p hp);rw[eP,eW] at this;exact this
    rw[eP,eW] at Ru;obtain⟨K0,l1,l2,l3,l4⟩:=low J8;refine Jm hu ({hDo with ho:=l2}:dP X.prog X.w s8.heap s2.heap.objs.size ps (!bz X.w) ob es ep tb) Xn Ru ne room λh' o' es' gS t' hs' x'=>?_;have J9:Inv Y [] (dS own fr σ) H8 {s8 with heap:=h',toks:=s8.toks+(zs.length+1)}:=by
     refine(weak K0).turned (t':=s8.toks+(zs.length+1)) (it:=s2.heap.objs.size) (λb o hb e=>(hs'.2 b hb).trans e) l1 (by rw[eL];exact dC) (.inr vH) pW λp hp=>?_
     have:p∈([]:List (Addr×Obj)):=by rw[<-hY] at hp;exact hp
     exact nomatch this
    refine⟨m',hm,i+1,dQ ps (c,zs),H8,w8,J9,?_,l3,l1,o',es',gS,t',x'⟩;exact T.keep _ _ _ l4 λb hb o e=>(hs'.2 b (λz=>dfp (z▸hb))).trans e
 exact Dd loop (T.self X.A 0 _ _ _ lH loop)
theorem Pj{P:Program}{w:World}(own:List Str)(fr:List Nat)(hu:X.A.units+1<cLine)(hc:X.calm=true)(S:gI X own fr sc)(gk:GK own.length g)(hi:PI X tg iter wi)
  (hg:∀s H fp,PG (du X own fr sc s H fp) tg g) (ht:∀s H fp,iE (du X own fr sc s H fp) ifs tt) (he:∀s H fp,PE (du X own fr sc s H fp) elt te) (hP:X.prog=P:=by rfl) (hw:X.w=w:=by rfl)
  (hs:∀x,foldedSetIterable iter X.env x=pure x:=by intro _;rfl):PE X (.SetComp elt [⟨tg,iter,ifs,0⟩] sc pos) (Xl P w own fr wi g tt te):=by
 subst hP hw;intro pins s σ H Q I h;show wpAny _ _ (comprehension (.SetComp elt [⟨tg,iter,ifs,0⟩] sc pos) sc X.env (firstIterPos [⟨tg,iter,ifs,0⟩] pos) (newSet (.type "set")) (firstAsync [⟨tg,iter,ifs,0⟩]) (firstIter [⟨tg,iter,ifs,0⟩] X.env)) _ _ _
 have ko:closureFor sc X.env=pure (cU X.env sc.names []):=fG λy hy hf=>I.ok.has y.1 (by
  rcases S.yT y hy hf with q|q
  ·exact .inl q
  ·exact .inr q)
 refine wpAny_comprehension_free (use:=none) rfl hs ko S.kind (λy hy hl=>bX S.nd (by rw[<-hl];exact hy)) ?_;refine aH (hi pins s σ H _ I h) λv s1 h1=>aH h1 λitv s2 h2=>?_;obtain⟨it,fp,tn,J,H2,e,I2,T,st2,f2,L⟩:=h2;subst e;exact Jn hu hc S gk hg ht he I2 T st2 f2 L λD C s' ⟨m,hn⟩ _ ⟨H',_,q,hi⟩=>⟨m,hn,λh' hs'=>⟨.ref D,H',hi h' s'.toks hs',rfl,q⟩⟩
end
def ip(ps:List (Addr×List Str))(a:Addr):List Str:=((ps.find? λp=>decide (p.1=a)).map (·.2)).getD []
theorem str_inj:∀{xs ys:List Str},xs.map V.str=ys.map V.str->xs=ys
 |[],[],_=>rfl
 |[],_::_,h=>by simp at h
 |_::_,[],h=>by simp at h
 |x::xs,y::ys,h=>by simp only[aaE,agx,V.str.injEq] at h;rw[h.1,str_inj h.2]
theorem wZ{H:Hp}{ps:List (Addr×List Str)}(h:fV H ps){p:Addr×List Str}(hp:p∈ps):ip ps p.1=p.2:=by
 unfold ip;cases e:ps.find? λq=>decide (q.1=p.1) with
 |none=>
  have:=adm.mp e p hp
  simp at this
 |some q=>
  have h1:=afs e;have h2:=adD e;have e1:q.1=p.1:=by simpa using h1
  have a:=h q h2;rw[e1,h p hp] at a;have a':p.2.map V.str=q.2.map V.str:=by injection a with a;injection a
  exact(str_inj a').symm
section
variable {prog:Program}{w:World}{A:Around}{E:Value->Shared->Prop}{s:Shared}
def oW(h:Heap)(f:Addr->List Str)(v:Value):Prop:=∃a its,v=.ref a/\IsTup h a its.toArray/\StrsAre its (f a)/\f a≠[]
theorem oW.keep{h h':Heap}{f:Addr->List Str}{v:Value}(x:oW h f v)(k:∀b o,h.get? b=some o->h'.get? b=some o):oW h' f v:=let ⟨a,its,e,⟨o,ho,r⟩,q⟩:=x;⟨a,its,e,⟨o,k _ _ ho,r⟩,q⟩
theorem w6{h:Heap}{f:Addr->List Str}:∀{us:List Value},(∀v∈us,oW h f v)->∃my,AY h us my/\∀zs∈my,zs≠[]
 |[],_=>⟨[],.nil,λ_ z=>nomatch z⟩
 |u::us,k=>by obtain⟨my,t,n⟩:=w6 λv hv=>k v (aae _ hv);obtain⟨a,its,e,hi,hs,ne⟩:=k u aal;exact⟨f a::my,.cons ⟨a,its,e,hi,hs⟩ t,λz hz=>(aah.mp hz).elim (λe=>e▸ne) (n z)⟩
theorem FE{us:List Value}{f:Addr->List Str}(k:∀v∈us,oW s.heap f v):oa prog w A E s (pairsOf us) (tuples' true) (jV f):=by
 intro st i j R q hi hj hR;have at_:∀{i:Nat},i<(pairsOf us).size->∃a its p,(arrOf st)[i]?=some (.ref a,p)/\IsTup s.heap a its.toArray/\StrsAre its (f a):=λ{i} hi=>by
  have hi':i<(arrOf st).size:=by rw[q.len];exact hi
  have m:(arrOf st)[i]∈(pairsOf us).toList:=by
   have:(arrOf st)[i]∈pairsOf us:=q.pm.mem_iff.mp (Array.getElem_mem hi')
   simpa using this
  have m2:((arrOf st)[i]).1∈us:=by
   have:(arrOf st)[i]∈us.zip us:=by simpa [pairsOf] using m
   exact(aco this).1
  obtain⟨a,its,e,h1,h2,_⟩:=k _ m2;exact⟨a,its,((arrOf st)[i]).2,by rw[aao hi',<-e],h1,h2⟩
 obtain⟨a,ia,pa,ea,ta,sa⟩:=at_ hi;obtain⟨b,ib,pb,eb,tb,sb⟩:=at_ hj;have ka:ky (jV f) st i=f a:=by show KK _ _ _=_;unfold KK;rw[ea];rfl
 have kb:ky (jV f) st j=f b:=by show KK _ _ _=_;unfold KK;rw[eb];rfl
 rw[ka,kb] at hR;rw[ltAt'_eq];refine wpS_bind (wpS_get ?_);show wpS _ _ _ _ (do let x <-elem' (arrOf st) i;let y <-elem' (arrOf st) j;lt' x y) R st
 rw[elem'_eq,elem'_eq,ea,eb];refine wpS_bind (wpS_pure (wpS_bind (wpS_pure ?_)));rw[lt'_eq];refine wpS_bind (wpS_get ?_);rw[q.kn];refine wpS_bind (wpS_lift (wpAny_attempt (Jl ta tb sa sb ⟨rfl,?_⟩)));exact wpS_pure hR
theorem AZ{h:Heap}{tk:Nat}{us:List Value}{f:Addr->List Str}{Q:Value->Shared->Prop}(hk:∀v∈us,oW h f v)(aJ:us.length<64)
  (q:∀(out:List Addr) (n:Nat) (h2:Heap),(out.map Value.ref).Perm us->out.Pairwise (λa b=>cO (f b) (f a)=false)->(∀b o,h.get? b=some o->h2.get? b=some o)->h2.get? h.objs.size=some {cls:=.type "list",data:=.seq (out.map Value.ref).toArray n}->Q (.ref h.objs.size) {s with heap:=h2,toks:=tk}) :
  wpAny (model prog w) A (call (.builtin "list.sort") [.ref h.objs.size]) (λ_ s'=>Q (.ref h.objs.size) s') E {s with heap:=h.push {cls:=.type "list",data:=.seq us.toArray},toks:=tk}:=by
 have qb:(h.push {cls:=.type "list",data:=.seq us.toArray}).get? h.objs.size=some (seqObj "list" us.toArray 0):=aaq _ rfl;refine wpAny_call_entry acL ⟨_,qb,rfl⟩ acD ?_ (args_list_sort _);refine Fz (h:=h) (us:=us) rfl aJ (tuples' true) (jV f) (λt kp two R r=>?_) (λt kp=>FE λv hv=>(hk v hv).keep kp) λout n h2 pm aK kp g=>⟨_,rfl,?_⟩
 ·obtain⟨my,T,ne⟩:=w6 λv hv=>(hk v hv).keep kp;exact C' T ne two r
 ·have ln:out.size=us.length:=by rw[pm.size_eq,acz]
  have pr:∀x∈out.toList,x.1=x.2/\x.2∈us:=λx hx=>by
   have m:x∈(pairsOf us).toList:=by
    have:x∈pairsOf us:=pm.mem_iff.mp (by simpa using hx)
    simpa using this
   have m':x∈us.zip us:=by simpa [pairsOf] using m
   obtain⟨a,b⟩:=x;refine⟨?_,(aco m').2⟩;obtain⟨i,hi,e⟩:=abC m';rw[List.getElem_zip] at e;cases e;rfl
  have ad:∃outs:List Addr,out.toList.map (·.2)=outs.map Value.ref:=by
   have:∀l:List Keyed,(∀x∈l,x.2∈us)->∃outs:List Addr,l.map (·.2)=outs.map Value.ref:=by
    intro l;induction l with
    |nil=>intro _;exact⟨[],rfl⟩
    |cons x l ih =>intro hx;obtain⟨outs,e⟩:=ih λy hy=>hx y (aae _ hy);obtain⟨a,its,ea,_⟩:=hk _ (hx x aal);exact⟨a::outs,by rw[aaE,aaE,e,ea]⟩
   exact this _ λx hx=>(pr x hx).2
  obtain⟨outs,eo⟩:=ad;have lo:outs.length=us.length:=by
   have:=congrArg List.length eo
   simp at this;omega
  have zu:(us.zip us).map (·.2)=us:=by
   have:∀l:List Value,(l.zip l).map (·.2)=l:=λl=>by induction l with|nil=>rfl|cons x l ih=>simp[ih]
   exact this us
  refine q outs n h2 ?_ ?_ kp ?_
  ·rw[<-eo];have p1:out.toList.Perm (pairsOf us).toList:=Array.perm_iff_toList_perm.mp pm;have p2:=p1.map (·.2);have e2:(pairsOf us).toList.map (·.2)=us:=by
    have:(pairsOf us).toList=us.zip us:=by simp[pairsOf]
    rw[this,zu]
   rw[e2] at p2;exact p2
  ·refine ab3.mpr λi j hi hj ij=>?_;have s0:=aK i j (by omega) (by omega);have kk:∀{i:Nat} (hi:i<outs.length),KK (jV f) out i=f outs[i]:=λ{i} hi=>by
    have hi':i<out.size:=by omega
    have e1:out[i]?=some out[i]:=aao hi';have m:=pr out[i] (by simp);have e2:out[i].2=Value.ref outs[i]:=by
     have:=congrArg (λl=>l[i]?) eo
     simp[hi',hi] at this;exact this
    unfold KK;rw[e1];show((jV f).keyOf out[i].1).getD _=_
    rw[m.1,e2];rfl
   rw[kk hi,kk hj] at s0;exact s0
  ·rw[g]
   have:(out.map (·.2))=(outs.map Value.ref).toArray:=by apply abR.mp;simp[eo]
   rw[this]
end
section
variable {X:Cx}
theorem qo{P:Program}{w:World}(hc:X.calm=true)(hP:X.prog=P:=by rfl)(hw:X.w=w:=by rfl):bV X (.builtin "sorted") (λxs H Q=>∃(p:Addr) (ps:List (Addr×List Str)),xs=[.ref p]/\H p=some (ud P w p ps)/\fV H ps/\(∀x∈ps,x.2≠[])/\ps.length<64 /\
  ∀l (qs:List (Addr×List Str)),H l=none->qs.Perm ps->qs.Pairwise (λa b=>cO b.2 a.2=false)->Q (.ref l) (upd H l (.lst (qs.map λq=>V.ref q.1)))):=by
 subst hP hw;rintro pins s σ H xs us Q I r ⟨p,ps,rfl,hp,hold,ne,aJ,q⟩;obtain⟨u,rfl,rx⟩:=vals1 r;cases rx;obtain⟨⟨o,es,ep,t,x⟩,_⟩:=I.aG _ _ hp;have sz:=x.size;refine ab1 ad0 adJ adK (args_sorted1 _) ?_;unfold Builtin.«sorted»;apply wpAny_bind (m:=checkCount "sorted" 1 1 _);apply wpAny_pure;apply wpAny_bind;refine jK (A:=X.A.in1) ⟨⟨o,x.ho,x.ex,x.hd⟩,x.tab.fits,x.led,λq=>.inl (x.pl (by omega))⟩ (by rw[sz];exact aam (aaU aJ) (by decide)) (by exact I.ok.hd hc) λh1 tk dr acc keep pm=>?_;have pm':acc.Perm (ps.map λp=>Value.ref p.1):=pm.trans (by
  have:=x.pm.map (·.2)
  rw[abD] at this;exact this)
 have la:acc.length=ps.length:=by rw[pm'.length_eq,aaa]
 have tf:∀v∈acc,oW h1 (ip ps) v:=λv hv=>by obtain⟨pp,LV,rfl⟩:=aaK.mp (pm'.mem_iff.mp hv);obtain⟨its,rv,⟨ot,ho,r1⟩,_⟩:=I.tuple (aZ.of (K:=X.K) (hold pp LV));have e:=wZ hold LV;exact⟨pp.1,its,rfl,⟨ot,keep _ _ ho,r1⟩,by rw[e];exact gq rv,by rw[e];exact ne pp LV⟩
 apply wpAny_bind;refine wpAny_newList ?_ (by rw[la];exact aam (aaU aJ) (by decide));apply wpAny_bind;apply wpAny_holding;refine wpAny_mono (AZ (prog:=X.prog) (w:=X.w) (s:={s with drawn:=dr}) (h:=h1) (tk:=tk) (Q:=EP X pins σ Q) tf (by rw[la];exact aJ) λout n h2 o1 o2 o3 o4=>?_) (λ_ _ z=>wpAny_pure ⟨_,rfl,z⟩) λ_ _ z=>z;have no:s.heap.get? h1.objs.size=none:=by
  cases e:s.heap.get? h1.objs.size with
  |none=>rfl
  |some o=>exact absurd (aag (keep _ _ e)) (aaV _)
 have noH:H h1.objs.size=none:=by
  cases e:H h1.objs.size with
  |none=>rfl
  |some o =>obtain⟨u,eu⟩:=(I.aG _ _ e).there;rw[no] at eu;cases eu
 have pa:out.Perm (ps.map (·.1)):=by
  have:=(o1.trans pm').map λv=>match v with|Value.ref a=>a|_=>0
  rw[abD,abD] at this;have e1:(out.map ((λv=>match v with|Value.ref a=>a|_=>0)∘Value.ref))=out:=by rw[show((λv=>match v with|Value.ref a=>a|_=>(0:Addr))∘Value.ref)=id from rfl];simp
  rw[e1] at this;exact this
 have qp:(out.map λa=>(a,ip ps a)).Perm ps:=by
  have:=pa.map λa=>(a,ip ps a)
  rw[abD] at this;have e:ps.map ((λa=>(a,ip ps a))∘(·.1))=ps:=by
   have:∀l:List (Addr×List Str),(∀x∈l,x∈ps)->l.map ((λa=>(a,ip ps a))∘(·.1))=l:=by
    intro l;induction l with
    |nil=>intro _;rfl
    |cons y l ih=>
     intro hy;rw[aaE,ih λz hz=>hy z (aae _ hz)];show(y.1,ip ps y.1)::l=y::l
     rw[wZ hold (hy y aal)]
   exact this ps λ_ h=>h
  rw[e] at this;exact this
 have qw:(out.map λa=>(a,ip ps a)).Pairwise (λa b=>cO b.2 a.2=false):=acd.mpr o2;have em:(out.map λa=>(a,ip ps a)).map (λq=>V.ref q.1)=out.map V.ref:=by rw[abD];rfl
 have fin:=q h1.objs.size _ noH qp qw;rw[em] at fin;refine⟨.ref h1.objs.size,_,(I.drawn (dr:=dr)).uR (t':=tk) (o:=.lst (out.map V.ref)) (λb o e=>o3 _ _ (keep _ _ e)) no noH ?_,rfl,fin⟩;refine⟨by rw[aaa];have:=qp.length_eq;rw[aaa] at this;rw[this];exact aam (aaU aJ) (by decide),out.map Value.ref,n,?_,o4⟩
 have:∀l:List Addr,Vals (l.map V.ref) (l.map Value.ref):=λl=>by
  induction l with
  |nil=>exact .nil
  |cons x l ih=>exact .cons rfl ih
 exact this out
end
theorem fV.same{H H':Hp}{ps:List (Addr×List Str)}(h:fV H ps)(s:av H H'):fV H' ps:=λp hp=>s _ _ (h p hp)
theorem Jo{P:Program}{w:World}{K:PySem.W.Frag}{a:Addr}{xs:List V}{own:List Str}{fr:List Nat}{g:TG}{tt:TT}{te:TE}{σ:L2.St}{Q:VK}{H:Hp}(Pv:Nat->List (Addr×List Str)->Hp->Prop)(h0:Pv 0 [] H)
  (hh:∀i ps H,i<=xs.length->Pv i ps H->fV H ps) (hl:∀i ps H,i<=xs.length->Pv i ps H->ar K H a xs)
  (hs:∀i x ps H (R:List (Addr×List Str)->Hp->Prop),xs[i]?=some x->Pv i ps H->(∀ps' H',Pv (i+1) ps' H'->R ps' H')->g x (dS own fr σ) H λσ4 H4=>tt σ4 H4 λb H5=>if b=true then te σ4 H5 λy H6=>∃c zs,y=.ref c/\zs≠[]/\H6 c=some (.tup (zs.map V.str))/\fV H6 ps/\ps.length+1<=12/\R (dQ ps (c,zs)) H6 else R ps H5)
  (hd:∀ps H,Pv xs.length ps H->∀D,H D=none->Q (.ref D) (upd H D (ud P w D ps))):wY P w own fr g tt te σ Q (pK K a) H:=by
 refine⟨λi m ps H=>m=xs.length-i/\i<=xs.length/\Pv i ps H,⟨xs.length,rfl,aaG _,h0⟩,?_⟩;rintro i m ps H2 ⟨rfl,hi,p⟩;refine⟨hh i ps H2 hi p,?_⟩;have q:=hl i ps H2 hi p;by_cases h:i<xs.length
 ·refine .inr ⟨⟨xs,xs[i],q,by simp[h]⟩,λx H3 hy=>?_⟩;obtain⟨rfl,hy⟩:=hy;have z:=hs i x ps _ (λps' H'=>∃m',m'<xs.length-i/\(m'=xs.length-(i+1)/\i+1<=xs.length/\Pv (i+1) ps' H')) (hy xs q) p λps' H' q=>⟨xs.length-(i+1),by omega,rfl,h,q⟩
  exact z
 ·have e:i=xs.length:=by omega
  subst e;exact .inl ⟨⟨xs,q,aac _⟩,hd ps H2 p⟩
theorem Dg(ps:List (Addr×List Str))(p:Addr×List Str)(zs:List Str):zs∈(dQ ps p).map (·.2) ↔ zs∈ps.map (·.2)\/zs=p.2:=by
 unfold dQ;split
 ·rename_i h
  exact⟨.inl,λq=>q.elim id λe=>e▸h⟩
 ·rw[aaN,aas];simp
theorem Jp{ps:List (Addr×List Str)}{p:Addr×List Str}(h:(ps.map (·.2)).Nodup):((dQ ps p).map (·.2)).Nodup:=by
 unfold dQ;split
 ·exact h
 ·rename_i n
  rw[aaN];refine aeX.mpr ⟨h,by simp,λx hx y hy e=>?_⟩
  have:y=p.2:=by simpa using hy
  subst this;exact n (e▸hx)
theorem Dh{H:Hp}{ps:List (Addr×List Str)}{p:Addr×List Str}(h:fV H ps)(hp:H p.1=some (.tup (p.2.map V.str))):fV H (dQ ps p):=by
 unfold dQ;split
 ·exact h
 ·intro q hq;rcases aas.mp hq with q1|q1
  ·exact h q q1
  ·rw[aaf.mp q1];exact hp
theorem Jq{ps:List (Addr×List Str)}{p:Addr×List Str}(h:∀x∈ps,x.2≠[])(hp:p.2≠[]):∀x∈dQ ps p,x.2≠[]:=by
 unfold dQ;split
 ·exact h
 ·intro q hq;rcases aas.mp hq with q1|q1
  ·exact h q q1
  ·rw[aaf.mp q1];exact hp
theorem FF(ps:List (Addr×List Str))(p:Addr×List Str):(dQ ps p).length<=ps.length+1:=by
 unfold dQ;split
 ·omega
 ·simp
end L3
namespace dO
open PySem PySem.Spec PyProof.Rows L2 L3
abbrev xa:Stmt:=top 22 -- LW
abbrev iU:Stmt:=top 23 -- pieces
abbrev mz:Stmt:=top 24 -- hangs
abbrev qq:Stmt:=top 26 -- ON
abbrev LX(K:PySem.W.Frag):List V->Hp->VK->Prop:=λxs H Q=>∃p ys,xs=[V.ref p]/\((ar K H p ys/\∀l,H l=none->Q (V.ref l) (upd H l (.tup ys)))\/(aZ K H p ys/\Q (V.ref p) H))
def within(ns:List Str)(ps:List (Str×Str)):List (Str×Str):=ps.filter λp=>decide (p.1∈ns)&&decide (p.2∈ns)
def cF(es:List (Str×Str)):List (Str×Str):=es++turn es
noncomputable def comp(ns:List Str)(ps:List (Str×Str))(z:Str):List Str:=cE ns (cF (within ns ps)) z
theorem Di(ns:List Str)(ps:List (Str×Str)):fb ns (within ns ps):=λp hp=>by
 have:=(abm.mp hp).2
 simpa using this
theorem rL{ns:List Str}{es:List (Str×Str)}(h:fb ns es):fb ns (cF es):=λp hp=>(aas.mp hp).elim (h p) (rG h p)
theorem ue{ns:List Str}{ps:List (Str×Str)}{z:Str}(h:z∈ns):z∈comp ns ps z:=cg.mpr ⟨h,bP.here _⟩
structure zm(ns:List Str)(ps:List (Str×Str))(qs:List (Addr×List Str)):Prop where
 mem:∀zs,zs∈qs.map (·.2) ↔ ∃z∈ns,zs=comp ns ps z
 nd:(qs.map (·.2)).Nodup
 up:qs.Pairwise (λa b=>cO b.2 a.2=false)
theorem iH{α β:Type}{F:α->β->Prop}:∀{a c:List α} {b d:List β},Paired F a b->Paired F c d->Paired F (a++c) (b++d)
 |_,_,_,_,.nil,q=>q
 |_,_,_,_,.cons r t,q=>.cons r (iH t q)
section
variable {P:Program}{w:World}{K:PySem.W.Frag}{mg:Str->Option Value}{base:Heap}
variable {C fP fS fL jW mC Dj qr xb:Addr}{fdP e6 mD hJ jb xf kL oX:FuncData}
def LY(C:Addr):Sp:=λvs H Q _=>∃(x a:Addr) (ms ns:List Str) (ps:List (Str×Str)),vs=[.ref x,.ref a]/\bq C H x ms ps/\ps.length<=30/\H a=some (.lst (ns.map V.str))/\ns.Nodup/\ns.length<=12 /\
 ∀l qs H',H l=none->H' l=some (.lst (qs.map λq=>V.ref q.1))->fV H' qs->zm ns ps qs->av H H'->Q (.ref l) H'
abbrev LZ:List Str:=["web","among","inner","steps"]
theorem FG:aF LZ ["web","among"] (ao xa):=⟨rfl,rfl,rfl,by decide +kernel,rfl,by decide +kernel,by decide +kernel⟩
theorem Pk{f:Addr}{fd:FuncData}(F:aX K "pieces_among" "pieces_among" xa f fd)(M:Mt K mg C fP fS fdP e6)(DL:Df K mg "leads" iy ["places","ties"] fL mD)(DS:Df K mg "spread" gy ["steps","start"] jW hJ)(DT:Df K mg "turned_pairs" gA ["ties"] mC jb)(T:bK mg):ak P w K mg base aD 2 f fd ["web","among"] (LY C):=by
 have L0:ak P w K mg base aD 1 fS e6 ["self"] (E2 C):=y0 M.sF M.wc T;have GL:ak P w K mg base aD 1 fL mD ["places","ties"] rF:=wH DL.fn T;have GS:ak P w K mg base aD 1 jW hJ ["steps","start"] kH:=mi DS.fn T;have GT:ak P w K mg base aD 1 mC jb ["ties"] oV:=tX DT.fn T;refine F.ok FG (λvs H Q E h=>?_) (λcdv A outer s H vs Q E hr h=>?_)
 ·obtain⟨x,a,ms,ns,ps,rfl,_⟩:=h;rfl
 ·obtain⟨x,a,ms,ns,ps,rfl,hW,lp,ha,nn,aJ,k⟩:=h;have hu:=Ay hr;refine⟨_,aj (qX (i:=2) ["a","b"] [1] FG.nd rfl rfl rfl (bQ (osc:=(ao xa).names) (N:=LZ) rfl rfl (by decide +kernel)) (vD (K:=K) (k:=2) (by decide) (by decide)) (bh (dg (pv 0) M.wc.cl M.sM L0 hr M.sB .nil aA))
    (λ_ _ _=>ir rfl (bU (aI (i:=0) (show(["a","b","among"]:List Str).Nodup by decide +kernel) rfl (Or.inl rfl)) (bU (aI (i:=1) (show(["a","b","among"]:List Str).Nodup by decide +kernel) rfl (Or.inl rfl)) gf)))
    (λ_ _ _=>fR (PW.pt (iW (aS (r:=yR K false) eQ (pv 0) (pv 2) rfl) (iT (aS (r:=yR K false) eQ (pv 1) (pv 2) rfl)))))
    (λ_ _ _=>cK (aa (pv 0) (aa (pv 1) ae))))
   (aj (aM (i:=3) FG.nd rfl (Or.inr rfl) (aw GL hr rfl DL.aO DL.fn.kp DL.b .nil aA (aa (pv 1) (aa (bo eR (pv 2) (aw GT hr rfl DT.aO DT.fn.kp DT.b .nil aA (aa (pv 2) ae))) ae))))
   (ai (aB (ay (qo (P:=P) (w:=w) rfl) (by rfl) T.sorted acK (aa (Pj (P:=P) (w:=w) ["place"] [3] hu rfl (bQ (osc:=(ao xa).names) (N:=LZ) rfl rfl (by decide +kernel)) (bJ (by decide)) (bh (pv 1))
    (λ_ _ _=>aI (i:=0) (show(["place","steps"]:List Str).Nodup by decide +kernel) rfl (Or.inl rfl)) (λ_ _ _=>bT)
    (λ_ _ _=>bD (r:=LX K) dv (by rfl) T.tuple aa4 (aa (aw GS hr rfl DS.aO DS.fn.kp DS.b .nil aA (aa (pv 1) (aa (pv 0) ae))) ae))) ae))))),?_⟩
  try rw[bu]
  obtain⟨d1,f1,q1,r1⟩:=hW.ja "ties";refine⟨_,rfl,x,d1,f1,rfl,q1,r1,x,ms,ps,rfl,hW,λlt tt Ro Rv=>⟨lt,rfl,⟨_,ar.of af⟩,?_⟩⟩;have s0:=ag (o:=.lst (tt.map V.ref)) Ro;have hlt:=af (H:=H) (a:=lt) (o:=.lst (tt.map V.ref));generalize upd H lt (.lst (tt.map V.ref))=H0 at s0 hlt⊢;have hT0:=Rv.same s0;have lz:(tt.map V.ref).length=ps.length:=by rw[aaa,Rv.len]
  refine cu (K:=K) (xs:=tt.map V.ref) (λi ys H2=>av H0 H2/\∃us,ys=us.map V.ref/\aV H2 us (within ns (ps.take i))) ⟨av.refl _,[],rfl,.nil⟩ ?_ ?_ ?_ ?_
  ·rintro i ys H2 hi ⟨_,us,rfl,hU⟩;rw[aaa,hU.len];exact aam (abh _ _) (aam (by rw[aaP];exact afd _ _) (aam lp (by decide)))
  ·rintro i ys H2 _ ⟨s2,_⟩;exact ar.of (s2 _ _ hlt)
  ·rintro i v ys H2 R hv ⟨s2,us,rfl,hU⟩ kR;rw[aan] at hv;obtain⟨t,et,rfl⟩:=aap.mp hv;obtain⟨p,ep,ht⟩:=(hT0.same s2).get et;have Dk:=s2 _ _ (s0 _ _ ha);have fin:within ns (ps.take (i+1))=within ns (ps.take i)++(if (decide (p.1∈ns)&&decide (p.2∈ns))=true then [p] else []):=by unfold within;rw[aaC,ep,abU];congr 1;rw[abV,ack];rfl
   refine⟨t,_,rfl,aZ.of ht,rfl,_,_,rfl,_,_,rfl,rfl,?_⟩;refine⟨_,rfl,_,rfl,a,_,rfl,.inl (ar.of Dk),rfl,cN ns,_,rfl,?_⟩;simp only[aaz,aa9];rw[e9];by_cases h1:p.1∈ns
   ·rw[decide_eq_true h1];refine bt ⟨_,rfl,_,rfl,a,_,rfl,.inl (ar.of Dk),rfl,cN ns,_,rfl,?_⟩;simp only[aaz,aa9];rw[e9];by_cases h2:p.2∈ns
    ·rw[decide_eq_true h2];refine bt ⟨_,rfl,_,rfl,(show 2<=sizeLine by decide),λu hu=>kR _ _ ⟨s2.trans (ag hu),us++[u],by simp,?_⟩⟩;rw[fin,if_pos (by simp[h1,h2])];exact aV.snoc (hU.same (ag hu)) af
    ·rw[aaA h2];exact aP (kR _ _ ⟨s2,us,rfl,by rw[fin,if_neg (by simp[h2]),abA];exact hU⟩)
   ·rw[aaA h1];exact aP (kR _ _ ⟨s2,us,rfl,by rw[fin,if_neg (by simp[h1]),abA];exact hU⟩)
  rintro ys H2 ⟨s2,us,rfl,hU⟩ q2 Rw;rw[lz,aaR (aac _)] at hU;have s3:=s2.trans (ag (o:=.lst (us.map V.ref)) Rw);have wg:=af (H:=H2) (a:=q2) (o:=.lst (us.map V.ref));have hU3:=hU.same (ag (o:=.lst (us.map V.ref)) Rw);change Kj _ _ _ _ (upd H2 q2 (.lst (us.map V.ref)));generalize upd H2 q2 (.lst (us.map V.ref))=H3 at s3 wg hU3⊢;have s03:=s0.trans s3;have lw:(within ns ps).length<=30:=aam (abh _ _) lp;have hI:=rL (Di ns ps);have lb:(cF (within ns ps)).length<=60:=by unfold cF;rw[aay,kI];omega
  refine⟨_,rfl,_,rfl,_,rfl,q2,us,_,rfl,wg,hU3,by omega,λl4 u4 H4 n4 h4 hT4 s4=>?_⟩;refine⟨q2,l4,_,_,rfl,rfl,s4 _ _ wg,h4,?_,λl5 n5=>?_⟩
  ·rw[aaa,aaa,hU3.len,hT4.len,kI];exact aam (by omega:_<=60) (by decide)
  have s5:=ag (o:=.lst (us.map V.ref++u4.map V.ref)) n5;have h5:=af (H:=H4) (a:=l5) (o:=.lst (us.map V.ref++u4.map V.ref));generalize upd H4 l5 (.lst (us.map V.ref++u4.map V.ref))=H5 at s5 h5⊢;have Rx:=s03.trans (s4.trans s5);have vL:aV H5 (us++u4) (cF (within ns ps)):=iH ((hU3.same s4).same s5) (hT4.same s5);rw[<-aaN] at h5;refine⟨a,l5,ns,us++u4,_,rfl,Rx _ _ ha,h5,vL,nn,aJ,hI,by omega,λd ls H6 hS s6=>?_⟩;have s06:=Rx.trans s6;refine⟨_,rfl,a,rfl,⟨_,ar.of (s06 _ _ ha)⟩,?_⟩;refine Jo (K:=K) (xs:=ns.map V.str) (λi ps' H7=>av H6 H7/\fV H7 ps'/\(∀zs,zs∈ps'.map (·.2) ↔ ∃z∈ns.take i,zs=comp ns ps z)/\(ps'.map (·.2)).Nodup/\(∀x∈ps',x.2≠[])/\ps'.length<=i) ⟨av.refl _,(λ_ z=>nomatch z),(λzs=>by simp),acg,(λ_ z=>nomatch z),aac _⟩ ?_ ?_ ?_ ?_
  ·rintro i ps' H7 _ ⟨_,h,_⟩;exact h
  ·rintro i ps' H7 _ ⟨s7,_⟩;exact ar.of (s7 _ _ (s06 _ _ ha))
  ·rintro i v ps' H7 R hv ⟨s7,ho,me,nd,nz,le⟩ kR;rw[aan] at hv;obtain⟨z,ez,rfl⟩:=aap.mp hv;have hz:z∈ns:=aak ez;have hi:i<ns.length:=(aaB.mp ez).1;simp only[dN,bF,aa3];refine⟨_,rfl,_,rfl,d,z,ns,_,ls,rfl,hS.same s7,nn,aJ,hI,by omega,hz,λl8 H8 n8 h8 s8=>⟨l8,_,rfl,.inl ⟨ar.of h8,λc nc=>?_⟩⟩⟩;have s9:=s8.trans (ag (o:=.tup ((comp ns ps z).map V.str)) nc);have cz:comp ns ps z≠[]:=λe=>by have:=ue (ps:=ps) hz;rw[e] at this;exact nomatch this
   refine⟨c,comp ns ps z,rfl,cz,af,ho.same s9,by omega,kR _ _ ⟨s7.trans s9,Dh (ho.same s9) af,λzs=>?_,Jp nd,Jq nz cz,aam (FF _ _) (by omega)⟩⟩;rw[Dg,me,aaC,ez];constructor
   ·rintro(⟨y,hy,e⟩|e)
    ·exact⟨y,aax _ hy,e⟩
    ·exact⟨z,aaj _ (by simp),e⟩
   ·rintro⟨y,hy,e⟩;rcases aas.mp hy with h|h
    ·exact .inl ⟨y,h,e⟩
    ·have:y=z:=by simpa using h
     subst this;exact .inr e
  ·rintro ps' H7 ⟨s7,ho,me,nd,nz,le⟩ D nD;rw[aaa] at le me;have s8:=ag (o:=ud P w D ps') nD;refine⟨D,ps',rfl,af,ho.same s8,nz,by omega,λl qs nl pm up=>?_⟩;have s9:=s8.trans (ag (o:=.lst (qs.map λq=>V.ref q.1)) nl);have Xo:=s06.trans (s7.trans s9);refine k l qs _ ((s06.trans (s7.trans s8)).free nl) af (λq hq=>(ho.same s9) q (pm.mem_iff.mp hq)) ⟨λzs=>?_,(pm.map (·.2)).nodup_iff.mpr nd,up⟩ Xo;rw[(pm.map (·.2)).mem_iff,me,aaR (aac _)]
end
def cw(ns:List Str)(ps:List (Str×Str)):Prop:=∀a∈ns,∀b∈ns,bP (cF ps) a b
theorem kM{ms:List Str}{ps:List (Str×Str)}(h:fb ms ps):within ms ps=ps:=by unfold within;rw[aeu];intro p hp;simp[h p hp]
theorem GoodW.uf{ns:List Str}{ps:List (Str×Str)}(g:GoodW ns ps):fb (aK ns) ps:=λp hp=>⟨bx.mpr (g.ins p hp).1,bx.mpr (g.ins p hp).2⟩
theorem Dl{ns:List Str}{ps:List (Str×Str)}(g:GoodW ns ps)(h:cw ns ps){qs:List (Addr×List Str)}(p:zm (aK ns) ps qs):qs.length=1:=by
 have nS:=eY g.good.nd;have all:∀z∈aK ns,comp (aK ns) ps z=aK (aK ns):=λz hz=>by
  unfold comp;rw[kM g.uf];refine(CB nS nS (rL g.uf) hz λy=>?_).symm;constructor
  ·intro hy;exact h z (bx.mp hz) y (bx.mp hy)
  ·intro r;exact r.stays (S:=(·∈aK ns)) hz λq hq _=>(rL g.uf q hq).2
 have one:∀zs∈qs.map (·.2),zs=aK (aK ns):=λzs hz=>by obtain⟨z,h1,e⟩:=(p.mem zs).mp hz;rw[e,all z h1]
 obtain⟨z0,h0⟩:∃z,z∈aK ns:=by
  have h1:=g.good.one;cases e:aK ns with
  |nil=>exact absurd (show ns.length=0 from by have:=congrArg List.length e;rw[cy] at this;exact this) (by omega)
  |cons z r=>exact⟨z,aal⟩
 have ex:=(p.mem (comp (aK ns) ps z0)).mpr ⟨z0,h0,rfl⟩;have nd:=p.nd;cases e:qs with
 |nil=>rw[e] at ex;exact nomatch ex
 |cons a r=>
  cases r with
  |nil=>rfl
  |cons b r =>exfalso;rw[e] at one nd;simp only[aaE,aaT,aah,not_or] at nd;exact nd.1.1 ((one a.2 (by simp)).trans (one b.2 (by simp)).symm)
section
variable {P:Program}{w:World}{K:PySem.W.Frag}{mg:Str->Option Value}{base:Heap}
variable {C fP fS fL jW mC Dj qr xb:Addr}{fdP e6 mD hJ jb xf kL oX:FuncData}
def A0(C:Addr):Sp:=λvs H Q _=>∃(x:Addr) (ns:List Str) (ps:List (Str×Str)),vs=[.ref x]/\bq C H x ns ps/\GoodW ns ps /\
 ∀l qs H',H l=none->H' l=some (.lst (qs.map λq=>V.ref q.1))->fV H' qs->zm (aK ns) ps qs->av H H'->Q (.ref l) H'
theorem UM:aF ["web"] ["web"] (ao iU):=⟨rfl,rfl,rfl,by decide +kernel,rfl,by decide +kernel,by decide +kernel⟩
theorem Dm{f:Addr}{fd:FuncData}(F:aX K "pieces" "pieces" iU f fd)(zo:Df K mg "pieces_among" xa ["web","among"] Dj xf)(M:Mt K mg C fP fS fdP e6)(DL:Df K mg "leads" iy ["places","ties"] fL mD)(DS:Df K mg "spread" gy ["steps","start"] jW hJ)(DT:Df K mg "turned_pairs" gA ["ties"] mC jb)(T:bK mg):ak P w K mg base aD 3 f fd ["web"] (A0 C):=by
 have GP:ak P w K mg base aD 1 fP fdP ["self"] (vS C):=jw M.pF M.wc T;have GA:ak P w K mg base aD 2 Dj xf ["web","among"] (LY C):=Pk zo.fn M DL DS DT T;refine F.ok UM (λvs H Q E h=>?_) (λcdv A outer s H vs Q E hr h=>?_)
 ·obtain⟨x,ns,ps,rfl,_⟩:=h;rfl
 ·obtain⟨x,ns,ps,rfl,hW,g,k⟩:=h;have h1:=hr.mono (j:=1) (by decide);refine⟨_,ai (aB (aw GA hr rfl zo.aO zo.fn.kp zo.b .nil aA (aa (pv 0) (aa (dg (pv 0) M.wc.cl M.pM GP h1 M.pB .nil aA) ae)))),?_⟩;try rw[bu]
  obtain⟨d1,f1,q1,r1⟩:=hW.ja "places";refine⟨_,rfl,_,rfl,x,d1,f1,rfl,q1,r1,x,ns,ps,rfl,hW,λl1 xg=>?_⟩;have sl1:=ag (o:=.lst ((aK ns).map V.str)) xg;exact⟨x,l1,ns,aK ns,ps,rfl,hW.same sl1,g.aJ,af,eY g.good.nd,by rw[cy];exact g.good.aJ,λl qs H' nl hl ho pc s'=>k l qs H' (sl1.free nl) hl ho pc (sl1.trans s')⟩
theorem UN:aF ["web"] ["web"] (ao mz):=⟨rfl,rfl,rfl,by decide +kernel,rfl,by decide +kernel,by decide +kernel⟩
theorem Pl:aF ["web"] ["web"] (ao qq):=⟨rfl,rfl,rfl,by decide +kernel,rfl,by decide +kernel,by decide +kernel⟩
end
end dO
namespace L2
open PySem PySem.Spec PyProof.Rows
section
variable {X:Cx}
theorem zp:∀{us:List Value} {ns:List Int},IntsAre us ns->Vals (ns.map V.int) us
 |_,_,.nil=>.nil
 |_,_,.cons n t h=>.cons ⟨t,rfl⟩ (zp h)
end
structure fX(t:SetTable):Prop where
 rise:L3.eZ t.place
 mr:t.dummies=#[]
theorem fX.Dp{t:SetTable}(T:fX t)(j:Nat):t.slot j≠.dummy:=by
 unfold SetTable.slot;have e:SetTable.has t.dummies j=false:=by rw[T.mr];rfl
 dsimp only;rw[e];split<;>simp
theorem fX.free{t:SetTable}(T:fX t){j:Nat}(h:t.slot j=.empty)(i:Nat):t.place[i]?≠some j:=λe=>by rw[L3.jy T.rise e] at h;cases h
theorem xh{t:SetTable}(T:fX t){ha:Nat->Int}{h:Int}:∀(f:Nat) (p:SetTable.Probe) {j:Nat} {d:Option Nat},p.dummy=none->SetTable.probe.go t ha h f p=some (.empty j d)->t.slot j=.empty/\d=none
 |0,p,j,d,hd,e=>by unfold SetTable.probe.go at e;cases e
 |f+1,p,j,d,hd,e=>by
  have ad:(t.advance p).dummy=none:=by unfold SetTable.advance;split<;>exact hd
  unfold SetTable.probe.go at e;cases hs:t.slot p.j with
  |empty =>rw[hs] at e;cases e;exact⟨hs,hd⟩
  |dummy=>exact absurd hs (T.Dp _)
  |live i=>
   rw[hs] at e;dsimp only at e;split at e
   ·cases e
   ·exact xh T f _ ad e
theorem Dq{t:SetTable}(T:fX t){h:Int}{j:Nat}{b:Bool}(e:t.freeSlot h=some (j,b)):t.slot j=.empty:=by
 unfold SetTable.freeSlot at e;split at e
 ·rename_i j' d hp
  unfold SetTable.probe at hp;obtain⟨a,rfl⟩:=xh T _ _ rfl hp;cases e;exact a
 ·cases e
theorem FH{xs:Array Nat}(r:L3.eZ xs){j:Nat}(n:∀i:Nat,xs[i]?≠some j):L3.eZ (SetTable.insertAt xs (SetTable.below xs j) j):=by
 obtain⟨b1,b2,b3⟩:=L3.kF r j;generalize SetTable.below xs j=p at b1 b2 b3⊢;have sz:(SetTable.insertAt xs p j).size=xs.size+1:=by rw[<-aau,(acN xs p j).length_eq];simp
 have get':∀i:Nat,(SetTable.insertAt xs p j)[i]?=if i<p then xs[i]? else if i=p then some j else xs[i-1]?:=λi=>L3.gg _ b1 _ i;have hi':∀a (ha:a<xs.size),p<=a->j<xs[a]:=λa ha q=>by
  have:=b3 a ha q
  have ne:xs[a]≠j:=λe=>n a (by rw[aao ha,e]);omega
 intro a b ha hb ab;have g1:=get' a;have g2:=get' b;rw[aao ha] at g1;rw[aao hb] at g2;by_cases c1:a<p
 ·rw[if_pos c1,aao (show a<xs.size by omega)] at g1;rw[aat g1];by_cases c2:b<p
  ·rw[if_pos c2,aao (show b<xs.size by omega)] at g2;rw[aat g2];exact r _ _ _ _ ab
  ·rw[if_neg c2] at g2;by_cases c3:b=p
   ·rw[if_pos c3] at g2;rw[aat g2];exact b2 a _ c1
   ·rw[if_neg c3,aao (show b-1<xs.size by omega)] at g2;rw[aat g2];exact ac0 (b2 a _ c1) (hi' (b-1) _ (by omega))
 ·rw[if_neg c1] at g1;rw[if_neg (show ¬ b<p by omega),if_neg (show b≠p by omega),aao (show b-1<xs.size by omega)] at g2;rw[aat g2];by_cases c3:a=p
  ·rw[if_pos c3] at g1;rw[aat g1];exact hi' (b-1) _ (by omega)
  ·rw[if_neg c3,aao (show a-1<xs.size by omega)] at g1;rw[aat g1];exact r _ _ _ _ (by omega)
theorem iS(t:SetTable)(n:Nat):fX (t.standIn n):=⟨λi j hi hj ij=>by simpa [SetTable.standIn] using ij,rfl⟩
theorem fX.lay{t:SetTable}(T:fX t)(es:Array (Int×Value))(h:Int)(x:Value):fX (layNew t es h x).2.1:=by
 unfold layNew;split
 ·rename_i slot b e
  have em:=Dq T e;dsimp only;unfold SetTable.orStandIn;split
  ·refine⟨FH T.rise (T.free em),?_⟩;show(if SetTable.has t.dummies slot then _ else t.dummies)=#[]
   have e':SetTable.has t.dummies slot=false:=by rw[T.mr];rfl
   rw[e'];exact T.mr
  ·exact iS _ _
 ·exact iS _ _
theorem A1{l:List Nat}(h:l.Pairwise (· < ·)):L3.eZ l.toArray:=λi j hi hj ij=>by simpa using ab3.mp h i j (by simpa using hi) (by simpa using hj) ij
theorem fX.Pm{t:SetTable}(T:fX t)(es:Array (Int×Value))(n:Nat):fX (relayAll t es n).2.1:=by
 unfold relayAll;split
 ·rename_i t' order e
  unfold SetTable.relaid SetTable.laid at e;cases hl:SetTable.layClean (SetTable.sizeAbove n-1) (es.map (·.1)) with
  |none=>rw[hl] at e;cases e
  |some o=>
   rw[hl] at e;cases e;dsimp only;split
   ·refine⟨A1 ?_,rfl⟩;rw[L3.qk];exact(aca).filter _
   ·exact iS _ _
 ·exact iS _ _
def fY(σ:List Int)(z:Int):List Int:=if z∈σ then σ else z::σ
def bG(zs:List Int):List Int:=zs.foldl fY []
theorem A2(zs:List Int)(z:Int):bG (zs++[z])=fY (bG zs) z:=by unfold bG;rw[adx];rfl
theorem xi{σ:List Int}{z k:Int}:k∈fY σ z ↔ k∈σ\/k=z:=by
 unfold fY;split
 ·rename_i h;exact⟨.inl,λq=>q.elim id λe=>e▸h⟩
 ·rw[aah];exact⟨λq=>q.symm,λq=>q.symm⟩
theorem Jr{σ:List Int}{z:Int}(h:σ.Nodup):(fY σ z).Nodup:=by
 unfold fY;split
 ·exact h
 ·rename_i q;exact aaT.mpr ⟨q,h⟩
theorem oY(zs:List Int):(bG zs).Nodup:=by
 unfold bG
 have:∀(zs σ:List Int),σ.Nodup->(zs.foldl fY σ).Nodup:=by
  intro zs;induction zs with
  |nil=>intro σ h;exact h
  |cons z zs ih=>intro σ h;exact ih _ (Jr h)
 exact this zs [] .nil
theorem ug{zs:List Int}{k:Int}:k∈bG zs ↔ k∈zs:=by
 unfold bG
 have:∀(zs σ:List Int),k∈zs.foldl fY σ ↔ k∈σ\/k∈zs:=by
  intro zs;induction zs with
  |nil=>intro σ;simp
  |cons z zs ih=>intro σ;rw[abY,ih,xi,aah];exact⟨λh=>by rcases h with(h|h)|h<;>simp[h],λh=>by rcases h with h|h|h<;>simp[h]⟩
 simpa using this zs []
theorem xj(zs:List Int):(bG zs).length<=zs.length:=by
 unfold bG
 have:∀(zs σ:List Int),(zs.foldl fY σ).length<=σ.length+zs.length:=by
  intro zs;induction zs with
  |nil=>intro σ;simp
  |cons z zs ih=>
   intro σ;have h:=ih (fY σ z);have h2:(fY σ z).length<=σ.length+1:=by unfold fY;split<;>simp
   rw[abY,aaH];omega
 simpa using this zs []
section
variable {prog:Program}{w:World}{A:Around}{E:Value->Shared->Prop}{s:Shared}
structure iI(prog:Program)(w:World)(h:Heap)(a:Addr)(zs:List Int)(led:Bool)(o:Obj)(es:Array (Int×Value))(ep:Nat)(t:SetTable):Prop where
 ho:h.get? a=some o
 ex:o.ExactSet
 hd:o.data=.set es ep t
 el:ElemsOf (intKind prog w) es.toList
 mem:∀k,decide (k∈bG zs)=true ↔ ∃e∈es.toList,(intKind prog w).is k e.2=true
 aJ:es.size<scanBound
 fits:t.fits es.size=true
 size:es.size=(bG zs).length
 led:t.led=led
 tab:fX t
theorem iI.keep{h h':Heap}{a:Addr}{zs:List Int}{led:Bool}{o:Obj}{es:Array (Int×Value)}{ep:Nat}{t:SetTable}(x:iI prog w h a zs led o es ep t)(k:∀o,h.get? a=some o->h'.get? a=some o):iI prog w h' a zs led o es ep t:={x with ho:=k _ x.ho}
theorem iI.Fj{a:Addr}{h:Heap}{zs:List Int}{o:Obj}{es:Array (Int×Value)}{ep:Nat}{t:SetTable}(x:iI prog w h a zs (!bz w) o es ep t):eF w h a es ep t:=
 ⟨⟨o,x.ho,x.ex,x.hd⟩,x.fits,x.led,λ_=>by cases e:t.plain with
  |false=>exact .inl rfl
  |true=>exact .inr ⟨rfl,x.tab.rise⟩⟩
theorem iI.add{a:Addr}{z:Int}{tok:Tok}{zs:List Int}{led:Bool}{o:Obj}{es:Array (Int×Value)}{ep:Nat}{t:SetTable}{Q:Bool->Shared->Prop}(x:iI prog w s.heap a zs led o es ep t)(room:(bG zs).length+1<scanBound)
  (k:∀(b:Bool) h' o' es' gS t',Heap.SameBut a s.heap h'->iI prog w h' a (zs++[z]) led o' es' gS t'->Q b {s with heap:=h' }) :
  wpAny (model prog w) A (setAddHashed a (.int z tok) ((intKind prog w).hash z)) Q E s:=by
 have yes:(intKind prog w).is z (.int z tok)=true:=intKind_is _ _ _ _;unfold setAddHashed setAddHashedIn;refine wpAny_holding (wpAny_bind (wpAny_setState_of x.ho x.hd x.fits ?_));dsimp only;rw[byScan_of (knd:=intKind prog w) (x:=.int z tok) rfl x.aJ x.el,if_pos rfl];unfold setAddByScan;refine wpAny_bind (wpAny_bind (wpAny_rule (wpAny_bind (wpAny_setScan_of yes x.ho x.hd x.fits x.el ?_))));have isin:=x.mem z;have ed:bG (zs++[z])=fY (bG zs) z:=A2 zs z;cases hr:List.findIdx? (λe=>(intKind prog w).is z e.2) es.toList with
 |some j=>
  dsimp only;obtain⟨hj,Lr,_⟩:=acM.mp hr;have hz:z∈bG zs:=of_decide_eq_true (isin.mpr ⟨_,abu hj,Lr⟩);have e2:bG (zs++[z])=bG zs:=by rw[ed];unfold fY;rw[if_pos hz]
  refine wpAny_pure (wpAny_pure ?_)
  have:=k false s.heap o es ep t (acF a s.heap) {x with mem:=by rw[e2];exact x.mem,size:=by rw[e2];exact x.size}
  exact this
 |none=>
  dsimp only;have hz:z∉bG zs:=λq=>by
   obtain⟨e,he,hp⟩:=isin.mp (decide_eq_true q)
   have:=adC.mp hr e he
   rw[hp] at this;cases this
  have perm:=layNew_perm t es ((intKind prog w).hash z) (.int z tok);have fit:=layNew_fits t es ((intKind prog w).hash z) (.int z tok);have ld:=y9 t es ((intKind prog w).hash z) (.int z tok);have tb:=x.tab.lay es ((intKind prog w).hash z) (.int z tok);generalize layNew t es ((intKind prog w).hash z) (.int z tok)=L at perm fit ld tb⊢;obtain⟨es1,t1,dummy,Fd⟩:=L;dsimp only at perm fit ld tb⊢;rw[acH] at perm;have el1:ElemsOf (intKind prog w) es1.toList:=(x.el.push yes rfl).perm perm;have mem1:∀k',decide (k'∈bG (zs++[z]))=true ↔ ∃e∈es1.toList,(intKind prog w).is k' e.2=true:=λk'=>by
   have:=mem_push_iff (knd:=intKind prog w) yes x.mem perm k'
   rw[<-this,ed,afo,aaL,aaL,aaL,xi]
  have tV:es1.size=es.size+1:=by rw[<-aau,perm.length_eq,aay,aau];rfl
  have kE:es1.size<scanBound:=by rw[tV,x.size];exact room
  have qg:es1.size=(bG (zs++[z])).length:=by rw[tV,ed];unfold fY;rw[if_neg hz,aaH,x.size]
  refine wpAny_bind (kD ?_);have tail:wpAny (model prog w) A (do
    storeSet a es1 t1
    if (!dummy&&t1.tooFull)=true then do
      (match (relayAll t1 es1 (SetTable.grown es1.size)).2.2 with|true=>rule "set.scan.the-table-gave-way" |false=>pure ())
      storeSet a (relayAll t1 es1 (SetTable.grown es1.size)).1 (relayAll t1 es1 (SetTable.grown es1.size)).2.1
      pure (some true)
     else pure (some true)) (λr s'=>wpAny (model prog w) A (match r with|some added=>pure added|none=>setAddHashedIn a (.int z tok) ((intKind prog w).hash z) 99999) Q E s') E s:=by
   refine wpAny_bind (wpAny_storeSet_of x.ho x.hd ?_ (fits_of_scanBound kE));obtain⟨g1,_⟩:=ad1 (knd:=intKind prog w) (S':=λk'=>decide (k'∈bG (zs++[z]))) x.ho x.ex x.hd el1 mem1 kE fit;have sb1:=aa' s.heap a (Obj.putSet es1 t1);split
   ·have rp:=afC t1 es1 (SetTable.grown es1.size);have rf:=afD t1 es1 (SetTable.grown es1.size);have rl:=tU t1 es1 (SetTable.grown es1.size);have rpl:=tb.Pm es1 (SetTable.grown es1.size);generalize relayAll t1 es1 (SetTable.grown es1.size)=Rl at rp rf rl rpl⊢;obtain⟨jT,t3,gv⟩:=Rl;dsimp only at rp rf rl rpl⊢;have tW:jT.size=es1.size:=by rw[<-aau,rp.length_eq,aau]
    refine wpAny_bind (kD ?_);have wz:∀k',decide (k'∈bG (zs++[z]))=true ↔ ∃e∈jT.toList,(intKind prog w).is k' e.2=true:=λk'=>(mem1 k').trans ⟨λ⟨e,he,q⟩=>⟨e,rp.mem_iff.mpr he,q⟩,λ⟨e,he,q⟩=>⟨e,rp.mem_iff.mp he,q⟩⟩;have oS:jT.size<scanBound:=by rw[tW];exact kE
    refine wpAny_bind (wpAny_storeSet_of (s:={s with heap:=s.heap.update a (Obj.putSet es1 t1)}) g1 rfl ?_ (fits_of_scanBound oS));obtain⟨g2,_⟩:=ad1 (knd:=intKind prog w) (S':=λk'=>decide (k'∈bG (zs++[z]))) g1 x.ex rfl (el1.perm rp) wz oS rf;exact wpAny_pure (wpAny_pure (k true _ _ jT _ t3 (sb1.trans (aa' _ a _)) ⟨g2,x.ex,rfl,el1.perm rp,wz,oS,rf,by rw[tW];exact qg,by rw[rl,ld];exact x.led,rpl⟩))
   ·exact wpAny_pure (wpAny_pure (k true _ _ es1 _ t1 sb1 ⟨g1,x.ex,rfl,el1,mem1,kE,fit,qg,by rw[ld];exact x.led,tb⟩))
  split
  ·refine wpAny_bind ?_;refine wpAny_pure ?_;simp only[↓reduceIte];exact tail
  ·refine wpAny_bind (wpAny_pure ?_);simp only[↓reduceIte];exact tail
end
section
variable {prog:Program}{w:World}{A:Around}{I S:Addr}{fp wr:List Addr}{G:Array GenState->Array GenState->Prop}{P:Nat->Value->Prop}{St:Nat->Shared->Prop}{zs:List Int}{R:Result->Shared->Prop}{led:Bool}
def mE(prog:Program)(w:World)(h:Heap)(S:Addr)(zs:List Int)(led:Bool):Prop:=∃o es ep t,iI prog w h S zs led o es ep t
theorem mE.keep{h h':Heap}(x:mE prog w h S zs led)(k:∀o,h.get? S=some o->h'.get? S=some o):mE prog w h' S zs led:=let ⟨o,es,ep,t,q⟩:=x;⟨o,es,ep,t,q.keep k⟩
theorem xm(W:WalksS prog w A.in1 I fp wr G zs.length P St)(off:S∉fp)(hz:∀i v,P i v->∃z t,zs[i]?=some z/\v=.int z t)(small:zs.length+1<scanBound) :
  ∀(left i:Nat) (s:Shared),i+left=zs.length->St i s->mE prog w s.heap S (zs.take i) led ->
   (∀s',Moved (S::wr) G s s'->mE prog w s'.heap S zs led->R (.ok (.ret .none)) s')->codeAny (model prog w) A (.builtin "set.update.loop" ⟨[.ref S,.ref I],[]⟩) R s
 |0,i,s,hi,st,x,k=>by have e:zs.take i=zs:=aaR (by omega);rw[show i=zs.length by omega] at st;refine codeAny_builtin abx ?_;rw[abj abd _];apply wpAny_bind;refine W.done s _ _ st λs' m=>?_;exact wpAny_pure (k s' (m.mono λb hb=>aae _ hb) (by rw[e] at x;exact x.keep λo ho=>m.heap S o (λhs=>off (W.sub _ hs)) ho))
 |left+1,i,s,hi,st,x,k=>by
  refine codeAny_builtin abx ?_;rw[abj abd _];apply wpAny_bind;refine W.item i s _ _ (by omega) st λv s1 p Cq m=>?_;obtain⟨z,t,ez,rfl⟩:=hz i v p;obtain⟨o,es,ep,tb,x1⟩:=x.keep λo ho=>m.heap S o (λhs=>off (W.sub _ hs)) ho;have et:zs.take (i+1)=zs.take i++[z]:=by rw[aaC,ez];rfl
  have yes:(intKind prog w).is z (.int z t)=true:=intKind_is _ _ _ _;show wpAny _ A.in1 (holding [Value.int z t] (setAdd S (.int z t))>>=_) _ _ s1
  apply wpAny_bind;apply wpAny_holding;show wpAny _ A.in1 (holding _ _) _ _ _
  apply wpAny_holding;apply wpAny_bind;refine(intKind prog w).pyHash yes ?_;have aJ:=xj (zs.take i);rw[aaP] at aJ;refine iI.add (s:={s1 with toks:=s1.toks+1}) x1 (by omega) λ_ h2 o2 jT y' t2 sb x2=>?_;refine wpAny_pure ⟨abO abd _,xm W off hz small left (i+1) _ (by omega) ?_ ⟨o2,jT,y',t2,by rw[et];exact x2⟩ λs3 m3 x3=>?_⟩
  ·exact W.frame _ s1 _ _ Cq (aa7 _) λb hb o e=>(sb.2 b λz'=>off (z'▸hb)).trans e
  ·refine k s3 (ae4 W.gtrans ((m.mono λb hb=>aae _ hb).then_heap (aa7 _) λb o hb e=>?_) m3) x3;exact(sb.2 b λz'=>hb (by rw[z'];exact aal)).trans e
end
section
variable {prog:Program}{w:World}{A:Around}{E:Value->Shared->Prop}{s:Shared}
theorem A3(f m:Nat)(led:Bool):fX (.fresh f m led):=⟨λi j hi hj ij=>by simp[SetTable.fresh] at hi,rfl⟩
theorem Dr{l:Addr}{its:List Value}{zs:List Int}{Q:Value->Shared->Prop}(hh:A.handled=none)(hl:s.heap.IsList l its.toArray)(hz:IntsAre its zs)(small:zs.length+1<scanBound)
  (h:∀(h':Heap) (tk:Nat),mE prog w h' s.heap.objs.size zs (!bz w)->(∀b o,s.heap.get? b=some o->h'.get? b=some o)->Q (.ref s.heap.objs.size) {s with heap:=h',toks:=tk}) :
  wpAny (model prog w) A (call (.type "set") [.ref l]) Q E s:=by
 refine m5 abq (ab8 _) (rq (.ref l) ?_);generalize cW:s.heap.push {cls:=.type "set",dict:=none,data:=.set #[] 0 (.fresh 0 0 (!bz w))}=h1;have kp:∀b o,s.heap.get? b=some o->h1.get? b=some o:=λb o e=>by rw[<-cW];exact aab _ e
 have sz:h1.objs.size=s.heap.objs.size+1:=by rw[<-cW];exact aa1 ..
 have new:h1.get? s.heap.objs.size=some {cls:=.type "set",dict:=none,data:=.set #[] 0 (.fresh 0 0 (!bz w))}:=by rw[<-cW];exact aaq _ rfl
 have ty:({s with heap:=h1}:Shared).TypeIs (.ref s.heap.objs.size) "set" := ⟨_,new,rfl⟩
 refine⟨ty,codeAny_call_builtin abq.init.plain ab9 (check_set_init_1 ty ?_)⟩;have el:its.length=zs.length:=aee hz;obtain⟨⟨c,d,dt,sl⟩,ho,rfl,n,rfl⟩:=hl;have gT:=kp _ _ ho;have lt:@LT.lt Nat _ l s.heap.objs.size:=aag ho;have il:h1.IsList l its.toArray:=⟨_,gT,rfl,n,rfl⟩
 have n1:=ac3;have n2:=acm;have n3:(Value.type "list"==Value.type "dict")=false:=by decide
 unfold Builtin.«set.__init__» noKeywords Builtin.Frozenset.updateFrom;generalize pi:pyIter=it;wp_walk
 subst pi;apply wpAny_pyIter_list il;apply wpAny_bind;apply wpAny_runValue;have W:=(aei (prog:=prog) (w:=w) (A:=A.in1.in1.in1) (by simpa using hh) h1.objs.size l (by rw[sz];exact aar (aa2 lt)) its.toArray).toS;have e0:its.toArray.size=zs.length:=by rw[aai];exact el
 rw[e0] at W;refine xm (led:=!bz w) (zs:=zs) W ?_ (λi v p=>?_) small zs.length 0 _ (abK _) ⟨⟨_,aaq _ rfl,rfl,rfl⟩,il.push _⟩ ?_ λt m x=>?_
 ·rw[sz];intro q;rcases aah.mp q with q|q
  ·exact absurd q (aar (aba _))
  ·exact absurd (aaf.mp q) (abS lt)
 ·have p':its[i]?=some v:=by simpa using p
  obtain⟨t,e⟩:=IntsAre.int_at hz i v p';have li:i<zs.length:=by rw[<-el];exact(aaB.mp p').1
  exact⟨zs[i],t,aad li,by rw[e];simp[li]⟩
 ·exact⟨_,#[],0,_,aab _ new,⟨rfl,rfl,rfl⟩,rfl,λe he=>by simp at he,λk=>by simp[bG],by decide,by rfl,rfl,rfl,A3 _ _ _⟩
 ·obtain⟨h2,g2,d2,t2,o2⟩:=t;cases (show g2=s.gens from m.gens);cases (show d2=s.drawn from m.drawn);cases (show o2=s.os from m.os);apply wpAny_pure;refine wpAny_pure ⟨rfl,h h2 t2 x λb o e=>m.heap b o ?_ (aab _ (kp b o e))⟩;have lb:@LT.lt Nat _ b s.heap.objs.size:=aag e;rw[sz];intro q;rcases aah.mp q with q|q
  ·exact absurd q (aar lb)
  ·exact absurd (aaf.mp q) (aar (aa2 lb))
theorem A6{h:Heap}{tk:Nat}{us:List Value}{zs:List Int}{Q:Value->Shared->Prop}(hz:IntsAre us zs)(aJ:us.length<64)
  (q:∀(out:List Value) (ms:List Int) (n:Nat) (h2:Heap),IntsAre out ms->ms.Perm zs->ms.Pairwise (·<=·)->(∀b o,h.get? b=some o->h2.get? b=some o)->h2.get? h.objs.size=some {cls:=.type "list",data:=.seq out.toArray n}->Q (.ref h.objs.size) {s with heap:=h2,toks:=tk}) :
  wpAny (model prog w) A (call (.builtin "list.sort") [.ref h.objs.size]) (λ_ s'=>Q (.ref h.objs.size) s') E {s with heap:=h.push {cls:=.type "list",data:=.seq us.toArray},toks:=tk}:=by
 have qb:(h.push {cls:=.type "list",data:=.seq us.toArray}).get? h.objs.size=some (seqObj "list" us.toArray 0):=aaq _ rfl;refine wpAny_call_entry acL ⟨_,qb,rfl⟩ acD ?_ (args_list_sort _);refine list_sort_tree qb hz aJ λout ms c1 c2 c3=>⟨_,rfl,?_⟩
 obtain⟨n,hn⟩:=afB (out:=out) qb;refine q out.toList ms n _ c1 c2 c3 (λb o eb=>?_) (by rw[hn]);have lt:b<h.objs.size:=aag eb;rw[afv (aar lt) (by rw[aa1];exact aa2 lt)];exact aab _ eb
theorem Ds:∀{us vs:List Value},us.Perm vs->∀{zs:List Int},IntsAre us zs->∃ys,IntsAre vs ys/\zs.Perm ys:=by
 intro us vs p;induction p with
 |nil=>intro zs h;exact⟨zs,h,.refl _⟩
 |cons x _ ih=>intro zs h;cases h with|cons z t h=>obtain⟨ys,q,r⟩:=ih h;exact⟨z::ys,.cons z t q,.cons z r⟩
 |swap x y l=>intro zs h;cases h with|cons z t h=>cases h with|cons z' t' h=>exact⟨_,.cons z' t' (.cons z t h),.swap _ _ _⟩
 |trans _ _ Lv Lw=>intro zs h;obtain⟨ys,q,r⟩:=Lv h;obtain⟨ws,q',r'⟩:=Lw q;exact⟨ws,q',r.trans r'⟩
theorem xo:∀(us:List Value),(∀u∈us,∃z t,u=.int z t)->∃zs,IntsAre us zs
 |[],_=>⟨[],.nil⟩
 |u::us,h=>by obtain⟨z,t,rfl⟩:=h u aal;obtain⟨zs,q⟩:=xo us λv hv=>h v (aae _ hv);exact⟨z::zs,.cons z t q⟩
theorem FJ{us:List Value}{zs:List Int}{z:Int}(h:IntsAre us zs)(q:∃u∈us,∃t,u=.int z t):z∈zs:=by
 induction h with
 |nil=>obtain⟨u,hu,_⟩:=q;cases hu
 |cons y t _ ih=>
  obtain⟨u,hu,t',e⟩:=q;rcases aah.mp hu with rfl|hu
  ·cases e;exact aal
  ·exact aae _ (ih ⟨u,hu,t',e⟩)
theorem iI.vals{a:Addr}{h:Heap}{zs:List Int}{led:Bool}{o:Obj}{es:Array (Int×Value)}{ep:Nat}{t:SetTable}(x:iI prog w h a zs led o es ep t)(hs:∀k v,(intKind prog w).is k v=true->∃t,v=.int k t){acc:List Value}(p:acc.Perm (es.toList.map (·.2))):∃ys,IntsAre acc ys/\ys.Perm (bG zs):=by
 obtain⟨ks,hk⟩:=xo (es.toList.map (·.2)) λu hu=>by obtain⟨e,he,rfl⟩:=aaK.mp hu;obtain⟨⟨k,hk,_⟩,_⟩:=x.el e he;obtain⟨t,q⟩:=hs k e.2 hk;exact⟨k,t,q⟩
 obtain⟨ys,hy,q⟩:=Ds p.symm hk;refine⟨ys,hy,q.symm.trans (d9 (oY zs) (λz hz=>?_) ?_).symm⟩
 ·obtain⟨e,he,r⟩:=(x.mem z).mp (decide_eq_true hz);exact FJ hk ⟨e.2,aaK.mpr ⟨e,he,rfl⟩,hs z e.2 r⟩
 ·have:=aee hk
  rw[aaa,aau,x.size] at this;omega
end
def oZ(P:Program)(w:World)(a:Addr)(zs:List Int):HO:=.ext λh=>mE P w h a zs (!bz w)
section
variable {X:Cx}
theorem Js{H:Hp}{h:Heap}{a:Addr}{zs:List Int}(x:mE X.prog X.w h a zs (!bz X.w)):bc X.prog X.w H h a (oZ X.prog X.w a zs):=by refine⟨x,?_,λh1 h2 q k=>q.keep λo e=>k o e⟩;obtain⟨o,es,ep,t,y⟩:=x;exact⟨o,y.ho⟩
theorem xp(hc:X.calm=true):bV X (.type "set") (λxs H Q=>∃(p:Addr) (zs:List Int),xs=[.ref p]/\ar X.K H p (zs.map V.int)/\zs.length+1<scanBound/\∀l,H l=none->Q (.ref l) (upd H l (oZ X.prog X.w l zs))):=by rintro pins s σ H xs us Q I r ⟨p,zs,rfl,hp,small,q⟩;obtain⟨u,rfl,rx⟩:=vals1 r;cases rx;have fr:H s.heap.objs.size=none:=I.aG.fresh (aac _);obtain⟨its,rv,pl,_⟩:=I.list hp;exact Dr (I.ok.hd hc) pl.isList (intsAre_of rv) small λh' tk T kp=>⟨.ref s.heap.objs.size,_,I.laid (t':=tk) kp (aac _) (Js T),rfl,q _ fr⟩
theorem o5(hc:X.calm=true):bV X (.builtin "sorted") (λxs H Q=>∃(p:Addr) (zs:List Int),xs=[.ref p]/\H p=some (oZ X.prog X.w p zs)/\zs.length<64/\∀l (ms:List Int),H l=none->ms.Perm (bG zs)->ms.Pairwise (·<=·)->Q (.ref l) (upd H l (.lst (ms.map V.int)))):=by
 rintro pins s σ H xs us Q I r ⟨p,zs,rfl,hp,aJ,q⟩;obtain⟨u,rfl,rx⟩:=vals1 r;cases rx;obtain⟨⟨o,es,ep,t,x⟩,_⟩:=I.aG _ _ hp;have kG:(bG zs).length<64:=abp (xj zs) aJ;refine ab1 ad0 adJ adK (args_sorted1 _) ?_;unfold Builtin.«sorted»;apply wpAny_bind (m:=checkCount "sorted" 1 1 _);apply wpAny_pure;apply wpAny_bind;refine jK (A:=X.A.in1) x.Fj (by rw[x.size];exact aam (aaU kG) (by decide)) (by exact I.ok.hd hc) λh1 tk dr acc keep pm=>?_;obtain⟨ys,txt,py⟩:=x.vals (λk v e=>aeN e) pm;have la:acc.length=(bG zs).length:=by rw[aee txt];exact py.length_eq
 apply wpAny_bind;refine wpAny_newList ?_ (by rw[la];exact aam (aaU kG) (by decide));apply wpAny_bind;apply wpAny_holding;refine wpAny_mono (A6 (prog:=X.prog) (w:=X.w) (s:={s with drawn:=dr}) (h:=h1) (tk:=tk) (Q:=EP X pins σ Q) txt (by rw[la];exact kG) λout ms n h2 o1 op os o2 o3=>?_) (λ_ _ z=>wpAny_pure ⟨_,rfl,z⟩) λ_ _ z=>z;have no:s.heap.get? h1.objs.size=none:=by
  cases e:s.heap.get? h1.objs.size with
  |none=>rfl
  |some o=>exact absurd (aag (keep _ _ e)) (aaV _)
 have noH:H h1.objs.size=none:=by
  cases e:H h1.objs.size with
  |none=>rfl
  |some o =>obtain⟨u,eu⟩:=(I.aG _ _ e).there;rw[no] at eu;cases eu
 refine⟨.ref h1.objs.size,_,(I.drawn (dr:=dr)).uR (t':=tk) (o:=.lst (ms.map V.int)) (λb o e=>o2 _ _ (keep _ _ e)) no noH ?_,rfl,q _ ms noH (op.trans py) os⟩;exact⟨by rw[aaa,op.length_eq,py.length_eq];exact aam (aaU kG) (by decide),out,n,zp o1,o3⟩
theorem qu{P:Program}{w:World}{K:PySem.W.Frag}(hc:X.calm=true)(hP:X.prog=P:=by rfl)(hw:X.w=w:=by rfl)(hK:X.K=K:=by rfl):bV X (.type "set") (λxs H Q=>∃(p:Addr) (zs:List Int),xs=[.ref p]/\ar K H p (zs.map V.int)/\zs.length+1<scanBound/\∀l,H l=none->Q (.ref l) (upd H l (oZ P w l zs))):=by subst hP hw hK;exact xp hc
theorem lu{P:Program}{w:World}(hc:X.calm=true)(hP:X.prog=P:=by rfl)(hw:X.w=w:=by rfl):bV X (.builtin "sorted") (λxs H Q=>∃(p:Addr) (zs:List Int),xs=[.ref p]/\H p=some (oZ P w p zs)/\zs.length<64/\∀l (ms:List Int),H l=none->ms.Perm (bG zs)->ms.Pairwise (·<=·)->Q (.ref l) (upd H l (.lst (ms.map V.int)))):=by subst hP hw;exact o5 hc
end
end L2
namespace dO
open PySem PySem.Spec PyProof.Rows L2 L3
abbrev mG:Stmt:=top 28 -- UO
abbrev qv:Stmt:=top 29 -- Pn
abbrev jc:Stmt:=top 30 -- freed
abbrev jX:Stmt:=top 31 -- Ry
abbrev jY:Stmt:=top 32 -- missed
abbrev qx:Stmt:=top 33 -- Rz
abbrev mH:Stmt:=top 34 -- OO
abbrev mI:Stmt:=top 35 -- Ma
abbrev xq:Stmt:=top 37 -- without
def nV(l:List Nat):List V:=l.map λ(k:Nat)=>V.int (k:Int)
theorem bN(l:List Nat):(nV l).length=l.length:=by unfold nV;rw[aaa]
theorem A7{K:PySem.W.Frag}{H:Hp}{p q:Addr}{l:List Nat}(hp:H p=some (.lst (nV l)))(hq:H q=some (.lst (nV l))):K' K H 0 (.ref p) (.ref q):=
 ⟨p,q,_,_,rfl,rfl,.inl ⟨ar.of hp,ar.of hq⟩,rfl,λi a b ha hb=>by rw[ha] at hb;cases hb;unfold nV at ha;rw[aan] at ha;obtain⟨n,_,rfl⟩:=aap.mp ha;exact⟨rfl,rfl⟩⟩
structure Rs(ps:List (Str×Str))(ks:List Nat):Prop where
 up:ks.Pairwise (· < ·)
 lt:∀k∈ks,k<ps.length
theorem Rs.nd{ps:List (Str×Str)}{ks:List Nat}(r:Rs ps ks):ks.Nodup:=r.up.imp λh=>aar h
theorem Rs.len{ps:List (Str×Str)}{ks:List Nat}(r:Rs ps ks):ks.length<=ps.length:=by
 have:=L3.jU r.nd (m:=List.range ps.length) λk hk=>abg.mpr (r.lt k hk)
 rwa [abo] at this
theorem yx{ks:List Nat}(up:ks.Pairwise (· < ·)){ms:List Int}(p:ms.Perm (bG (ks.map λ(k:Nat)=>(k:Int))))(s:ms.Pairwise (·<=·)):ms=ks.map λ(k:Nat)=>(k:Int):=by
 have nd:(ks.map λ(k:Nat)=>(k:Int)).Nodup:=acd.mpr (up.imp λ{a b} h=>by omega);have q:(bG (ks.map λ(k:Nat)=>(k:Int))).Perm (ks.map λ(k:Nat)=>(k:Int)):=d9 (oY _) (λx hx=>ug.mp hx) (by
  have:=L3.jU nd (m:=bG (ks.map λ(k:Nat)=>(k:Int))) λx hx=>ug.mpr hx
  exact this)
 have Mb:(ks.map λ(k:Nat)=>(k:Int)).Pairwise (·<=·):=acd.mpr (up.imp λ{a b} h=>by omega);exact af6 (λa b _ _ h1 h2=>Int.le_antisymm h1 h2) s Mb (p.trans q)
structure Mh(K:PySem.W.Frag)(mg:Str->Option Value)(C E1 fP fM fT fS iN:Addr)(fdP gx fc e6 fh:FuncData):Prop where
 m:Mt K mg C fP fS fdP e6
 mF:aX K "many" "Web.many" uN fM gx
 mM:Meth K C "many" fM
 mB:Binds K gx ["self"] []
 tF:aX K "tie" "Web.tie" uO fT fc
 tM:Meth K C "tie" fT
 tB:Binds K fc ["self","k"] []
 wh:Df K mg "is_whole" lV ["thing"] iN fh
 x1:Ex K mg "NoTie" E1
section
variable {P:Program}{w:World}{K:PySem.W.Frag}{mg:Str->Option Value}{base:Heap}
variable {C E1 fP fM fT fS iN:Addr}{fdP gx fc e6 fh:FuncData}
def Ht(C:Addr):Sp:=λvs H Q _=>∃(x l:Addr) (ns:List Str) (ps:List (Str×Str)) (ks:List Nat),vs=[.ref x,.ref l]/\bq C H x ns ps/\ps.length<=30/\H l=some (.lst (nV ks))/\Rs ps ks/\∀H',av H H'->Q (.bl true) H'
abbrev qy:List Str:=["web","thing"]
theorem Mc:aF qy qy (ao mG):=⟨rfl,rfl,rfl,by decide +kernel,rfl,by decide +kernel,by decide +kernel⟩
theorem Md{f:Addr}{fd:FuncData}(F:aX K "are_ties" "are_ties" mG f fd)(M:Mh K mg C E1 fP fM fT fS iN fdP gx fc e6 fh)(T:bK mg):ak P w K mg base aD 2 f fd qy (Ht C):=by
 have GM:ak P w K mg base aD 1 fM gx ["self"] (E3 C):=y3 M.mF M.m.wc T;have GW:ak P w K mg base aD 1 iN fh ["thing"] (ng (K:=K)):=oQ M.wh.fn T;refine F.ok Mc (λvs H Q E h=>?_) (λcdv A outer s H vs Q E hr h=>?_)
 ·obtain⟨x,l,ns,ps,ks,rfl,_⟩:=h;rfl
 ·obtain⟨x,l,ns,ps,ks,rfl,hW,fE,hl,rs,k⟩:=h;refine⟨_,aj (ba (PW.pt (dA (bp (bg (ay (bO (T:="list")) (by rfl) T.cf aaM (aa (pv 1) (aa (cq (v:=.ty "list") rfl T.list aaS rfl) ae))) (λ_=>rfl)))
    (de (aS mV (ay aE (by rfl) T.len aav (aa (pv 1) ae)) (dg (pv 0) M.m.wc.cl M.mM GM hr M.mB .nil aA) (aU _))))) (ai (aB bS)) aR)
   (aj (ba (bp (bg (ay (fU rfl) (by rfl) T.all adg (aa (cV ["k"] [0] rfl (bQ (osc:=(ao mG).names) (N:=qy) rfl rfl (by decide +kernel)) (bJ (by decide)) (bh (pv 1))
     (λ_ _ _=>aI (i:=0) (show(["k","web"]:List Str).Nodup by decide +kernel) rfl (Or.inl rfl)) (λ_ _ _=>bT)
     (λ_ _ _=>eM (aw GW hr rfl M.wh.aO M.wh.fn.kp M.wh.b .nil aA (aa (pv 0) ae)) (fk (oG kf ic ax (pv 0) (dg (pv 1) M.m.wc.cl M.mM GM hr M.mB .nil aA))))) ae)) (λ_=>rfl))) (ai (aB bS)) aR)
   (ai (aB (cP (EU 0 (low 0 hr)) (pv 1) (ay (lu rfl) (by rfl) T.sorted acK (aa (bD (qu rfl) (by rfl) T.set acf (aa (pv 1) ae)) ae)) (aU _))))),?_⟩
  try rw[bu]
  have big:1000<=sizeLine:=by decide
  have lk:=rs.len;obtain⟨d1,f1,q1,r1⟩:=hW.ja "many";refine⟨_,rfl,_,_,true,rfl,.lst hl,rfl,_,rfl,aP ?_⟩;refine⟨_,rfl,l,_,rfl,.inl (ar.of hl),_,rfl,x,d1,f1,rfl,q1,r1,x,ns,ps,rfl,hW,_,_,rfl,rfl,_,rfl,?_⟩;rw[bN];refine cS (λe=>absurd e (by simp;omega)) (λ_=>?_);refine⟨_,rfl,l,rfl,⟨_,ar.of hl⟩,cu (K:=K) (xs:=nV ks) (λi ys HH=>HH=H/\ys=(List.replicate i true).map V.bl) ⟨rfl,rfl⟩ ?_ ?_ ?_ ?_⟩
  ·rintro i ys HH hi ⟨_,rfl⟩;rw[bN] at hi;rw[aaa,abX];omega
  ·rintro i ys HH _ ⟨rfl,_⟩;exact ar.of hl
  ·rintro i v ys HH R hv ⟨rfl,rfl⟩ kR;unfold nV at hv;rw[aan] at hv;obtain⟨n,en,rfl⟩:=aap.mp hv;have ln:=rs.lt n (aak en);simp only[bF,dN,aa3];refine⟨_,rfl,_,_,true,false,rfl,.int _,rfl,rfl,_,rfl,bt ?_⟩;refine⟨_,rfl,_,_,rfl,rfl,_,rfl,?_⟩;rw[decide_eq_true (show(0:Int)<=(n:Int) by omega)];refine bt ⟨_,rfl,x,d1,f1,rfl,q1,r1,x,ns,ps,rfl,hW,_,_,rfl,rfl,?_⟩;dsimp only;rw[decide_eq_true (show(n:Int)<(ps.length:Int) by omega)];refine kR _ _ ⟨rfl,?_⟩;rw[ac4,aaN];rfl
  rintro ys HH ⟨rfl,rfl⟩ D nD;have sD:=ag (o:=.lst ((List.replicate (nV ks).length true).map V.bl)) nD;refine⟨D,_,rfl,ar.of af,_,rfl,?_⟩;have e1:(List.replicate (nV ks).length true).all id=true:=by simp
  rw[e1];refine aP ⟨_,rfl,_,rfl,l,ks.map λ(k:Nat)=>(k:Int),rfl,?_,by rw[aaa];unfold scanBound;omega,λq nq=>?_⟩
  ·rw[abD];exact ar.of (sD _ _ hl)
  have sq:=sD.trans (ag (o:=oZ P w q (ks.map λ(k:Nat)=>(k:Int))) nq);refine⟨q,ks.map λ(k:Nat)=>(k:Int),rfl,af,by rw[aaa];omega,λr ms nr pm up=>?_⟩;have e2:=yx rs.up pm up;subst e2;have sr:=sq.trans (ag (o:=.lst ((ks.map λ(k:Nat)=>(k:Int)).map V.int)) nr);refine⟨A7 (l:=ks) (sr _ _ hl) ?_,k _ sr⟩;rw[af,abD];rfl
abbrev aW:List Str:=["web","ties"]
theorem UP:aF aW aW (ao qv):=⟨rfl,rfl,rfl,by decide +kernel,rfl,by decide +kernel,by decide +kernel⟩
end
end dO
namespace L2
open PySem PySem.Spec PyProof.Rows
section
variable {X:Cx}
def Jt:V->List V->Hp->VK->Prop:=λx vs H Q=>∃(l:Addr) (xs:List V) (i:Nat) (y:V),x=.ref l/\vs=[.int i,y]/\H l=some (.lst xs)/\i<=xs.length/\xs.length<sizeLine/\Q .aN (upd H l (.lst (xs.take i++y::xs.drop i)))
theorem mJ:KP X "list.insert" Jt:=by
 rintro pins s σ H x vs v us Q I rx rv ⟨l,xs,i,y,rfl,rfl,hH,hi,hz,q⟩;cases rx;obtain⟨u,u2,rfl,⟨t,rfl⟩,ru⟩:=vals2 rv;obtain⟨z,its,n,r,hl,e⟩:=I.vv hH;have lim:=abp z iu;have sz:its.toArray.size<=sizeLine:=by rw[aai,<-hl];exact z
 have h1:-(2 ^ 63)<=(i:Int):=by omega
 have h2:(i:Int)<2 ^ 63:=by omega
 have Mf:¬ ((i:Int)<0):=by omega
 have RA:(i:Int).toNat=i:=abN i;generalize (i:Int)=x at h1 h2 Mf RA⊢;have fit:¬ (!Builtin.List.listFitsIndex x)=true:=by rw[fitsIndex_both h1 h2];exact aaw
 refine afk acA ⟨_,e,rfl⟩ F.entry_list_insert (F.args_list_insert_3 _ _ _) (AutoSeq1.list_insert_list_int_val_1 l its.toArray n x t u2 fit sz) ⟨e,?_⟩;refine⟨.aN,_,I.EG (its':=its.take i++u2::its.drop i) (ys:=xs.take i++y::xs.drop i) hH e ?_ ?_ ?_,rfl,q⟩
 ·simp only[Mf,aa9,RA,aai];have hm:min i its.length=i:=by omega
  rw[hm];apply abR.mp;simp;rw[aaR (by simp)]
 ·exact(r.take i).append (.cons ru (r.drop i))
 ·rw[aay,aaH,aaP,adF];omega
end
def iJ(n:Nat):List V:=(List.range n).map λ(k:Nat)=>V.int k
def FK(ta:TA):TE:=λσ H Q=>ta σ H λvs H1=>∃n:Nat,vs=[.int n]/\n<=1000/\∀l,H1 l=none->Q (.ref l) (upd H1 l (.lst (iJ n)))
section
variable {X:Cx}
theorem dz{a:Expr}{ta:TA}{p p2 pos g9:Pos}(hc:X.calm=true)(hgl:Gl X "list")(hml:X.mg "list" = none)(hg:Gl X "range")(hm:X.mg "range" = none)(ha:PA X [a] ta)(hs:starEach [a] X.env=[(false,eval a X.env)]:=by rfl)
  (hs2:starEach [.Call (.Name "range" p2) [a] [] g9] X.env=[(false,eval (.Call (.Name "range" p2) [a] [] g9) X.env)]:=by rfl):PE X (.Call (.Name "list" p) [.Call (.Name "range" p2) [a] [] g9] [] pos) (FK ta):=by
 intro pins s σ H Q I h;refine aa8 (d7 I hgl hml aaS ?_);refine aa0 ?_ hs2 rfl;rw[hs2];show wpAny _ _ (spliced ((false,eval _ X.env)::[])) _ _ s
 refine acq ?_;refine aa8 (d7 I hg hm afi ?_);refine aa0 (aH (ha g9 pins s σ H _ I h) λus s1 ⟨vs,H1,I1,r1,q1⟩=>?_) hs rfl;obtain⟨n,rfl,hn,q⟩:=q1;obtain⟨u,rfl,t,rfl⟩:=vals1 r1;refine call_range_1 ?_;refine acE ?_;have I2:Inv X pins σ H1 {s1 with heap:=s1.heap.push {cls:=.type "range",data:=.fields #[.int 0 s1.toks,.int n t,.int 1 (s1.toks+1)]},toks:=s1.toks+1+1}:=I1.kept λb o e=>aab _ e;refine PySem.call_list_range (n:=n) (I2.ok.hd hc) (af7 ..) (small_one (by omega) (by omega) (by omega) (by omega)) (by rw[afz];split<;>omega) (by omega) λh' tk acc c' hk hS e5=>?_;refine⟨.ref _,_,I2.laid (t':=tk) (o:=.lst (iJ n)) hk (aac _) ?_,rfl,q _ (I2.aG.fresh (aac _))⟩;refine⟨by simp[iJ];exact aam hn (by decide),acc.toList,c',nW (by simp[iJ,e5.1]) λj w e=>?_,by simpa using hS⟩;obtain⟨k,rfl⟩:=e5.2 j w (by simpa using e);have hj:j<n:=by
  have:=(aaB.mp e).1
  simp[e5.1] at this;exact this
 exact⟨.int j,by simp[iJ,hj],k,by simp⟩
end
end L2
namespace dO
open PySem PySem.Spec PyProof.Rows L2 L3
abbrev xr:Stmt:=top 50 -- Po
abbrev kN:Stmt:=top 51 -- RB
theorem jC{α β:Type}{F:α->β->Prop}:∀{a c:List α} {b d:List β},Paired F a b->Paired F c d->Paired F (a++c) (b++d)
 |[],_,[],_,_,h=>h
 |_::_,_,_::_,_,.cons x r,h=>.cons x (jC r h)
theorem nk{α:Type}{x:α}{l:List α}{d:Nat}{e:α}:x∈l.take d++e::l.drop d ↔ x∈l\/x=e:=by
 rw[aas,aah];constructor
 ·rintro(h|h|h)
  ·exact .inl (ael h)
  ·exact .inr h
  ·exact .inl (aem h)
 ·rintro(h|h)
  ·rw[<-List.take_append_drop d l] at h;rcases aas.mp h with h|h
   ·exact .inl h
   ·exact .inr (.inr h)
  ·exact .inr (.inl h)
theorem kO{α β:Type}{F:α->β->Prop}:∀{a:List α} {b:List β} (d:Nat),Paired F a b->Paired F (a.take d) (b.take d)/\Paired F (a.drop d) (b.drop d)
 |_,_,0,h=>by simp only[afw,List.drop_zero];exact⟨.nil,h⟩
 |_,_,d+1,.nil=>by simp only[List.take_nil,List.drop_nil];exact⟨.nil,.nil⟩
 |_,_,d+1,.cons r t=>by simp only[List.take_succ_cons,List.drop_succ_cons];exact⟨.cons r (kO d t).1,(kO d t).2⟩
theorem aL{H H':Hp}{p:Addr}(r:Row H p)(s:av H H'):Row H' p:=let ⟨x,y,e⟩:=r;⟨x,y,s _ _ e⟩
structure WI(p a b:Addr)(ns:List Str)(H:Hp)(i:Nat)(ps:List (Str×Str))(ts:List Addr)(H2:Hp):Prop where
 row:Row H2 p
 but:bM p H H2
 ha:H2 a=some (.lst (ns.map V.str))
 hb:H2 b=some (.lst (ts.map V.ref))
 iF:aV H2 ts ps
 ins:fb ns ps
 len:ps.length=i
theorem WI.drawn{p a b:Addr}{ns:List Str}{H H2 H3:Hp}{i:Nat}{ps:List (Str×Str)}{ts:List Addr}(h:WI p a b ns H i ps ts H2)(s:bM p H2 H3)(r:Row H3 p)(na:a≠p)(nb:b≠p):WI p a b ns H i ps ts H3:=
 ⟨r,h.but.trans s,s _ _ h.ha na,s _ _ h.hb nb,h.iF.but s (λys z=>by obtain⟨xs,e⟩:=h.row.lst;rw[e] at z;cases z),h.ins,h.len⟩
theorem WI.new{p a b:Addr}{ns:List Str}{H H2:Hp}{i:Nat}{ps:List (Str×Str)}{ts:List Addr}(h:WI p a b ns H i ps ts H2){t:Addr}{o:HO}(ht:H2 t=none):WI p a b ns H i ps ts (upd H2 t o):=by have s:=ag (o:=o) ht;have G':p≠t:=au h.row.lst.choose_spec ht;exact⟨h.row.aq G',h.but.cR (h.but.none ht (aaI G')),s _ _ h.ha,s _ _ h.hb,h.iF.same s,h.ins,h.len⟩
theorem WI.put{p a b t:Addr}{ns:List Str}{H H2:Hp}{i:Nat}{ps:List (Str×Str)}{ts:List Addr}(h:WI p a b ns H i ps ts H2)(d:Nat){e:Str×Str}(ht:H2 t=some (.tup [.str e.1,.str e.2]))(h1:e.1∈ns)(h2:e.2∈ns)(hd:d<=i)(nb:b≠p)(na:a≠b)(Hb:H b=none) :
  WI p a b ns H (i+1) (ps.take d++e::ps.drop d) (ts.take d++t::ts.drop d) (upd H2 b (.lst ((ts.map V.ref).take d++V.ref t::(ts.map V.ref).drop d))):=by
 have ee:(ts.map V.ref).take d++V.ref t::(ts.map V.ref).drop d=(ts.take d++t::ts.drop d).map V.ref:=by simp
 rw[ee];refine⟨h.row.aq (aaI nb),h.but.cR Hb,by rw[L2.aq na];exact h.ha,af,?_,?_,?_⟩
 ·have mv:∀t' xs,H2 t'=some (.tup xs)->upd H2 b (.lst ((ts.take d++t::ts.drop d).map V.ref)) t'=some (.tup xs):=λt' xs e'=>by rw[L2.aq (eG e' h.hb (by intro z;cases z))];exact e'
  have c:=kO d (h.iF.mono mv);exact jC c.1 (.cons (mv _ _ ht) c.2)
 ·intro z hz;rcases nk.mp hz with h'|h'
  ·exact h.ins z h'
  ·rw[h'];exact⟨h1,h2⟩
 ·have:=h.len
  rw[aay,aaH,aaP,adF];omega
section
variable {P:Program}{w:World}{K:PySem.W.Frag}{mg:Str->Option Value}{base:Heap}
def Hu:Sp:=λvs H Q _=>∃(p a:Addr) (ns:List Str) (o:Nat) (hu:Bool),vs=[.ref p,.ref a,.int (o:Int),.bl hu]/\Row H p/\a≠p/\H a=some (.lst (ns.map V.str))/\nj ns/\ns.length+o<=31/\∀(b:Addr) (ps:List (Str×Str)) (ts:List Addr) (H':Hp),Lists H' a b ns ps ts->b≠p->H b=none->Row H' p->bM p H H'->Q (.ref b) H'
abbrev UQ:List Str:=["_law_pot_here","_law_places_here","_law_most","_law_is_hung","_law_found","_law_k","_law_pair"]
abbrev xt:List Str:=["_law_pot_here","_law_places_here","_law_most","_law_is_hung"]
theorem qz:aF UQ xt (ao xr):=⟨rfl,rfl,rfl,by decide +kernel,rfl,by decide +kernel,by decide +kernel⟩
theorem Mg{f fD fN:Addr}{fd iw jv:FuncData}(F:aX K "_law_pairs" "_law_pairs" xr f fd)(D:Df K mg "_law_draw" fJ ["_law_pot_here","_law_many"] fD iw)(DN:Df K mg "_law_drawn" jI jx fN jv)(T:bK mg):ak P w K mg base aD 3 f fd xt Hu:=by
 have G:ak P w K mg base aD 1 fD iw ["_law_pot_here","_law_many"] gM:=gw D.fn T;have GL:ak P w K mg base aD 2 fN jv jx uQ:=CF DN.fn D T;refine F.ok qz (λvs H Q E h=>?_) (λcdv A outer s H vs Q E hr h=>?_)
 ·obtain⟨p,a,ns,o,hu,rfl,_⟩:=h;rfl
 ·obtain⟨p,a,ns,o,hu,rfl,hp,dH,ha,good,aJ,k⟩:=h;have h1:=hr.mono (j:=1) (by decide);refine⟨_,aj (aM (i:=4) qz.nd rfl (Or.inl rfl) (br ae))
   (aj (ba (bg (pv 3) (λ_=>rfl))
    (ai (cI aaX rfl (BJ rfl T.range (aa ax (aa (ay aE (by rfl) T.len aav (aa (pv 1) ae)) ae))) (aI (i:=5) qz.nd rfl (Or.inl rfl))
     (aj (aM (i:=6) qz.nd rfl (Or.inl rfl) (cK (aa (aY bj (pv 1) (pv 5) (λ_ _=>rfl)) (aa (aY bj (pv 1) (aw G h1 rfl D.aO D.fn.kp D.b .nil aA (aa (pv 0) (aa (pv 5) ae))) (λ_ _=>rfl)) ae))))
     (ai (cb (ik aa5 acA acB mJ (pv 4) (aa (aw G h1 rfl D.aO D.fn.kp D.b .nil aA (aa (pv 0) (aa (pv 5) ae)))
      (aa (aY bj (br (aa (pv 6) (aa (cK (aa (aY cL (pv 6) ax (λ_ _=>rfl)) (aa (aY cL (pv 6) ax (λ_ _=>rfl)) ae))) ae))) (aw G h1 rfl D.aO D.fn.kp D.b .nil aA (aa (pv 0) (aa ax ae))) (λ_ _=>rfl)) ae)))))))) aR)
   (aj (cI aaX rfl (dB rfl T.range (aa (aw G h1 rfl D.aO D.fn.kp D.b .nil aA (aa (pv 0) (aa (bo eO (pv 2) ax) ae))) ae)) (aI (i:=5) qz.nd rfl (Or.inl rfl))
    (ai (cb (ik aa5 acA acB mJ (pv 4) (aa (aw G h1 rfl D.aO D.fn.kp D.b .nil aA (aa (pv 0) (aa (bo eO (ay aE (by rfl) T.len aav (aa (pv 4) ae)) ax) ae)))
     (aa (cK (aa (aw GL hr rfl DN.aO DN.fn.kp DN.b .nil aA (aa (pv 0) (aa (pv 1) ae))) (aa (aw GL hr rfl DN.aO DN.fn.kp DN.b .nil aA (aa (pv 0) (aa (pv 1) ae))) ae))) ae))))))
   (ai (aB (pv 4))))),?_⟩
  try rw[bu]
  have big:1000<=sizeLine:=by decide
  have cp:∀{HH:Hp} {q:Addr},Row HH p->HH q=none->q≠p:=λr n e=>by obtain⟨x,y,z⟩:=r;rw[e,z] at n;cases n
  have one:=good.one;have zq:=good.aJ;refine⟨(by decide),λb nb=>?_⟩;have dq:=cp hp nb;have uh:a≠b:=au ha nb;have W0:WI p a b ns H 0 [] [] (upd H b (.lst [])):=⟨hp.aq (aaI dq),λc o e n=>by rw[L2.aq (au e nb)];exact e,by rw[L2.aq uh];exact ha,af,.nil,(λ_ z=>nomatch z),rfl⟩
  generalize upd H b (.lst [])=H0 at W0⊢;refine⟨_,rfl,_,rfl,?_⟩;cases hu with
  |false=>
   refine aP ?_;obtain⟨i0,ei,Xp⟩:∃i0,i0=0/\i0+1<=ns.length:=⟨0,rfl,one⟩
   obtain⟨ps,ts,W⟩:∃ps ts,WI p a b ns H i0 ps ts H0:=⟨[],[],ei▸W0⟩
   refine⟨_,rfl,_,rfl,_,_,rfl,rfl,p,_,rfl,W.row,by omega,by omega,λd H6 d0 d1 r6 b6=>?_⟩;obtain⟨dn,rfl⟩:=abe d0;have W6:=W.drawn b6 r6 dH dq;refine⟨_,rfl,by omega,by omega,?_⟩;rw[abN];refine dR (λi σ HH=>∃v5 v6 ps ts,σ=[some (.ref p),some (.ref a),some (.int (o:Int)),some (.bl false),some (.ref b),v5,v6]/\WI p a b ns H (i0+i) ps ts HH) ⟨_,_,ps,ts,rfl,W6⟩ ?_ ?_
   ·rintro i σ H7 hi ⟨v5,v6,ps,ts,rfl,W7⟩;have Xq:ts.length=i0+i:=by rw[W7.iF.len,W7.len]
    refine⟨_,rfl,.inl ⟨rfl,_,ar.of W7.hb⟩,_,rfl,_,rfl,b,_,rfl,.inl (ar.of W7.hb),_,_,rfl,rfl,p,_,rfl,W7.row,by rw[aaa];omega,by rw[aaa];omega,λd3 HA zt zw rA bA=>?_⟩;rw[aaa] at zw;have WA:=W7.drawn bA rA dH dq;obtain⟨uk,rfl⟩:=abe zt;refine⟨_,rfl,_,rfl,p,a,_,rfl,WA.row,dH,WA.ha,by rw[aaa];omega,by rw[aaa];omega,λj1 y1 HB e1 rB bB=>?_⟩;have WB:=WA.drawn bB rB dH dq;rw[aan] at e1;obtain⟨u,eu,rfl⟩:=aap.mp e1;refine⟨_,rfl,_,rfl,p,a,_,rfl,WB.row,dH,WB.ha,by rw[aaa];omega,by rw[aaa];omega,λj2 y2 HC e2 rC bC=>?_⟩;have WC:=WB.drawn bC rC dH dq;rw[aan] at e2;obtain⟨v,ev,rfl⟩:=aap.mp e2;refine⟨(by show 2<=sizeLine;decide),λt nt=>?_⟩;have WE:=(WC.new nt).put uk (e:=(u,v)) af (aak eu) (aak ev) (by omega) dq uh nb;exact⟨b,_,uk,_,rfl,rfl,(WC.new nt).hb,by rw[aaa];omega,by rw[aaa];omega,_,_,_,_,rfl,WE⟩
   ·rintro σ H7 ⟨v5,v6,ps,ts,rfl,W7⟩;exact⟨_,rfl,k b ps ts _ ⟨W7.ha,W7.hb,W7.iF,good,W7.ins,by rw[W7.len];omega⟩ dq nb W7.row W7.but⟩
  |true=>
   refine bt ⟨_,rfl,a,_,rfl,.inl (ar.of W0.ha),?_⟩;rw[aaa];refine⟨_,_,rfl,⟨by decide,by decide,by omega,by omega⟩,?_⟩;refine dR (λi σ HH=>∃v5 v6 ps ts,σ=[some (.ref p),some (.ref a),some (.int (o:Int)),some (.bl true),some (.ref b),v5,v6]/\WI p a b ns H i ps ts HH) ⟨_,_,[],[],rfl,W0⟩ ?_ ?_
   ·rintro i σ H5 hi ⟨v5,v6,ps,ts,rfl,W5⟩;have hi':i+1<ns.length:=by omega
    have e1:(1+(i:Int))=((i+1:Nat):Int):=by omega
    have Xr:iM (ns.map V.str) (1+(i:Int))=some (V.str ns[i+1]):=by rw[e1];exact aQ (j:=i+1) (by simp[hi'])
    refine⟨_,rfl,_,rfl,a,_,_,_,rfl,rfl,ar.of W5.ha,Xr,_,rfl,_,rfl,_,rfl,p,_,rfl,W5.row,by omega,by omega,λj H6 j1 j2 r6 b6=>?_⟩;have W6:=W5.drawn b6 r6 dH dq;obtain⟨n,rfl⟩:=abe j1;have hn:n<ns.length:=by omega
    refine⟨a,_,_,_,rfl,rfl,ar.of W6.ha,aQ (j:=n) (v:=.str ns[n]) (by simp[hn]),(by show 2<=sizeLine;decide),λt nt=>?_⟩;have W7:=W6.new (o:=.tup [.str ns[i+1],.str ns[n]]) nt;have ht:=af (H:=H6) (a:=t) (o:=.tup [.str ns[i+1],.str ns[n]]);generalize upd H6 t (.tup [.str ns[i+1],.str ns[n]])=H7 at W7 ht⊢;have zx:ts.length=i:=by rw[W7.iF.len,W7.len]
    have Dt:t≠p:=λe=>by obtain⟨x,y,z⟩:=W7.row;rw[e,z] at ht;cases ht
    refine⟨_,rfl,.inl ⟨rfl,_,ar.of W7.hb⟩,_,rfl,_,rfl,p,_,rfl,W7.row,by omega,by omega,λd2 H8 RC Xs r8 b8=>?_⟩;have W8:=W7.drawn b8 r8 dH dq;have Mi:=b8 _ _ ht Dt;obtain⟨dn,rfl⟩:=abe RC;refine⟨_,rfl,_,rfl,t,_,_,_,rfl,rfl,aZ.of Mi,aQ (j:=1) rfl,_,rfl,t,_,_,_,rfl,rfl,aZ.of Mi,aQ (j:=0) rfl,(by show 2<=sizeLine;decide),λt2 qA=>?_⟩;have W9:=W8.new (o:=.tup [.str ns[n],.str ns[i+1]]) qA;have RD:=(ag (o:=.tup [.str ns[n],.str ns[i+1]]) qA) _ _ Mi;have zy:=af (H:=H8) (a:=t2) (o:=.tup [.str ns[n],.str ns[i+1]]);generalize upd H8 t2 (.tup [.str ns[n],.str ns[i+1]])=H9 at W9 RD zy⊢;have A8:t2≠p:=λe=>by obtain⟨x,y,z⟩:=W9.row;rw[e,z] at zy;cases zy
    refine⟨(by show 2<=sizeLine;decide),λl2 mK=>?_⟩;have Du:=W9.new (o:=.lst [.ref t,.ref t2]) mK;have FN:=cp W9.row mK;have Mj:=(ag (o:=.lst [.ref t,.ref t2]) mK) _ _ RD;have Ml:=(ag (o:=.lst [.ref t,.ref t2]) mK) _ _ zy;have Mm:=af (H:=H9) (a:=l2) (o:=.lst [.ref t,.ref t2]);generalize upd H9 l2 (.lst [.ref t,.ref t2])=Hv at Du Mj Ml Mm⊢;refine⟨_,rfl,p,2,rfl,Du.row,by decide,by decide,λd3 xu zt zw Dv uo=>?_⟩;have zz:=Du.drawn uo Dv dH dq;have hl11:=uo _ _ Mm FN;have UR:=uo _ _ Mj Dt;have US:=uo _ _ Ml A8;have fz:dn<=(ts.map V.ref).length:=by rw[aaa];omega
    have fl:(ts.map V.ref).length<sizeLine:=by rw[aaa];omega
    have:d3=0\/d3=1:=by omega
    rcases this with rfl|rfl
    ·have WP:=zz.put dn (e:=(ns[i+1],ns[n])) UR (abu hi') (abu hn) (by omega) dq uh nb;exact⟨l2,_,_,_,rfl,rfl,ar.of hl11,aQ (j:=0) rfl,b,_,dn,_,rfl,rfl,zz.hb,fz,fl,_,_,_,_,rfl,WP⟩
    ·have WP:=zz.put dn (e:=(ns[n],ns[i+1])) US (abu hn) (abu hi') (by omega) dq uh nb;exact⟨l2,_,_,_,rfl,rfl,ar.of hl11,aQ (j:=1) rfl,b,_,dn,_,rfl,rfl,zz.hb,fz,fl,_,_,_,_,rfl,WP⟩
   ·rintro σ HX ⟨v5,v6,ps,ts,rfl,W'⟩;have eN:((ns.length:Int)-1).toNat=ns.length-1:=by omega
    rw[eN] at W';obtain⟨i0,ei,Xp⟩:∃i0,i0=ns.length-1/\i0+1<=ns.length:=⟨_,rfl,by omega⟩
    have W:WI p a b ns H i0 ps ts HX:=ei▸W';refine⟨_,rfl,_,rfl,_,_,rfl,rfl,p,_,rfl,W.row,by omega,by omega,λd H6 d0 d1 r6 b6=>?_⟩;obtain⟨dn,rfl⟩:=abe d0;have W6:=W.drawn b6 r6 dH dq;refine⟨_,rfl,by omega,by omega,?_⟩;rw[abN];refine dR (λi σ HH=>∃v5 v6 ps ts,σ=[some (.ref p),some (.ref a),some (.int (o:Int)),some (.bl true),some (.ref b),v5,v6]/\WI p a b ns H (i0+i) ps ts HH) ⟨_,_,ps,ts,rfl,W6⟩ ?_ ?_
    ·rintro i σ H7 hi ⟨v5,v6,ps,ts,rfl,W7⟩;have Xq:ts.length=i0+i:=by rw[W7.iF.len,W7.len]
     refine⟨_,rfl,.inl ⟨rfl,_,ar.of W7.hb⟩,_,rfl,_,rfl,b,_,rfl,.inl (ar.of W7.hb),_,_,rfl,rfl,p,_,rfl,W7.row,by rw[aaa];omega,by rw[aaa];omega,λd3 HA zt zw rA bA=>?_⟩;rw[aaa] at zw;have WA:=W7.drawn bA rA dH dq;obtain⟨uk,rfl⟩:=abe zt;refine⟨_,rfl,_,rfl,p,a,_,rfl,WA.row,dH,WA.ha,by rw[aaa];omega,by rw[aaa];omega,λj1 y1 HB e1 rB bB=>?_⟩;have WB:=WA.drawn bB rB dH dq;rw[aan] at e1;obtain⟨u,eu,rfl⟩:=aap.mp e1;refine⟨_,rfl,_,rfl,p,a,_,rfl,WB.row,dH,WB.ha,by rw[aaa];omega,by rw[aaa];omega,λj2 y2 HC e2 rC bC=>?_⟩;have WC:=WB.drawn bC rC dH dq;rw[aan] at e2;obtain⟨v,ev,rfl⟩:=aap.mp e2;refine⟨(by show 2<=sizeLine;decide),λt nt=>?_⟩;have WE:=(WC.new nt).put uk (e:=(u,v)) af (aak eu) (aak ev) (by omega) dq uh nb;exact⟨b,_,uk,_,rfl,rfl,(WC.new nt).hb,by rw[aaa];omega,by rw[aaa];omega,_,_,_,_,rfl,WE⟩
    ·rintro σ H7 ⟨v5,v6,ps,ts,rfl,W7⟩;exact⟨_,rfl,k b ps ts _ ⟨W7.ha,W7.hb,W7.iF,good,W7.ins,by rw[W7.len];omega⟩ dq nb W7.row W7.but⟩
def qB:Sp:=λvs H Q _=>∃(p:Addr) (n:Nat),vs=[.ref p,.int (n:Int)]/\Row H p/\n<=30/\∀l ks H',H l=none->H' l=some (.lst (nV ks))->ks.Pairwise (· < ·)->(∀k∈ks,k<n)->Row H' p->bM p H H'->Q (.ref l) H'
abbrev RE:List Str:=["_law_pot_here","_law_many","_law_kind"]
abbrev uq:List Str:=["_law_pot_here","_law_many"]
theorem Mn:aF RE uq (ao kN):=⟨rfl,rfl,rfl,by decide +kernel,rfl,by decide +kernel,by decide +kernel⟩
theorem Ju{f fD:Addr}{fd iw:FuncData}(F:aX K "_law_some" "_law_some" kN f fd)(D:Df K mg "_law_draw" fJ ["_law_pot_here","_law_many"] fD iw)(T:bK mg):ak P w K mg base aD 2 f fd uq qB:=by
 have G:ak P w K mg base aD 1 fD iw ["_law_pot_here","_law_many"] gM:=gw D.fn T;refine F.ok Mn (λvs H Q E h=>?_) (λcdv A outer s H vs Q E hr h=>?_)
 ·obtain⟨p,n,rfl,_⟩:=h;rfl
 ·obtain⟨p,n,rfl,hp,ZE,k⟩:=h;refine⟨_,aj (aM (i:=2) Mn.nd rfl (Or.inr rfl) (aw G hr rfl D.aO D.fn.kp D.b .nil aA (aa (pv 0) (aa ax ae))))
   (aj (ba (aS fF (pv 2) ax (aU _)) (ai (aB (dz rfl rfl T.list rfl T.range (aa (pv 1) ae)))) aR)
   (ai (aB (cV ["_law_k"] [0,2] rfl (bQ (osc:=(ao kN).names) (N:=RE) rfl rfl (by decide +kernel)) (bJ (by decide)) (dB rfl T.range (aa (pv 1) ae))
    (λ_ _ _=>aI (i:=0) (show(["_law_k","_law_pot_here","_law_kind"]:List Str).Nodup by decide +kernel) rfl (Or.inl rfl))
    (λ_ _ _=>fR (aS fF (aw G hr rfl D.aO D.fn.kp D.b .nil aA (aa (pv 1) (aa (bo eO ax (pv 2)) ae))) ax (aU _)))
    (λ_ _ _=>pv 0))))),?_⟩
  try rw[bu]
  have big:1000<=sizeLine:=by decide
  have cp:∀{HH:Hp} {q:Addr},Row HH p->HH q=none->q≠p:=λr n e=>by obtain⟨x,y,z⟩:=r;rw[e,z] at n;cases n
  refine⟨_,rfl,p,4,rfl,hp,by decide,by decide,λd H1 d0 d4 r1 b1=>?_⟩;refine⟨_,rfl,rfl,_,rfl,?_⟩;refine cS (λ_=>?_) (λ_=>?_)
  ·refine⟨_,rfl,n,rfl,by omega,λl nl=>?_⟩;have tS:=cp r1 nl;refine k l (List.range n) _ (b1.none nl tS) ?_ aca (λk hk=>abg.mp hk) (r1.aq (aaI tS)) (b1.cR (b1.none nl tS));rw[af];rfl
  ·refine⟨_,rfl,_,rfl,by omega,by omega,?_⟩;rw[abN];refine oP (λi ys HH=>Row HH p/\bM p H HH/\∃ks,ys=nV ks/\ks.Pairwise (· < ·)/\(∀k∈ks,k<i)/\ks.length<=i) ⟨r1,b1,[],rfl,.nil,(λ_ h=>nomatch h),aac _⟩ ?_ ?_ ?_
   ·rintro i ys HH hi ⟨_,_,ks,rfl,_,_,l⟩;rw[bN];omega
   ·rintro i ys HH R hi ⟨r2,b2,ks,rfl,up,lt,l⟩ kR;rw[Int.zero_add];simp only[bF];refine⟨_,rfl,_,rfl,_,_,rfl,rfl,p,_,rfl,r2,by omega,by omega,λd2 H3 _ _ r3 b3=>⟨rfl,_,rfl,?_⟩⟩;have weak:∀k∈ks,k<i+1:=λk hk=>aa2 (lt k hk);refine cS (λ_=>⟨_,rfl,kR _ _ ⟨r3,b2.trans b3,ks++[i],by unfold nV;rw[aaN];rfl,?_,?_,by simp;omega⟩⟩) (λ_=>kR _ _ ⟨r3,b2.trans b3,ks,rfl,up,weak,by omega⟩)
    ·exact List.pairwise_append.mpr ⟨up,by simp,λx hx y hy=>by rw[aaf] at hy;subst hy;exact lt x hx⟩
    ·intro k hk;rcases aas.mp hk with q|q
     ·exact weak k q
     ·rw[aaf.mp q];omega
   rintro ys HH ⟨r2,b2,ks,rfl,up,lt,l⟩ D nD;have Mo:=cp r2 nD;exact k D ks _ (b2.none nD Mo) af up lt (r2.aq (aaI Mo)) (b2.cR (b2.none nD Mo))
end
def sel(ps:List (Str×Str))(ks:List Nat):List (Str×Str):=ks.filterMap λk=>ps[k]?
def gr(ps:List (Str×Str))(ks:List Nat):List (Str×Str):=ps++turn (sel ps ks)
theorem hV{ps:List (Str×Str)}{ks:List Nat}{p:Str×Str}:p∈sel ps ks ↔ ∃k∈ks,ps[k]?=some p:=by unfold sel;rw[abG]
theorem xw{ns:List Str}{ps:List (Str×Str)}(h:fb ns ps)(ks:List Nat):fb ns (sel ps ks):=λp hp=>by obtain⟨k,_,e⟩:=hV.mp hp;exact h p (aak e)
theorem uV{ns:List Str}{ps:List (Str×Str)}(h:fb ns ps)(ks:List Nat):fb ns (gr ps ks):=λp hp=>(aas.mp hp).elim (h p) (rG (xw h ks) p)
theorem rM{ps:List (Str×Str)}(ks:List Nat):(sel ps ks).length<=ks.length:=adI _ _
theorem xx(ps:List (Str×Str))(ks:List Nat):(gr ps ks).length<=ps.length+ks.length:=by unfold gr;rw[aay,kI];have:=rM (ps:=ps) ks;omega
theorem kP(ps:List (Str×Str)){ks:List Nat}{i k:Nat}{p:Str×Str}(e:ks[i]?=some k)(ep:ps[k]?=some p):sel ps (ks.take (i+1))=sel ps (ks.take i)++[p]:=by unfold sel;rw[aaC,e,List.filterMap_append];congr 1;simp[ep]
def Full(ms:List Str)(ps:List (Str×Str))(ks:List Nat):Prop:=∀a∈ms,∀b∈ms,bP (gr ps ks) a b
theorem Jv{ps:List (Str×Str)}{ks ls:List Nat}(h:∀k∈ks,k∈ls):∀p∈gr ps ks,p∈gr ps ls:=λp hp=>by
 obtain⟨a,b⟩:=p;unfold gr at hp⊢;rcases aas.mp hp with q|q
 ·exact aax _ q
 ·refine aaj _ (cC.mpr ?_);obtain⟨k,hk,e⟩:=hV.mp (cC.mp q);exact hV.mpr ⟨k,h k hk,e⟩
theorem Full.mono{ms:List Str}{ps:List (Str×Str)}{ks ls:List Nat}(f:Full ms ps ks)(h:∀k∈ks,k∈ls):Full ms ps ls:=λa ha b hb=>(f a ha b hb).mono (Jv h)
theorem kQ{ns:List Str}{gs:List (Str×Str)}{a:Str}(nd:ns.Nodup):(cE ns gs a).length<ns.length ↔ ∃b∈ns,¬ bP gs a b:=by
 constructor
 ·intro h;refine aaF λq=>?_
  have:=L3.jU nd (m:=cE ns gs a) λb hb=>cg.mpr ⟨hb,aaF λn=>q ⟨b,hb,n⟩⟩
  omega
 ·rintro⟨b,hb,n⟩;refine aaF λq=>n ?_;have p:=d9 (vV (ps:=gs) (a:=a) nd) (λz hz=>(cg.mp hz).1) (by omega);exact(cg.mp (p.mem_iff.mpr hb)).2
section
variable {P:Program}{w:World}{K:PySem.W.Frag}{mg:Str->Option Value}{base:Heap}
variable {C E1 fP fM fT fS iN fL mC jW mL lA qC jD xy o6:Addr}{fdP gx fc e6 fh mD jb hJ fdCh iK kS gO o7 kT:FuncData}
structure Nm(C:Addr)(H:Hp)(x l:Addr)(ms:List Str)(ps:List (Str×Str))(ks:List Nat):Prop where
 gP:bq C H x ms ps
 good:GoodW ms ps
 hl:H l=some (.lst (nV ks))
 lt:∀k∈ks,k<ps.length
 aJ:ks.length<=31
theorem Nm.same{H H':Hp}{x l:Addr}{ms:List Str}{ps:List (Str×Str)}{ks:List Nat}(h:Nm C H x l ms ps ks)(s:av H H'):Nm C H' x l ms ps ks:={h with gP:=h.gP.same s,hl:=s _ _ h.hl}
theorem qD{H:Hp}{x l:Addr}{ms:List Str}{ps:List (Str×Str)}{ks:List Nat}(gP:bq C H x ms ps)(good:GoodW ms ps)(hl:H l=some (.lst (nV ks)))(r:Rs ps ks):Nm C H x l ms ps ks:=⟨gP,good,hl,r.lt,aam r.len (aam good.aJ (by decide))⟩
def nu(C:Addr):Sp:=λvs H Q _=>∃(x l:Addr) (ms:List Str) (ps:List (Str×Str)) (ks:List Nat),vs=[.ref x,.ref l]/\Nm C H x l ms ps ks /\
 ∀(d:Addr) (ls:List Addr) (H':Hp),fB H' d (aK ms) (gr ps ks) ls->av H H'->Q (.ref d) H'
abbrev RF:List Str:=["web","ties","turned"]
theorem Mp:aF RF aW (ao jc):=⟨rfl,rfl,rfl,by decide +kernel,rfl,by decide +kernel,by decide +kernel⟩
theorem FO{f:Addr}{fd:FuncData}(F:aX K "freed" "freed" jc f fd)(M:Mh K mg C E1 fP fM fT fS iN fdP gx fc e6 fh)(DL:Df K mg "leads" iy ["places","ties"] fL mD)(xA:Df K mg "turned_pairs" gA ["ties"] mC jb)(T:bK mg):ak P w K mg base aD 3 f fd aW (nu C):=by
 have GP:ak P w K mg base aD 1 fP fdP ["self"] (vS C):=jw M.m.pF M.m.wc T;have L0:ak P w K mg base aD 1 fS e6 ["self"] (E2 C):=y0 M.m.sF M.m.wc T;have GL:ak P w K mg base aD 1 fL mD ["places","ties"] rF:=wH DL.fn T;have Xt:ak P w K mg base aD 1 mC jb ["ties"] oV:=tX xA.fn T;have GT:ak P w K mg base (jS P w) 2 fT fc ["self","k"] (vT (K:=K) C E1):=y4 M.tF M.m.wc M.wh M.x1 T;refine F.ok Mp (λvs H Q E h=>?_) (λcdv A outer s H vs Q E hr h=>?_)
 ·obtain⟨x,l,ms,ps,ks,rfl,_⟩:=h;rfl
 ·obtain⟨x,l,ms,ps,ks,rfl,n,k⟩:=h;have h1:=hr.mono (j:=1) (by decide);refine⟨_,aj (aM (i:=2) Mp.nd rfl (Or.inl rfl) (aw Xt h1 rfl xA.aO xA.fn.kp xA.b .nil aA (aa (cV ["k"] [0] rfl (bQ (osc:=(ao jc).names) (N:=RF) rfl rfl (by decide +kernel)) (bJ (by decide)) (bh (pv 1))
     (λ_ _ _=>aI (i:=0) (show(["k","web"]:List Str).Nodup by decide +kernel) rfl (Or.inl rfl)) (λ_ _ _=>bT)
     (λ_ _ _=>yM (pv 1) M.m.wc.cl M.tM GT hr M.tB .nil G0 (aa (pv 0) ae))) ae)))
   (ai (aB (aw GL h1 rfl DL.aO DL.fn.kp DL.b .nil aA (aa (dg (pv 0) M.m.wc.cl M.m.pM GP h1 M.m.pB .nil aA) (aa (bo eR (dg (pv 0) M.m.wc.cl M.m.sM L0 h1 M.m.sB .nil aA) (pv 2)) ae))))),?_⟩
  try rw[bu]
  have big:1000<=sizeLine:=by decide
  have aJ:=n.aJ;have fE:=n.good.aJ;obtain⟨d0,f0,q0,r0⟩:=n.gP.ja "tie";refine⟨_,rfl,l,rfl,⟨_,ar.of n.hl⟩,cu (K:=K) (xs:=nV ks) (λi ys HH=>HH=H/\∃us,ys=us.map V.ref/\aV H us (sel ps (ks.take i))) ⟨rfl,[],rfl,.nil⟩ ?_ ?_ ?_ ?_⟩
  ·rintro i ys HH hi ⟨_,us,rfl,hU⟩;rw[aaa,hU.len];exact aam (rM _) (by rw[aaP];omega)
  ·rintro i ys HH _ ⟨rfl,_⟩;exact ar.of n.hl
  ·rintro i v ys HH R hv ⟨rfl,us,rfl,hU⟩ kR;unfold nV at hv;rw[aan] at hv;obtain⟨j,ej,rfl⟩:=aap.mp hv;have lj:=n.lt j (aak ej);simp only[bF,dN,aa3];refine⟨_,rfl,x,d0,f0,rfl,q0,r0,_,rfl,x,ms,ps,_,rfl,n.gP,.inl ⟨j,ps[j],rfl,aad lj,λt ht=>kR _ _ ⟨rfl,us++[t],by simp,?_⟩⟩⟩;rw[kP ps ej (aad lj)];exact aV.snoc hU ht
  rintro ys HH ⟨rfl,us,rfl,hU⟩ D nD;rw[bN,abb] at hU;have sD:=ag (o:=.lst (us.map V.ref)) nD;have hD:=af (H:=HH) (a:=D) (o:=.lst (us.map V.ref));have RG:=hU.same sD;generalize upd HH D (.lst (us.map V.ref))=H1 at sD hD RG⊢;have ls:=rM (ps:=ps) ks;refine⟨D,us,_,rfl,hD,RG,by omega,λl2 u2 H2 n2 h2 hT2 s2=>?_⟩;have s02:=sD.trans s2;obtain⟨d1,f1,q1,r1⟩:=(n.gP.same s02).ja "places";refine⟨_,rfl,x,d1,f1,rfl,q1,r1,x,ms,ps,rfl,n.gP.same s02,λl3 n3=>?_⟩;have s3:=ag (o:=.lst ((aK ms).map V.str)) n3;have h3:=af (H:=H2) (a:=l3) (o:=.lst ((aK ms).map V.str));generalize upd H2 l3 (.lst ((aK ms).map V.str))=H3 at s3 h3⊢;have s03:=s02.trans s3;obtain⟨d2,f2,q2,r2⟩:=(n.gP.same s03).ja "ties";refine⟨_,rfl,x,d2,f2,rfl,q2,r2,x,ms,ps,rfl,n.gP.same s03,λl4 u4 n4 hT4=>?_⟩;have s4:=ag (o:=.lst (u4.map V.ref)) n4;have h4:=af (H:=H3) (a:=l4) (o:=.lst (u4.map V.ref));have hT4':=hT4.same s4;generalize upd H3 l4 (.lst (u4.map V.ref))=H4 at s4 h4 hT4'⊢;have RH:=s3.trans s4;refine⟨_,rfl,l4,l2,_,_,rfl,rfl,h4,RH _ _ h2,?_,λl5 n5=>?_⟩
  ·rw[aaa,aaa,hT4.len,hT2.len,kI];omega
  rw[<-aaN];have s5:=ag (o:=.lst ((u4++u2).map V.ref)) n5;have h5:=af (H:=H4) (a:=l5) (o:=.lst ((u4++u2).map V.ref));have vL:aV (upd H4 l5 (.lst ((u4++u2).map V.ref))) (u4++u2) (gr ps ks):=iH (hT4'.same s5) ((hT2.same RH).same s5);generalize upd H4 l5 (.lst ((u4++u2).map V.ref))=H5 at s5 h5 vL⊢;have lg:=xx ps ks;refine⟨l3,l5,aK ms,u4++u2,_,rfl,(s4.trans s5) _ _ h3,h5,vL,eY n.good.good.nd,by rw[cy];exact n.good.good.aJ,uV n.good.uf ks,by omega,λd ls H6 hS s6=>k d ls H6 hS (s03.trans (s4.trans (s5.trans s6)))⟩
end
theorem o8{ps:List (Str×Str)}{a b:Str}(h:bP (cF ps) a b):bP (cF ps) b a:=by
 have:=bP.turned h
 refine this.mono λp hp=>?_;obtain⟨x,y⟩:=p;rw[cC] at hp;unfold cF at hp⊢;rcases aas.mp hp with h|h
 ·exact aaj _ (cC.mpr h)
 ·exact aax _ (cC.mp h)
end dO
namespace L6
open PySem PySem.Spec PyProof.Rows L2
def DK(h h':Heap):Prop:=∀b o,h.get? b=some o->∃o',h'.get? b=some o'/\o'.dict=o.dict
theorem DK.refl(h:Heap):DK h h:=λb o e=>⟨o,e,rfl⟩
theorem DK.trans{h h1 h2:Heap}(a:DK h h1)(b:DK h1 h2):DK h h2:=λc o e=>by obtain⟨o1,e1,d1⟩:=a c o e;obtain⟨o2,e2,d2⟩:=b c o1 e1;exact⟨o2,e2,d2.trans d1⟩
def Hw(f:Obj->Obj):Prop:=∀o,(f o).dict=o.dict/\(o.isFreed=false->(f o).isFreed=false)
theorem alive{h:Heap}{b:Addr}{o:Obj}(e:h.get? b=some o):o.isFreed=false:=(Heap.get?_some_iff.mp e).2
theorem DK.update{h:Heap}{a:Addr}{f:Obj->Obj}(k:Hw f):DK h (h.update a f):=λb o e=>by
 by_cases q:b=a
 ·subst q;exact⟨f o,aaZ f e ((k o).2 (alive e)),(k o).1⟩
 ·exact⟨o,(aaQ _ _ (aaI q)).trans e,rfl⟩
inductive KD:{α:Type}->Sem α->Prop where
 |pure {α:Type} (a:α):KD (.pure a)
 |raise {α:Type} (e:Value):KD (.raise e:Sem α)
 |jZ {α:Type} (w:String):KD (.unsupported w:Sem α)
 |rule {α:Type} {t:String} {k:Unit->Sem α} (h:∀u,KD (k u)):KD (.rule t k)
 |at {α:Type} {p:Pos} {k:Unit->Sem α} (h:∀u,KD (k u)):KD (.at p k)
 |load {α:Type} {a:Addr} {p:Option Value} {k:Obj->Sem α} (h:∀u,KD (k u)):KD (.load a p k)
 |update {α:Type} {a:Addr} {p:Option Value} {f:Obj->Obj} {k:Unit->Sem α} (g:Hw f) (h:∀u,KD (k u)):KD (.update a p f k)
 |alloc {α:Type} {o:Obj} {k:Addr->Sem α} (h:∀u,KD (k u)):KD (.alloc o k)
 |point {α:Type} {l:List Value} {k:Unit->Sem α} (h:∀u,KD (k u)):KD (.point l k)
 |ask {α:Type} {k:Setting->Sem α} (h:∀u,KD (k u)):KD (.ask k)
 |stack {α:Type} {k:List (Code×Pos)->Sem α} (h:∀u,KD (k u)):KD (.stack k)
theorem KD.bind{α β:Type}{t:Sem α}{f:α->Sem β}(h:KD t)(g:∀a,KD (f a)):KD (t>>=f):=by
 show KD (Sem.bind t f)
 induction h with
 |pure a=>exact g a
 |raise e=>exact .raise e
 |jZ w=>exact .jZ w
 |rule _ ih=>exact .rule λu=>ih u
 | «at» _ ih=>exact .at λu=>ih u
 |load _ ih=>exact .load λu=>ih u
 |update k _ ih=>exact .update k λu=>ih u
 |alloc _ ih=>exact .alloc λu=>ih u
 |point _ ih=>exact .point λu=>ih u
 |ask _ ih=>exact .ask λu=>ih u
 |stack _ ih=>exact .stack λu=>ih u
theorem KD.wp{α:Type}{M:Model}{Γ:PySem.Ctx}{t:Sem α}(h:KD t):∀{Q:α->Pos->Shared->Prop} {E:Value->Pos->Shared->Prop} {p:Pos} {s:Shared},Sem.wp M Γ t Q E p s->Sem.wp M Γ t (λa p s'=>Q a p s'/\DK s.heap s'.heap) (λe p s'=>E e p s'/\DK s.heap s'.heap) p s:=by
 induction h with
 |pure a=>intro Q E p s q;exact⟨q,DK.refl _⟩
 |raise e=>intro Q E p s q;exact⟨q,DK.refl _⟩
 |jZ w=>intro Q E p s q;exact q
 |rule _ ih=>intro Q E p s q;exact ih () q
 | «at» _ ih=>intro Q E p s q;exact ih () q
 |load _ ih=>rintro Q E p s ⟨o,e,q⟩;exact⟨o,e,ih o q⟩
 |@update a pt f k g _ ih =>rintro Q E p s ⟨e,q⟩;refine⟨e,af' M Γ _ (λx p' s' z=>⟨z.1,DK.trans (DK.update g) z.2⟩) (λx p' s' z=>⟨z.1,DK.trans (DK.update g) z.2⟩) _ _ (ih () q)⟩
 |@alloc o k _ ih=>
  intro Q E p s q;have dk:DK s.heap (s.heap.push o):=λb o' e=>⟨o',aab _ e,rfl⟩
  exact af' M Γ _ (λx p' s' z=>⟨z.1,DK.trans dk z.2⟩) (λx p' s' z=>⟨z.1,DK.trans dk z.2⟩) _ _ (ih _ q)
 |point _ ih=>intro Q E p s q;exact ih () q
 |ask _ ih=>intro Q E p s q;exact ih _ q
 |stack _ ih=>intro Q E p s q;exact ih _ q
theorem KD.any{α:Type}{M:Model}{A:Around}{t:Sem α}{Q:α->Shared->Prop}{E:Value->Shared->Prop}{s:Shared}(h:KD t)(q:wpAny M A t Q E s):wpAny M A t (λa s'=>Q a s'/\DK s.heap s'.heap) (λe s'=>E e s'/\DK s.heap s'.heap) s:=
 fun Γ p hΓ=>h.wp (q Γ p hΓ)
theorem A9(g:Array Value->Array Value):Hw (Obj.mapFields g):=λo=>by obtain⟨c,d,dt,sl⟩:=o;cases dt<;>exact⟨rfl,λh=>h⟩
theorem Dw(g:Obj->Array (Option Value)):Hw (λo=>{o with slots:=g o}):=λo=>by obtain⟨c,d,dt,sl⟩:=o;cases dt<;>exact⟨rfl,λh=>h⟩
theorem rN(a:Addr):KD (load a):=.load λu=>.pure u
theorem o9:KD stack:=.stack λu=>.pure u
theorem yy(v:Value):KD (fieldsOf v):=by
 unfold fieldsOf;split
 ·refine(rN _).bind λo=>?_;split
  ·exact .pure _
  ·exact .jZ _
 ·exact .jZ _
theorem kU(v:Value)(i:Nat):KD (field v i):=by
 unfold field;refine(yy v).bind λvs=>?_;split
 ·exact .pure _
 ·exact .jZ _
theorem jL(v:Value)(i:Nat)(x:Value):KD (setField v i x):=by
 unfold setField;split
 ·unfold updateField;refine(rN _).bind λo=>?_;split
  ·split
   ·exact .update (A9 _) λu=>.pure u
   ·exact .jZ _
  ·exact .jZ _
 ·exact .jZ _
theorem jd(e:Value)(f:Option Addr):KD (setFlight e f):=by
 unfold setFlight;refine(kU _ _).bind λtb=>?_;split
 ·exact jL _ _ _
 ·exact .pure _
theorem xB:KD frameEnvs:=by unfold frameEnvs;exact o9.bind λu=>.pure _
theorem FP:KD underTheClaimsCaller:=by unfold underTheClaimsCaller;exact o9.bind λu=>.pure _
theorem Dx(env:Env)(outer:List Env):KD (behindIsImport env outer):=by
 unfold behindIsImport;split
 ·exact .pure _
 ·split
  ·exact .pure _
  ·exact(kU _ _).bind λv=>.pure _
theorem Jw(env:Env)(i:Bool)(l:List Env):KD (keptBack env i l):=by
 unfold keptBack;split
 ·split
  ·exact .pure _
  ·exact FP.bind λb=>.pure _
 ·exact .pure _
theorem xC:∀l:List Env,KD (readyFrames l)
 |[]=>.pure _
 |env::outer=>by
  unfold readyFrames;split
  ·refine(rN _).bind λo=>?_;split
   ·exact .pure _
   ·refine(Dx _ _).bind λi=>(Jw _ _ _).bind λb=>?_;exact KD.bind (.update (Dw _) λu=>.pure u) λ_=>xC outer
  ·exact .jZ _
theorem rO(l:List Env):KD (frameObject l):=by
 unfold frameObject;split
 ·exact .pure _
 ·exact(xC _).bind λ_=>.pure _
theorem Ba(env:Env):KD (PySem.frameOf env):=by
 unfold PySem.frameOf;refine xB.bind λl=>(rO _).bind λf=>?_;split
 ·exact .pure _
 ·exact .jZ _
theorem FQ(f:Addr)(b:Bool):KD (entryPlaceOf f b):=by unfold entryPlaceOf;refine o9.bind λZe=>?_;split<;>exact .pure _
theorem xD(vs:List Value):KD (newFields "traceback" vs):=by
 unfold newFields newObj;dsimp only;split
 ·exact KD.bind (.jZ _) λ_=>KD.bind (.alloc λu=>.pure u) λa=>.pure _
 ·exact KD.bind (.alloc λu=>.pure u) λa=>.pure _
theorem yz(a b c d e:Value)(l:List Value):KD (EntryCells.newEntry a b c d e l):=xD _
theorem zA(e:Value)(env:Env):KD (noteFrame e env):=by
 unfold noteFrame;split
 ·refine(kU _ _).bind λhd=>?_;have tail:KD (do let a <-PySem.frameOf env;let pl <-entryPlaceOf ‹Addr› (hd !=.none);let b <-EntryCells.newEntry hd a .none (rawInt ‹Addr›) .none pl;setField e 1 b):=
   (Ba _).bind λa=>(FQ _ _).bind λpl=>(yz _ _ _ _ _ _).bind λb=>jL _ _ _
  split
  ·refine(kU _ _).bind λx=>?_;split
   ·exact .pure _
   ·exact(jL _ _ _).bind λ_=>tail
  ·exact tail
 ·exact .jZ _
theorem qE(env:Env)(e:Value):KD (leaving env e):=by unfold leaving;exact(zA _ _).bind λ_=>jd _ _
open PySem PySem.Spec PyProof.Rows L2 Builtin Builtin.ObjectAttr
def pd(K:PySem.W.Frag)(C:Addr)(bmB:List Value)(newId:String)(fI:Addr):Bool:=
 match K.lookup C with
 |some ⟨.type "type",_,.cls kd,zs⟩=>
  (match kd.mro,zs.toList with
  |.ref D::tl,[_,_,_,_,some (.builtin n),_] =>D==C&&n==newId&&!kd.hasDel&&PySem.W.tailIn K bmB tl&&PySem.W.nsOkIn K kd.ns&&PySem.W.nsIn K kd.ns "__init__"==some (some (.ref fI))&&kd.hasDict
  |_,_=>false)
 |_=>false
theorem Jx{K:PySem.W.Frag}{h:Heap}{N:Addr}{m:Str->Option Value}{n:Str}{v:Value}(X:K.In h)(G:h.Ns N m)(e:PySem.W.nsIn K N n=some (some v)):m n=some v:=by
 obtain⟨o,es,ep,ho,hd,_,hf⟩:=G;unfold PySem.W.nsIn at e;split at e
 ·rename_i c d es' n' sl q
  have z:=X _ _ q;rw[ho] at z;cases z;cases hd;split at e
  ·rename_i en he
   cases e;rw[<-hf];unfold nsFind findBy;rw[<-aeB,he];rfl
  ·split at e<;>cases e
 ·cases e
structure UT(h:Heap)(C:Addr)(bmB:List Value)(newId:String)(fI:Addr):Prop where
 obj:∃(tl:List Value) (Nn:Addr) (nm q:Str) (bs:List Value) (sn:List Str) (sub:List Value) (ab:Bool) (col:Option Bool) (dd:Option Addr) (k0 k1 k2 k3 k5:Option Value) (mN:Str->Option Value),
  h.get? C=some (excClassObj nm q C Nn bs tl true sn sub ab col dd k0 k1 k2 k3 k5 newId)/\h.Ns Nn mN/\mN "__init__" = some (.ref fI)/\OwnTail h bmB tl
theorem UU{K:PySem.W.Frag}{h:Heap}{C fI:Addr}{bmB:List Value}{newId:String}(X:K.In h)(q:pd K C bmB newId fI=true):UT h C bmB newId fI:=by
 have no:∀{P:Prop},false=true->P:=λz=>absurd z aaw;unfold pd at q;split at q<;>first|exact no q|skip
 next dict data slots found=>
 split at q<;>first|exact no q|skip
 next first above w0 w1 w2 w3 made w5 order listed=>
 simp only[abk] at q;obtain⟨⟨⟨⟨⟨⟨Cj,isNew⟩,noDel⟩,tail⟩,ok⟩,init⟩,FR⟩:=q;have eC:first=C:=beq_iff_eq.mp Cj
 have eN:made=newId:=beq_iff_eq.mp isNew;have eD:data.hasDel=false:=by simpa using noDel
 have eS:slots=#[w0,w1,w2,w3,some (.builtin made),w5]:=abR.mp (by rw[listed]);cases data;simp only at order eD FR;subst eC eN order eD eS FR;exact⟨above,_,_,_,_,_,_,_,_,dict,w0,w1,w2,w3,w5,_,X _ _ found,.of_isNs (adk X ok),Jx X (.of_isNs (adk X ok)) (by simpa using init),aeF X tail⟩
abbrev newExc(C:Addr)(t:Addr)(d:Option Addr):Obj:={cls:=.ref C,dict:=d,data:=.fields #[.ref t,.none,.none,.none,.bool false,.none]}
section
variable {prog:Program}{w:World}{A:Around}{E:Value->Shared->Prop}{h:Heap}{g:Array GenState}{d:Drawn}{t:Nat}{os:OsState}
variable {nm q:Str}{C N:Addr}{bs bm bmB:List Value}{hdct:Bool}{sn:List Str}{sub:List Value}{ab:Bool}{col:Option Bool}{dd:Option Addr}{k0 k1 k2 k3 k5:Option Value}{B newId d8:String}
theorem Jy(F:ExcBaseFacts B newId d8 bmB)(T:OwnTail h bmB bm){mN:Str->Option Value}{us:List Value}{fI:Addr}{oI:Obj}{Q:PySem.Fin->Shared->Prop}
  (hC:h.get? C=some (excClassObj nm q C N bs bm hdct sn sub ab col dd k0 k1 k2 k3 k5 newId)) (hn:h.Ns N mN) (hi:mN "__init__" = some (.ref fI)) (hfI:h.get? fI=some oI) (hfc:oI.cls=.type "function")
  (hq:wpAny (model prog w) A (call (.ref fI) (.ref (h.objs.size+1)::us)) (λr s'=>r=.none/\Q (.done (.ret (.ref (h.objs.size+1)))) s') E ⟨(h.push {cls:=.type "tuple",data:=.seq us.toArray}).push (newExc C h.objs.size none),g,d,t,os⟩)
  (hz:us.length<=sizeLine):wpAny (model prog w) A (Builtin.«type.__call__» ⟨.ref C::us,[]⟩) Q E ⟨h,g,d,t,os⟩:=by
 repeat (first|with_reducible refine abf hC ?_|with_reducible refine wpAny_madeBy_exc hC ?_|wp_step)
 refine codeAny_call_builtin_code (acv _ F.quiet) (wpAny_check_new_subT F T hC ?_);refine codeAny_exc_new_subT F T hC ?_ hz;show wpAny _ _ _ _ _ _
 have kp:∀b o,h.get? b=some o->((h.push {cls:=.type "tuple",data:=.seq us.toArray}).push (newExc C h.objs.size none)).get? b=some o:=λb o e=>aab _ (aab _ e);have c1:=kp _ _ hC;have f1:=kp _ _ hfI;have n1:=hn.keeps kp;have g1:((h.push {cls:=.type "tuple",data:=.seq us.toArray}).push (newExc C h.objs.size none)).get? (h.objs.size+1)=some (newExc C h.objs.size none):=by heap_get
 have cc:(Value.ref C::bm).contains (.ref C)=true:=by simp
 have T1:=T.keeps kp;unfold isInstance;repeat (first|with_reducible refine abf g1 ?_|(with_reducible refine aev c1 ?_;rw[cc])|wp_step)
 show wpAny _ _ (typeLookup (.ref C) _) _ _ _
 refine wpAny_typeLookup_tail c1 n1 T1 F.mroIs F.init.lookup ?_;rw[hi];refine wpAny_holding (wpAny_bind ?_);unfold bindSpecial;refine wpAny_bind (wpAny_typeOf (T:="function") ⟨_,f1,hfc⟩ ?_);rw[if_pos (by decide)];refine wpAny_pure (wpAny_bind (wpAny_mono hq (λr s' hr=>?_) λ_ _ x=>x));obtain⟨rfl,hQ⟩:=hr;wp_walk
 exact hQ
theorem Dy(F:ExcBaseFacts B newId d8 bmB)(T:OwnTail h bmB bm){mN:Str->Option Value}{us:List Value}{fI:Addr}{oI:Obj}{Q:Value->Shared->Prop}
  (hC:h.get? C=some (excClassObj nm q C N bs bm hdct sn sub ab col dd k0 k1 k2 k3 k5 newId)) (hn:h.Ns N mN) (hi:mN "__init__" = some (.ref fI)) (hfI:h.get? fI=some oI) (hfc:oI.cls=.type "function")
  (hq:wpAny (model prog w) (A.under (.builtin "type.__call__" ⟨.ref C::us,[]⟩)) (call (.ref fI) (.ref (h.objs.size+1)::us)) (λr s'=>r=.none/\Q (.ref (h.objs.size+1)) s') E ⟨(h.push {cls:=.type "tuple",data:=.seq us.toArray}).push (newExc C h.objs.size none),g,d,t,os⟩)
  (hz:us.length<=sizeLine):wpAny (model prog w) A (call (.ref C) us) Q E ⟨h,g,d,t,os⟩:=by
 have f1:=tc_lookup;have f2:=tc_bind (.ref C);have hT:(⟨h,g,d,t,os⟩:Shared).TypeIs (.ref C) "type" := ⟨_,hC,rfl⟩
 refine acX (codeAny_of_tree ?_);show wpAny _ _ (callAny (.ref C) _) _ _ _
 repeat (any_goals (first|assumption|with_reducible refine abf hC ?_|wp_step))
 refine⟨rfl,?_⟩;exact codeAny_call_builtin_at (acv _ (by decide +kernel)) entry_typeCall (wpAny_check_type_call_sub hC (Jy F T hC hn hi hfI hfc hq hz))
theorem Dz{M:Model}{env:Env}{s:Shared}{x:Sem Value}{Q:Flow->Shared->Prop}(hbase:bm.contains (.type "BaseException")=true)(hh:A.handled=none)
  (hx:wpAny M A x (λv s₁=>∃e o,v=.ref e/\s₁.heap.get? C=some (excClassObj nm q C N bs bm hdct sn sub ab col dd k0 k1 k2 k3 k5 newId)/\s₁.heap.get? e=some o/\o.cls=.ref C/\(∃t,o.data=.fields #[.ref t,.none,.none,.none,.bool false,.none])/\E (.ref e) s₁) E s) :
  wpAny M A (raiseStmt env (some x) none) Q E s:=by
 have Xu:(Value.ref C::bm).contains (.type "BaseException")=true:=by rw[List.contains_cons,hbase,Bool.or_true]
 unfold raiseStmt;refine wpAny_bind (wpAny_mono hx (λv s₁ h₁=>?_) λ_ _ x=>x);obtain⟨e,o,rfl,hC,he,hc,⟨vs,hd⟩,hE⟩:=h₁;obtain⟨oc,od,ZF,osl⟩:=o;cases hc;cases hd;obtain⟨hp,g,d,tk,os⟩:=s₁;repeat (first|with_reducible refine abf he ?_|with_reducible refine abf hC ?_|(with_reducible refine aev hC ?_;rw[Xu])|wp_step)
 exact wpAny_raiseNew_none hh hE
theorem Bb(F:ExcBaseFacts B newId d8 bmB){env:Env}{s:Shared}{mN:Str->Option Value}{x:Str}{np cM pos:Pos}{args:List Expr}{fI:Addr}{Q:Flow->Shared->Prop}
  (hbase:bm.contains (.type "BaseException")=true) (hh:A.handled=none) (hplain:(backTo cM (starEach args env)).any (·.1)=false) (hi:mN "__init__" = some (.ref fI))
  (hx:wpAny (model prog w) A (eval (.Name x np) env) (λf s₁=>f=.ref C/\wpAny (model prog w) A (evalArgs (.ref C) true (backTo cM (starEach args env)) [])
   (λa s₂=>a.kw=[]/\a.pos.length<=sizeLine/\s₂.heap.get? C=some (excClassObj nm q C N bs bm hdct sn sub ab col dd k0 k1 k2 k3 k5 newId)/\s₂.heap.Ns N mN/\OwnTail s₂.heap bmB bm/\(∃oI,s₂.heap.get? fI=some oI/\oI.cls=.type "function") /\
    wpAny (model prog w) (A.under (.builtin "type.__call__" ⟨.ref C::a.pos,[]⟩)) (call (.ref fI) (.ref (s₂.heap.objs.size+1)::a.pos))
     (λr s'=>r=.none/\s'.heap.get? C=some (excClassObj nm q C N bs bm hdct sn sub ab col dd k0 k1 k2 k3 k5 newId)/\(∃o t,s'.heap.get? (s₂.heap.objs.size+1)=some o/\o.cls=.ref C/\o.data=.fields #[.ref t,.none,.none,.none,.bool false,.none])/\E (.ref (s₂.heap.objs.size+1)) s') E
     {s₂ with heap:=(s₂.heap.push {cls:=.type "tuple",data:=.seq a.pos.toArray}).push (newExc C s₂.heap.objs.size none)}) E s₁) E s) :
  wpAny (model prog w) A (exec (.Raise (some (.Call (.Name x np) args [] cM)) none pos) env) Q E s:=by
 rw[arm_exec_Raise];refine wpAny_bind (wpAny_standAt ?_);refine Dz (C:=C) (nm:=nm) (q:=q) (N:=N) (bs:=bs) (bm:=bm) (hdct:=hdct) (sn:=sn) (sub:=sub) (ab:=ab) (col:=col) (dd:=dd) (k0:=k0) (k1:=k1) (k2:=k2) (k3:=k3) (k5:=k5) (newId:=newId) hbase hh ?_;refine wpAny_bind (wpAny_mono (wpAny_Call_ofName (wpAny_mono hx (λf s₁ h₁=>?_) λ_ _ x=>x)) (λv s₃ h₃=>wpAny_bind (wpAny_standAt (wpAny_pure h₃))) λ_ _ x=>x);obtain⟨rfl,h₁⟩:=h₁;unfold callWith;refine wpAny_bind (wpAny_holding (wpAny_mono h₁ (λa s₂ h₂=>wpAny_bind (wpAny_standAt ?_)) λ_ _ x=>x));obtain⟨apos,Xv⟩:=a;obtain⟨Xw,hlen,hC,hn,T,⟨oI,hfI,hfc⟩,h₂⟩:=h₂;obtain rfl:Xv=[]:=Xw;obtain⟨hp,g,d,tk,os⟩:=s₂;simp only[hplain];refine wpAny_bind (wpAny_keeperOf_exc hC ?_);refine wpAny_bind (Dy F T hC hn hi hfI hfc (wpAny_mono h₂ (λr s' hr=>?_) λ_ _ x=>x) hlen);obtain⟨rfl,Xx,⟨o,vs,ho,hc,hd⟩,hE⟩:=hr;exact⟨rfl,wpAny_bind (wpAny_holding (wpAny_point (wpAny_pure ⟨_,o,rfl,Xx,ho,hc,⟨vs,hd⟩,hE⟩)))⟩
end
abbrev FT:List Value:=[.type "ValueError",.type "Exception",.type "BaseException",.type "object"]
structure ur(K:PySem.W.Frag)(C fI:Addr):Prop where
 xc:gL K C
 sa:PySem.W.findIn K (.ref C) "__setattr__" = some (some (.builtin "object.__setattr__"))
 hd:PySem.W.hasDictIn K C=true
 RI:pd K C FT "ValueError.__new__" fI=true
 fn:PySem.W.isFn K (.ref fI)=true
theorem Mq{K:PySem.W.Frag}{C fI:Addr}{bmB:List Value}{newId:String}(q:pd K C bmB newId fI=true):∃cd tl,PySem.W.clsIn K C=some cd/\cd.mro=.ref C::tl/\PySem.W.tailIn K bmB tl=true:=by
 have no:∀{P:Prop},false=true->P:=λz=>absurd z aaw;unfold pd at q;split at q<;>first|exact no q|skip
 next dict data slots found=>
 split at q<;>first|exact no q|skip
 next first above w0 w1 w2 w3 made w5 order listed=>
 simp only[abk] at q;obtain⟨⟨⟨⟨⟨⟨Cj,isNew⟩,noDel⟩,tail⟩,ok⟩,init⟩,FR⟩:=q;refine⟨data,above,?_,?_,tail⟩
 ·unfold PySem.W.clsIn;rw[found]
 ·rw[order,beq_iff_eq.mp Cj]
theorem oj{K:PySem.W.Frag}{bmB:List Value}{self:Value}(hB:refuseLoop self "__setattr__" bmB=pure ()):∀{l:List Value},PySem.W.tailIn K bmB l=true->refuseLoop self "__setattr__" l=pure ()
 |[],e=>by
  have z:bmB=[]:=by simpa [PySem.W.tailIn] using e
  rw[<-z];exact hB
 |v::r,e=>by
  unfold PySem.W.tailIn at e;rcases Bool.or_eq_true_iff.mp e with q|q
  ·rw[beq_iff_eq.mp q];exact hB
  ·split at q
   ·split at q
    ·simp only[abk] at q;rw[afx];exact oj hB q.2
    ·cases q
   ·cases q
section
variable {prog:Program}{w:World}{A:Around}{s:Shared}{K:PySem.W.Frag}{x C fI:Addr}
theorem Jz{R:Result->Shared->Prop}{ox:Obj}{od:Option Obj}{name:Str}{tk:Tok}{v:Value}(X:K.In s.heap)(I:PySem.W.InstAt s.heap x ox C od)(c:ur K C fI)(ha:PySem.W.findIn K (.ref C) name=some none)
  (hq:∀b,wpAny (model prog w) A.in1 (storeInOwnDict (.ref x) (.ref C) (.str name tk) name v b) (λfin s'=>match fin with|.done f=>R (.ok f) s'|.again c'=>c'.quiet=true/\codeAny (model prog w) A c' R s') (λe s'=>R (.error e) s') s) :
  codeAny (model prog w) A (.call (.builtin "object.__setattr__") ⟨[.ref x,.str name tk,v],[]⟩) R s:=by
 have SF:=PySem.F.store_ValueError;obtain⟨cd,tl,hc,hm,ht⟩:=Mq c.RI;have sub:PySem.W.Looks (model prog w) s.heap (isInstance (.ref x) (.type "object")) true:=I.type.andThen (ade X c.xc.m1);refine codeAny_call_builtin SF.slot.plain SF.entry (@PySem.W.check_slot (model prog w) _ _ s "object.__setattr__" "object" "__setattr__" (.ref x) [.str name tk,v] [] _ SF.kind SF.split sub (SF.args (.ref x) (.str name tk) v) ?_);have lm:PySem.W.Looks (model prog w) s.heap (mroOf (.ref C)) cd.mro:=(adb X hc).andThen .now;rw[PySem.W.osa_eq,refuse_eq];refine wpAny_bind (wpAny_bind (I.type.here (wpAny_bind (lm.here ?_))));rw[hm,afx,oj (SF.passes _) ht];refine wpAny_pure (wpAny_bind (I.type.here (wpAny_bind ((abw X ha).here (wpAny_bind (wpAny_pure ?_))))));exact hq _
end
def om(a C t:Addr):HO:=.ext λh=>h.get? a=some (newExc C t none)
def uu(a C t dx:Addr):HO:=.ext λh=>h.get? a=some (newExc C t (some dx))
theorem Mr{P:Program}{w:World}{H:Hp}{h:Heap}{a C t:Addr}(e:h.get? a=some (newExc C t none)):bc P w H h a (om a C t):=⟨e,⟨_,e⟩,λ_ _ z k=>k _ z⟩
theorem Ms{P:Program}{w:World}{H:Hp}{h:Heap}{a C t dx:Addr}(e:h.get? a=some (newExc C t (some dx))):bc P w H h a (uu a C t dx):=⟨e,⟨_,e⟩,λ_ _ z k=>k _ z⟩
section
variable {X:Cx}{pins:List (Addr×Obj)}{σ:L2.St}{H:Hp}{s:Shared}{a C t fI:Addr}{f:Str}{A:Around}{E:Value->Shared->Prop}
theorem JA{y:V}{u:Value}{Q:Unit->Shared->Prop}(I:Inv X pins σ H s)(e:H a=some (om a C t))(c:ur X.K C fI)(n:dE X.K C f)(ry:RelV y u)
  (h:∀dx s',H dx=none->Inv X pins σ (upd (upd H dx (.xd [(f,y)])) a (uu a C t dx)) s'->Q () s'):wpAny (model X.prog X.w) A (setAttr (.ref a) f u) Q E s:=by
 obtain⟨hx,_,_⟩:=I.aG a _ e;have hx:s.heap.get? a=some (newExc C t none):=hx;have J:PySem.W.InstAt s.heap a (newExc C t none) C none:=⟨hx,rfl,rfl,True.intro⟩
 refine aeQ I.cD J c.sa (Jz (s:={s with toks:=s.toks+1}) I.cD J c n λb=>?_);obtain⟨cd,hc,nJ⟩:=ae8 c.hd;refine wpAny_bind (wpAny_pure (wpAny_bind (wpAny_bind (wpAny_loadPart hx (wpAny_bind (acp (s:={s with toks:=s.toks+1}) (adb I.cD hc) ?_))))));rw[nJ];have RJ:a≠s.heap.objs.size:=aar (aag hx);have G4:(s.heap.push {cls:=.type "dict",data:=.dict #[]}).get? a=some (newExc C t none):=aab _ hx;refine wpAny_bind (wpAny_alloc ?_);refine wpAny_bind (wpAny_update G4 ?_);refine wpAny_pure ?_;have Xy:((s.heap.push {cls:=.type "dict",data:=.dict #[]}).update a λo=>{o with dict:=some s.heap.objs.size}).get? s.heap.objs.size=some {cls:=.type "dict",data:=.dict #[]}:=
  (aew _ _ _ _ RJ.symm).trans (Heap.get?_push_at rfl rfl)
 have Xz:((s.heap.push {cls:=.type "dict",data:=.dict #[]}).update a λo=>{o with dict:=some s.heap.objs.size}).get? a=some (newExc C t (some s.heap.objs.size)):=aaZ _ G4 rfl;have zf:((s.heap.push {cls:=.type "dict",data:=.dict #[]}).update a λo=>{o with dict:=some s.heap.objs.size}).Ns s.heap.objs.size (λ_=>none):=⟨_,#[],_,Xy,rfl,λe he=>absurd he (by simp),λ_=>rfl⟩
 show wpAny _ _ (storeInDict s.heap.objs.size (.str f s.toks) f u) _ _ _
 unfold storeInDict newKeyGuard;refine wpAny_bind (wpAny_pure (wpAny_bind (wpAny_nsSet1 (aeR zf) λh' yG hs=>?_)));obtain⟨oD,V7,V8,Kz,KA,lJ⟩:=yG.count (agr f u Within.nil);refine wpAny_bind (wpAny_lookBehind Kz (by rw[KA];exact ae9 (aam lJ (by rw[aaH,abJ,adh];omega))) ?_);have hf:H s.heap.objs.size=none:=I.aG.fresh (aac _);have other:∀b o,b≠a->s.heap.get? b=some o->h'.get? b=some o:=λb o hb q =>(hs.2 b (aar (aag q))).trans ((aew _ _ _ _ hb).trans (aab _ q))
 have Mu:h'.get? a=some (newExc C t (some s.heap.objs.size)):=(hs.2 a RJ).trans Xz;have lo:∀b o,s.heap.get? b=some o->b≠s.heap.objs.size:=λb o q=>aar (aag q);have na:∀b,H b=none->b≠a:=λb q z=>by rw[z,e] at q;cases q
 have hH:∀b,b≠a->b≠s.heap.objs.size->upd (upd H s.heap.objs.size (.xd [(f,y)])) a (uu a C t s.heap.objs.size) b=H b:=λb h1 h2=>by rw[aq h1,aq h2]
 have nx:∀b u,H b=some u->b≠s.heap.objs.size:=λb u q z=>by rw[z,hf] at q;cases q
 refine wpAny_pure (h _ _ hf (I.un (h':=h') ⟨λb o q n _ _=>other b o (na b n) q,λb o q n _ _=>⟨o.slots,other b o (na b n) q⟩,λb o q n _=>?_,λb o q _=>?_,λb xs q=>?_,λb o u q=>?_,λb ps q=>?_⟩ ?_))
 ·rw[hH b (na b n) (lo b o q)];exact n
 ·by_cases hb:b=a
  ·rw[hb];exact⟨_,Mu⟩
  ·exact⟨o,other b o hb q⟩
 ·have hb:b≠a:=λz=>by rw[z,e] at q;cases q
  rw[hH b hb (nx b _ q)];exact q
 ·have hb:b≠a:=λz=>by rw[z,e] at q;cases q
  rw[hH b hb (nx b _ q)];exact q
 ·have hb:b≠a:=λz=>by rw[z,e] at q;cases q
  exact⟨#[],by rw[hH b hb (nx b _ q),q,aeK]⟩
 ·intro b u' q;by_cases hb:b=a
  ·subst hb;rw[af] at q;cases q;exact Ms Mu
  ·by_cases zB:b=s.heap.objs.size
   ·subst zB;rw[aq hb,af] at q;cases q;refine⟨_,yG,λg=>?_⟩;by_cases hg:g=f
    ·subst hg;simp only[List.lookup,beq_self_eq_true,aa3];exact ry
    ·have:(g==f)=false:=by simpa using hg
     simp only[List.lookup,this,if_neg hg];exact True.intro
   ·rw[hH b hb zB] at q;refine(I.aG b u' q).fO (λc v hc z=>?_) (λc z=>?_) λc xs z=>?_
    ·refine other c v (λy=>?_) z;subst y;rcases hc with z1|z1
     ·exact hb z1.symm
     ·rw[e] at z1;cases z1
    ·have:c≠a:=λy=>by rw[y,e] at z;cases z
     rw[hH c this (nx c _ z)];exact z
    ·have:c≠a:=λy=>by rw[y,e] at z;cases z
     rw[hH c this (nx c _ z)];exact z
end
def XA(K:PySem.W.Frag)(ta tv:TE)(f:Str):TS:=λD σ H=>tv σ H λy H1=>ta σ H1 λx H2=>∃a C t fI,x=.ref a/\H2 a=some (om a C t)/\ur K C fI/\dE K C f /\
 ∀dx,H2 dx=none->D.nx σ (upd (upd H2 dx (.xd [(f,y)])) a (uu a C t dx))
theorem zC{X:Cx}{o value:Expr}{f:Str}{pos pos':Pos}{ta tv:TE}(ha:PE X o ta)(hv:PE X value tv)(hs:swapsWith value (some (.Attribute o f pos')) pos.line X.env=pure false):PS X (.Assign [.Attribute o f pos'] value pos) (XA X.K ta tv f):=by intro pins s σ H D I h;refine acW (aH (hv pins s σ H _ I h) λu s1 ⟨y,H1,I1,ry,q⟩=>aH (ha pins s1 σ H1 _ I1 q) λov s2 ⟨x,H2,I2,rx,a,C,t,fI,ex,ea,c,n,q2⟩=>?_) hs;subst ex;obtain rfl:ov=Value.ref a:=rx;exact JA I2 ea c n ry λdx s3 gX I3=>⟨σ,_,I3,q2 dx gX⟩
def fZ(a:Addr)(cls:Value)(od:Option Addr):HO:=.ext λh=>∃o vs,h.get? a=some o/\o.cls=cls/\o.data=.fields vs/\o.dict=od
section
variable {prog:Program}{w:World}{A:Around}{E:Value->Shared->Prop}{h:Heap}{g:Array GenState}{d:Drawn}{t:Nat}{os:OsState}{K:PySem.W.Frag}{a C:Addr}{o:Obj}{od:Option Obj}{name:Str}{v:Value}
theorem uG{tk:Tok}{Q:PySem.Fin->Shared->Prop}(X:K.In h)(I:PySem.W.InstAt h a o C od)(hf:PySem.W.findObj K C od name=some (.value v))
  (hq:Q (.done (.ret v)) ⟨h,g,d,t,os⟩):wpAny (model prog w) A (Builtin.«object.__getattribute__» ⟨[.ref a,.str name tk],[]⟩) Q E ⟨h,g,d,t,os⟩:=by
 have L3:=PySem.W.looks_find (M:=model prog w) X I hf;have hc:=I.cls;have hx:=I.at_;repeat (any_goals (first|assumption|(with_reducible refine abf hx ?_;rw[hc])|with_reducible refine L3.at ?_|wp_step))
theorem JB{expr:Bool}{Q:Value->Shared->Prop}(X:K.In h)(I:PySem.W.InstAt h a o C od)(x:gL K C)(hf:PySem.W.findObj K C od name=some (.value v))(hh:PySem.W.handedIn v=true)
  (hq:Q v ⟨h,g,d,t+1,os⟩):wpAny (model prog w) A (getAttr (.ref a) name expr) Q E ⟨h,g,d,t,os⟩:=by
 have f3:=acG.ga.bind (.ref a);have L1:=abw (M:=model prog w) X x.g1;have L2:=abw (M:=model prog w) X x.g2;have hc:=I.cls;have hx:=I.at_;have ho:=PySem.W.handedOut_of hh;have ZG:(expr&&onTheHeap (Value.builtin "BaseException.__getattribute__"))=false:=by cases expr<;>rfl
 have Cp:(Value.builtin "BaseException.__getattribute__"==Value.builtin "object.__getattribute__")=false:=by decide +kernel
 have G4:(onTheHeap (Value.ref C)&&Value.builtin "BaseException.__getattribute__"==Value.builtin "object.__getattribute__")=false:=by rw[Cp];rfl
 unfold getAttr getAttrBy;repeat (any_goals (first|assumption|(with_reducible refine abf hx ?_;rw[hc])|with_reducible refine L1.at ?_|with_reducible refine L2.at ?_|wp_step))
 refine codeAny_call_builtin acG.ga.plain afm (tK X hx hc x.m2 (uG X I hf ?_));repeat (any_goals (first|assumption|wp_step))
end
section
variable {X:Cx}{pins:List (Addr×Obj)}{σ:L2.St}{H:Hp}{s:Shared}{a C dx:Addr}{fs:List (Str×V)}{f:Str}{v:V}{A:Around}{E:Value->Shared->Prop}
theorem JC{b:Bool}{Q:Value->Shared->Prop}(I:Inv X pins σ H s)(e:H a=some (fZ a (.ref C) (some dx)))(e2:H dx=some (.xd fs))(x:gL X.K C)(hd:PySem.W.hasDictIn X.K C=true)(n:dE X.K C f)(l:fs.lookup f=some v)
  (h:∀u s',Inv X pins σ H s'->RelV v u->Q u s'):wpAny (model X.prog X.w) A (getAttr (.ref a) f b) Q E s:=by
 obtain⟨⟨o,vs,ho,hc,XB,XC⟩,_,_⟩:=I.aG a _ e;obtain⟨mA,hns,r⟩:=I.aG dx _ e2;obtain⟨u,hu,ru⟩:=eJ.some_of (v:=v) (o:=mA f) (by rw[<-l];exact r f);obtain⟨od,XD,hl⟩:=sR hns;have J:PySem.W.InstAt s.heap a o C (some od):=⟨ho,hc,by unfold PySem.W.notCls;rw[XB],by rw[XC];exact XD⟩
 obtain⟨hh,g,d,t,os⟩:=s;exact JB I.cD J x (aer hd n rfl (by rw[hl,hu])) (sT ru) (h u _ (I.tok _) ru)
end
def RK(K:PySem.W.Frag)(ta:TE)(f:Str):TE:=λσ H Q=>ta σ H λx H1=>∃a C dx fs v,x=.ref a/\H1 a=some (fZ a (.ref C) (some dx))/\H1 dx=some (.xd fs)/\gL K C/\PySem.W.hasDictIn K C=true/\dE K C f/\fs.lookup f=some v/\Q v H1
theorem JD{X:Cx}{e:Expr}{f:Str}{pos:Pos}{ta:TE}(he:PE X e ta)(hb:attributeBase e f X.env (eval e X.env)=eval e X.env):PE X (.Attribute e f pos) (RK X.K ta f):=by intro pins s σ H Q I h;refine yL hb (aH (he pins s σ H _ I h) λu s1 ⟨x,H1,I1,rx,a,C,dx,fs,v,ex,ea,e2,c,hd,n,l,q⟩=>?_);subst ex;obtain rfl:u=Value.ref a:=rx;exact JC I1 ea e2 c hd n l λu' s2 I2 ru=>⟨v,H1,I2,ru,q⟩
theorem xE{X:Cx}{K:PySem.W.Frag}{e:Expr}{f:Str}{pos:Pos}{ta:TE}(he:PE X e ta)(hb:attributeBase e f X.env (eval e X.env)=eval e X.env)(hK:X.K=K:=by rfl):PE X (.Attribute e f pos) (RK K ta f):=by subst hK;exact JD he hb
section
variable {X:Cx}
theorem f':bV X (.builtin "isinstance") (λxs H Q=>∃(a C:Addr) (od:Option Addr) (c:V) (cv:Value) (b:Bool),xs=[.ref a,c]/\(∀u,RelV c u->u=cv)/\H a=some (fZ a (.ref C) od)/\gL X.K C/\PySem.W.kitOne X.K (.ref C) cv=some b/\Q (.bl b) H):=by rintro pins s σ H xs us Q I r ⟨a,C,od,c,cv,b,rfl,hc,hH,x,e,q⟩;obtain⟨u,v,rfl,ru,rv⟩:=vals2 r;cases ru;cases hc v rv;obtain⟨⟨o,vs,p1,p2,p3,p4⟩,_,_⟩:=I.aG a _ hH;exact abi (ES x) I.cD ⟨o,vs,p1,p2,p3⟩ e (λz=>nomatch z) λtk=>⟨.bl b,H,I.tok _,rfl,q⟩
end
open PySem PySem.Spec PyProof.Rows L2
def gQ(h:Heap)(a:Addr)(od:Option Addr):Prop:=∃o,h.get? a=some o/\o.dict=od
theorem gQ.by{h h':Heap}{a:Addr}{od:Option Addr}(x:gQ h a od)(k:DK h h'):gQ h' a od:=by obtain⟨o,e,d⟩:=x;obtain⟨o',e',d'⟩:=k a o e;exact⟨o',e',d'.trans d⟩
def bR(P:Program)(w:World):gj:=λouter H s E e s'=>∃a cls od H',e=.ref a/\Cg P w outer H s H' a cls s'/\gQ s'.heap a od/\E cls od H'
theorem xF{P:Program}{w:World}{X:Cx}:Passes (bR P w) X E0:=λ_ _ _ _ _ _ _ ⟨_,_,_,_,_,_,_,h⟩=>h.elim
theorem toD{P:Program}{w:World}{K:PySem.W.Frag}{mg:Str->Option Value}{base:Heap}{k:Nat}{f:Addr}{fd:FuncData}{ps:List Str}{sp:Sp}(F:ak P w K mg base (jS P w) k f fd ps sp) :
  ak P w K mg base (bR P w) k f fd ps (λvs H Q E=>sp vs H Q λc _ H'=>∀od,E c od H'):=
 ⟨λvs H Q E q=>F.len _ _ _ _ q,λA outer s H args us vs Q E hr he hb hv hs=>codeAny_mono (F.run A outer s H args us vs Q _ hr he hb hv hs) λr s' hq=>by
  cases r with
  |ok fl=>cases fl<;>exact hq
  |error e=>
   obtain⟨a,cls,H',rfl,fl,hE⟩:=hq;obtain⟨B,a0,hfl,_⟩:=fl.K4;obtain⟨oe,Co,jR,_⟩:=hfl.first
   exact⟨a,cls,oe.dict,H',rfl,fl,⟨oe,jR,rfl⟩,hE _⟩⟩
section
variable {M:Model}{A:Around}{E:Value->Shared->Prop}{s:Shared}{base:Heap}{env:Env}{outer:List Env}{L e:Addr}{cls a0:Value}{od:Option Addr}{Q:Unit->Shared->Prop}
theorem JE(hfr:A.frames=some (env::outer))(hf:env.frame=some L)(hfl:Heap.FlyingW base (env::outer) e cls a0 s.heap)(hd:gQ s.heap e od)
  (hQ:∀h',Heap.FlyingW base outer e cls a0 h'->s.heap.UpToSlots h'->gQ h' e od->Q () {s with heap:=h' }):wpAny M A (leaving env (.ref e)) Q E s:=
 wpAny_mono ((qE env (.ref e)).any (wpAny_leaves_onW (Q:=λ_ s'=>∃h',s'={s with heap:=h' }/\Heap.FlyingW base outer e cls a0 h'/\s.heap.UpToSlots h') (E:=E) hfr hf hfl λh' x y=>⟨h',rfl,x,y⟩)) (λ_ s' ⟨⟨h',q,x,y⟩,dk⟩=>by subst q;exact hQ h' x y (hd.by dk)) λ_ _ z=>z.1
theorem Mv(hfr:A.frames=some (env::outer))(hf:env.frame=some L)(hfl:Heap.FlyingW base (env::outer) e cls a0 s.heap)(hd:gQ s.heap e od)
  (hQ:∀h',Heap.HeldW base (env::outer) e cls a0 L h'->s.heap.UpToSlots h'->gQ h' e od->Q () {s with heap:=h' }):wpAny M A (noteFrame (.ref e) env) Q E s:=
 wpAny_mono ((zA (.ref e) env).any (wpAny_looks_onW (Q:=λ_ s'=>∃h',s'={s with heap:=h' }/\Heap.HeldW base (env::outer) e cls a0 L h'/\s.heap.UpToSlots h') (E:=E) hfr hf hfl λh' x y=>⟨h',rfl,x,y⟩)) (λ_ s' ⟨⟨h',q,x,y⟩,dk⟩=>by subst q;exact hQ h' x y (hd.by dk)) λ_ _ z=>z.1
theorem Mw{l:List Env}(hh:Heap.HeldW base l e cls a0 L s.heap)(hd:gQ s.heap e od)
  (hQ:∀h',Heap.FlyingW base l e cls a0 h'->s.heap.UpToSlots h'->gQ h' e od->Q () {s with heap:=h' }):wpAny M A (setFlight (.ref e) none) Q E s:=
 wpAny_mono ((jd (.ref e) none).any (wpAny_landsW (Q:=λ_ s'=>∃h',s'={s with heap:=h' }/\Heap.FlyingW base l e cls a0 h'/\s.heap.UpToSlots h') (E:=E) hh λh' x y=>⟨h',rfl,x,y⟩)) (λ_ s' ⟨⟨h',q,x,y⟩,dk⟩=>by subst q;exact hQ h' x y (hd.by dk)) λ_ _ z=>z.1
theorem JF{l:List Env}(hh:Heap.FlyingW base l e cls a0 s.heap)(hd:gQ s.heap e od)
  (hQ:∀h',Heap.FlyingW base l e cls a0 h'->s.heap.UpToSlots h'->gQ h' e od->Q () {s with heap:=h' }):wpAny M A (setFlight (.ref e) none) Q E s:=
 wpAny_mono ((jd (.ref e) none).any (lands_againW (Q:=λ_ s'=>∃h',s'={s with heap:=h' }/\Heap.FlyingW base l e cls a0 h'/\s.heap.UpToSlots h') (E:=E) hh λh' x y=>⟨h',rfl,x,y⟩)) (λ_ s' ⟨⟨h',q,x,y⟩,dk⟩=>by subst q;exact hQ h' x y (hd.by dk)) λ_ _ z=>z.1
end
section
variable {P:Program}{w:World}{K:PySem.W.Frag}{mg:Str->Option Value}{base:Heap}{N:List Str}{qual:Str}{scope:Scope}{f:Addr}{cdv:Value}{A:Around}{outer:List Env}{s:Shared}{H:Hp}{E:XK}
theorem jE:Passes (bR P w) (cT (bR P w) P w K mg base N qual scope f cdv A outer s H E) E:=by
 intro pins σ H1 s1 e s2 I ⟨a,cls,od,H2,he,F,hd,hE⟩;subst he;obtain⟨B,a0,hfl,hB⟩:=F.K4;have hfr:(A.deeper (envOfC qual scope s.heap.objs.size f cdv)).frames=some (envOfC qual scope s.heap.objs.size f cdv::outer):=I.ok.frames;show wpAny _ _ (leaving _ _) _ _ _
 refine JE hfr rfl hfl hd λh' x1 x2 x3=>⟨a,cls,od,H2,rfl,?_,x3,hE⟩
 refine qY I F.os F.bare F.un F.aG F.an hB x1 λb hb o e=>x2 b o e ?_;obtain⟨_,o',e',d⟩:=hfl.2.2.1.mem (show b∈(envOfC qual scope s.heap.objs.size f cdv::outer).filterMap (·.frame) from aae _ hb);rw[e] at e';cases e';exact d
def off(H:Hp)(a:Addr):Hp:=λb=>if b=a then none else H b
theorem off_ne{H:Hp}{a b:Addr}(h:b≠a):off H a b=H b:=by unfold off;rw[if_neg h]
theorem xG{H:Hp}{a:Addr}:off H a a=none:=by unfold off;rw[if_pos rfl]
theorem Mx{fs:List Addr}{H H1:Hp}{h h1:Heap}{a:Addr}(u:Un fs [] H H1 h h1)(ha:H a=none):Un fs [] H (off H1 a) h h1:=by
 have na:∀{b:Addr} {o:HO},H b=some o->b≠a:=λq z=>by rw[z,ha] at q;cases q
 refine⟨u.keep,u.slot,λb o q n hx=>?_,u.there,λb xs q=>?_,λb o v q=>?_,λb ps q=>?_⟩
 ·by_cases hb:b=a
  ·subst hb;exact xG
  ·rw[off_ne hb];exact u.free b o q n hx
 ·rw[off_ne (na q)];exact u.eg b xs q
 ·rw[off_ne (na q)];exact u.dW b o v q
 ·rw[off_ne (na q)];exact u.eB b ps q
def rP(K:PySem.W.Frag)(C fI:Addr)(f:Str):Sp:=λvs H Q _=>∃e t v,vs=[.ref e,v]/\H e=some (om e C t)/\∀dx,H dx=none->Q .aN (upd (upd H dx (.xd [(f,v)])) e (uu e C t dx))
def JG(C:Addr)(fl:Str)(t:TA)(E:XK):TS:=λD σ H=>t σ H λvs H1=>∃v,vs=[v]/\∀dx,H1 dx=none->E (.ref C) (some dx) (upd H1 dx (.xd [(fl,v)]))
theorem uv{x fl:Str}{C fI:Addr}{k:Nat}{fd:FuncData}{np cM pos:Pos}{e₀:Expr}{rest:List Expr}{t:TA}{ps:List Str}
  (hx:Gl (cT (bR P w) P w K mg base N qual scope f cdv A outer s H E) x) (b:mg x=some (.ref C)) (c:ur K C fI)
  (F:ak P w K mg base (bR P w) k fI fd ps (rP K C fI fl)) (hr:bW (k+1) (A.deeper (envOfC qual scope s.heap.objs.size f cdv))) (hb:Binds K fd ps [])
  (ha:PA (cT (bR P w) P w K mg base N qual scope f cdv A outer s H E) (e₀::rest) t) (hd:(x==("__debug__" : Str))=false:=by decide)
  (he:starEach (e₀::rest) (envOfC qual scope s.heap.objs.size f cdv)=(false,eval e₀ (envOfC qual scope s.heap.objs.size f cdv))::starEach rest (envOfC qual scope s.heap.objs.size f cdv):=by rfl)
  (hplain:(backTo cM (starEach rest (envOfC qual scope s.heap.objs.size f cdv))).any (·.1)=false:=by rfl) :
  PS (cT (bR P w) P w K mg base N qual scope f cdv A outer s H E) (.Raise (some (.Call (.Name x np) (e₀::rest) [] cM)) none pos) (JG C fl t E):=by
 intro pins s0 σ H0 D I h;obtain⟨tl,Nn,nm,q',bs,sn,sub,ab,col,dd,k0,k1,k2,k3,k5,mN,hC,hN,K6,T⟩:=(UU I.mod.sI c.RI).obj;have FB:=adu;refine Bb (C:=C) (nm:=nm) (q:=q') (N:=Nn) (bs:=bs) (bm:=tl) (hdct:=true) (sn:=sn) (sub:=sub) (ab:=ab) (col:=col) (dd:=dd) (k0:=k0) (k1:=k1) (k2:=k2) (k3:=k3) (k5:=k5) (fI:=fI)
  FB (mN:=mN) (T.hasType FB.hasBase) (I.ok.hd rfl) (by show(backTo cM (starEach (e₀::rest) (envOfC qual scope s.heap.objs.size f cdv))).any _=false;rw[he];show(false||(backTo cM (starEach rest (envOfC qual scope s.heap.objs.size f cdv))).any (·.1))=false;rw[hplain];rfl) K6 (gc I hx b ⟨rfl,?_⟩ hd)
 have hA:=ha cM pins s0 σ H0 _ I h;have jR:starEach (e₀::rest) (cT (bR P w) P w K mg base N qual scope f cdv A outer s H E).env=(false,eval e₀ (cT (bR P w) P w K mg base N qual scope f cdv A outer s H E).env)::starEach rest (cT (bR P w) P w K mg base N qual scope f cdv A outer s H E).env:=he;rw[jR] at hA⊢;refine acZ (wpAny_mono hA (λus s2 ⟨vs,H2,I2,rv,v,hv,hE⟩=>?_) λ_ _ y=>y);subst hv;obtain⟨u,rfl,ru⟩:∃u,us=[u]/\RelV v u:=by
  cases rv with
  |cons r t=>cases t;exact⟨_,rfl,r⟩
 have BD:∃oI,s2.heap.get? fI=some oI/\oI.cls=.type "function" := by have q:((K.lookup fI).map (·.cls)==some (.type "function"))=true:=c.fn;obtain⟨oI,XE,XF⟩:=aap.mp (beq_iff_eq.mp q);exact⟨oI,I2.cD _ _ XE,XF⟩
 have kp:∀b o,s2.heap.get? b=some o->((s2.heap.push {cls:=.type "tuple",data:=.seq #[u]}).push (newExc C s2.heap.objs.size none)).get? b=some o:=λb o e=>aab _ (aab _ e);have g1:((s2.heap.push {cls:=.type "tuple",data:=.seq #[u]}).push (newExc C s2.heap.objs.size none)).get? (s2.heap.objs.size+1)=some (newExc C s2.heap.objs.size none):=by heap_get
 have fe:H2 (s2.heap.objs.size+1)=none:=I2.aG.fresh (aa7 _);have I3:=I2.laid (a:=s2.heap.objs.size+1) (o:=om (s2.heap.objs.size+1) C s2.heap.objs.size) (t':=s2.toks) kp (aa7 _) (Mr g1);refine⟨rfl,(by show 1<=sizeLine;decide),I2.bk _ _ hC,hN.keeps I2.bk,T.keeps I2.bk,BD,?_⟩;have r2:Vals [V.ref (s2.heap.objs.size+1),v] [Value.ref (s2.heap.objs.size+1),u]:=.cons rfl (.cons ru .nil);have hsp:rP K C fI fl [V.ref (s2.heap.objs.size+1),v] (upd H2 (s2.heap.objs.size+1) (om (s2.heap.objs.size+1) C s2.heap.objs.size)) (λr H4=>r=.aN/\∃dx,H2 dx=none/\dx≠s2.heap.objs.size+1/\H4=upd (upd (upd H2 (s2.heap.objs.size+1) (om (s2.heap.objs.size+1) C s2.heap.objs.size)) dx (.xd [(fl,v)])) (s2.heap.objs.size+1) (uu (s2.heap.objs.size+1) C s2.heap.objs.size dx)) E0:=by
  refine⟨_,_,v,rfl,af,λdx gX=>⟨rfl,dx,?_,?_,rfl⟩⟩
  ·by_cases z:dx=s2.heap.objs.size+1
   ·rw[z];exact fe
   ·rw[aq z] at gX;exact gX
  ·intro z;rw[z,af] at gX;cases gX
 have hl:([Value.ref (s2.heap.objs.size+1),u]++[]).length=ps.length:=by rw[abA,<-r2.length];exact F.len _ _ _ _ hsp
 refine acX (codeAny_mono (F.run _ (cT (bR P w) P w K mg base N qual scope f cdv A outer s H E).stack _ _ ⟨[Value.ref (s2.heap.objs.size+1),u],[]⟩ ([Value.ref (s2.heap.objs.size+1),u]++[]) _ _ _ (hr.make C [u] []) (I3.Au.make C [u] []) (hb _ _ I3.cD hl) (by rw[abA];exact r2) hsp) λr s4 hq=>?_);cases r with
 |error e=>obtain⟨_,_,_,_,_,_,_,z⟩:=hq;exact z.elim
 |ok XG=>
  cases XG with
  |next=>exact False.elim hq
  |brk=>exact False.elim hq
  |cont=>exact False.elim hq
  |ret u4=>
   obtain⟨v4,H4,os4,Hx,RL,hok4,r4,rfl,dx,gX,hne,rfl⟩:=hq;obtain rfl:u4=Value.none:=r4;have un3:Un (cj (envOfC qual scope s.heap.objs.size f cdv::outer)) [] H2 (upd H2 (s2.heap.objs.size+1) (om (s2.heap.objs.size+1) C s2.heap.objs.size)) s2.heap ((s2.heap.push {cls:=.type "tuple",data:=.seq #[u]}).push (newExc C s2.heap.objs.size none)):=Un.laid kp (aa7 _) fe;have My:=Mx (un3.trans RL) fe;obtain⟨go,_,_⟩:=hok4 (s2.heap.objs.size+1) _ af;have go:s4.heap.get? (s2.heap.objs.size+1)=some (newExc C s2.heap.objs.size (some dx)):=go;have I4:=I3.pJ (ch:=[]) (s':=s4) os4 RL hok4 Hx (λb z=>nomatch z);have eH:off (upd (upd (upd H2 (s2.heap.objs.size+1) (om (s2.heap.objs.size+1) C s2.heap.objs.size)) dx (.xd [(fl,v)])) (s2.heap.objs.size+1) (uu (s2.heap.objs.size+1) C s2.heap.objs.size dx)) (s2.heap.objs.size+1)=upd H2 dx (.xd [(fl,v)]):=by
    funext b
    by_cases hb:b=s2.heap.objs.size+1
    ·subst hb;rw[xG,aq (aaI hne),fe]
    ·rw[off_ne hb,aq hb];by_cases zB:b=dx
     ·subst zB;rw[af,af]
     ·rw[aq zB,aq hb,aq zB]
   rw[eH] at My;have UW:cG P w (upd H2 dx (.xd [(fl,v)])) s4.heap:=λb u' q=>by
    have hb:b≠s2.heap.objs.size+1:=λz=>by subst z;rw[aq (aaI hne),fe] at q;cases q
    have tr:∀c o,upd H2 dx (.xd [(fl,v)]) c=some o->(upd (upd (upd H2 (s2.heap.objs.size+1) (om (s2.heap.objs.size+1) C s2.heap.objs.size)) dx (.xd [(fl,v)])) (s2.heap.objs.size+1) (uu (s2.heap.objs.size+1) C s2.heap.objs.size dx)) c=some o:=λc o z=>by
     rw[<-eH] at z;by_cases hc:c=s2.heap.objs.size+1
     ·subst hc;rw[xG] at z;cases z
     ·rw[off_ne hc] at z;exact z
    refine(hok4 b u' (tr b u' q)).fO (λc o _ z=>z) (λc z=>?_) λc xs z=>?_
    ·have hc:c≠s2.heap.objs.size+1:=λy=>by subst y;rw[af] at z;cases z
     rw[<-eH,off_ne hc];exact z
    ·have hc:c≠s2.heap.objs.size+1:=λy=>by subst y;rw[af] at z;cases z
     rw[<-eH,off_ne hc];exact z
   refine⟨rfl,I4.bk _ _ hC,⟨_,_,go,rfl,rfl⟩,?_⟩;have hfr:(A.deeper (envOfC qual scope s.heap.objs.size f cdv)).frames=some (envOfC qual scope s.heap.objs.size f cdv::outer):=I2.ok.frames;have gK:∀env∈(envOfC qual scope s.heap.objs.size f cdv::outer),∀b,env.frame=some b->b∈(s2.heap.objs.size+1)::cj (envOfC qual scope s.heap.objs.size f cdv::outer):=λenv he b hb=>aae _ (abG.mpr ⟨env,he,hb⟩);show wpAny _ _ (leaving _ _) _ _ _
   have XH:s4.heap.FunFrames (PySem.W.hideAll s4.heap ((s2.heap.objs.size+1)::cj (envOfC qual scope s.heap.objs.size f cdv::outer))) (envOfC qual scope s.heap.objs.size f cdv::outer):=adY I4.stack gK;have Mz:(PySem.W.hideAll s4.heap ((s2.heap.objs.size+1)::cj (envOfC qual scope s.heap.objs.size f cdv::outer))).get? (s2.heap.objs.size+1)=none:=aef _ (.head _);refine wpAny_mono ((qE _ _).any (wpAny_leaving_firstW (a0:=.ref s2.heap.objs.size) (E:=λe' pQ=>bR P w outer H s E e' pQ) (Q:=λ_ s'=>∃h',s'={s4 with heap:=h' }/\Heap.LeftW (PySem.W.hideAll s4.heap ((s2.heap.objs.size+1)::cj (envOfC qual scope s.heap.objs.size f cdv::outer))) (envOfC qual scope s.heap.objs.size f cdv::outer) (s2.heap.objs.size+1) (.ref C) (.ref s2.heap.objs.size) s4.heap h') hfr XH rfl go (λb o q=>adj _ q) Mz rfl rfl rfl λh' hL=>⟨h',rfl,hL⟩)) (λ_ s5 ⟨⟨h',q5,hL⟩,dk⟩=>?_) λ_ _ z=>z.1;subst q5;obtain⟨l1,⟨_,_,l2⟩,l3,l4⟩:=hL;refine⟨_,.ref C,some dx,_,rfl,?_,gQ.by ⟨_,go,rfl⟩ dk,hE dx gX⟩;refine qY (s2:=s4) (a0:=.ref s2.heap.objs.size) I2 (os4.trans rfl) Hx My UW (by rw[aq (aaI hne)];exact fe) (λb o eb hh hb=>?_) ⟨l1,Mz,l2,l3⟩ λb hb o eb=>l4 b o eb ?_
   ·refine ac9 _ eb λz=>?_;rcases aah.mp z with z|z
    ·subst z;rcases hh with⟨q,hq⟩|⟨u',hu⟩
     ·exact absurd (aag hq) (adB.mpr (aa7 _))
     ·rw[aq (aaI hne),fe] at hu;cases hu
    ·exact hb z
   ·obtain⟨_,o',e',d⟩:=I4.stack.mem (show b∈(envOfC qual scope s.heap.objs.size f cdv::outer).filterMap (·.frame) from aae _ hb);rw[eb] at e';cases e';exact d
end
def Hy(X:Cx)(pins:List (Addr×Obj))(σ:L2.St)(R:XK)(e:Value)(s':Shared):Prop:=∃a cls od H1 s1 H',e=.ref a/\Inv X pins σ H1 s1/\Cg X.prog X.w X.stack H1 s1 H' a cls s'/\gQ s'.heap a od/\R cls od H'
def RM(X:Cx)(e:Expr)(tx:TX):Prop:=∀(pins:List (Addr×Obj)) (s:Shared) (σ:L2.St) (H:Hp) (Q:VK) (R:XK),Inv X pins σ H s->tx σ H Q R->wpAny (model X.prog X.w) X.A (eval e X.env) (EP X pins σ Q) (Hy X pins σ R) s
section
variable {X:Cx}{k:Nat}{f:Addr}{fd:FuncData}{ps:List Str}{sp:Sp}{dvs:List V}{ds:List Value}{x:Str}{p pos:Pos}{e:Expr}{es:List Expr}{tf:TE}{t:TA}
theorem JH{pins:List (Addr×Obj)}{σ:L2.St}{H:Hp}{s:Shared}{Q:VK}{R:XK}{us:List Value}{vs:List V}(F:ak X.prog X.w X.K X.mg X.base (bR X.prog X.w) k f fd ps sp)(hr:bW k X.A)(hb:Binds X.K fd ps ds)(hd:Vals dvs ds)
  (I:Inv X pins σ H s) (r:Vals vs us) (h:sp (vs++dvs) H Q R):wpAny (model X.prog X.w) X.A (call (.ref f) us) (EP X pins σ Q) (Hy X pins σ R) s:=by
 have r2:Vals (vs++dvs) (us++ds):=r.append hd;have hl:(us++ds).length=ps.length:=by rw[<-r2.length];exact F.len _ _ _ _ h
 refine acX (codeAny_mono (F.run X.A X.stack s H ⟨us,[]⟩ (us++ds) (vs++dvs) Q R hr I.Au (hb s us I.cD hl) r2 h) λr s' hq=>?_);cases r with
 |error e =>obtain⟨a,cls,od,H',rfl,fl,hd,hR⟩:=hq;exact⟨a,cls,od,H,s,H',rfl,I,fl,hd,hR⟩
 |ok fl=>
  cases fl with
  |ret u=>exact I.after hq
  |next=>exact False.elim hq
  |brk=>exact False.elim hq
  |cont=>exact False.elim hq
theorem hX(F:ak X.prog X.w X.K X.mg X.base (bR X.prog X.w) k f fd ps sp)(hr:bW k X.A)(hg:Gl X x)(hm:X.mg x=some (.ref f))(hk:PySem.W.keepIn X.K (.ref f)=true)(hb:Binds X.K fd ps ds)(hd:Vals dvs ds)
  (ha:∀xe,PA (X.fQ xe) (e::es) t) (hdb:(x==("__debug__" : Str))=false:=by decide) (he:starEach (e::es) X.env=(false,eval e X.env)::starEach es X.env:=by rfl) (hpl:(backTo pos (starEach es X.env)).any (·.1)=false:=by rfl) :
  RM X (.Call (.Name x p) (e::es) [] pos) (K7 sp dvs t):=by
 intro pins s σ H Q R I h;refine aa8 (gc I hg hm ?_ hdb);refine acr (h₀:=X.base) I.ok.mod.sI hk (aH (ha (Hy X pins σ R) pos pins s σ H _ (I.fQ _) h) λus s1 ⟨vs,H1,I1,r,q⟩=>⟨I1.dJ.cD,?_⟩) he hpl;exact JH F hr hb hd I1.dJ r q
end
section
variable {X:Cx}{pins:List (Addr×Obj)}{σ:L2.St}{H:Hp}{s:Shared}{a:Addr}
theorem Pp{φ ψ:Heap->Prop}(I:Inv X pins σ H s)(e:H a=some (.ext φ))(p:ψ s.heap)(st:∀h1 h2:Heap,ψ h1->(∀o,h1.get? a=some o->h2.get? a=some o)->ψ h2):Inv X pins σ (upd H a (.ext ψ)) s:=by
 obtain⟨_,th,_⟩:=I.aG a _ e;have na:∀b,H b=none->b≠a:=λb q z=>by rw[z,e] at q;cases q
 have ne:∀{b:Addr} {o:HO},H b=some o->o≠.ext φ->b≠a:=λq n z=>by rw[z,e] at q;exact n (aat q).symm
 refine I.un (h':=s.heap) (t':=s.toks) ⟨λb o q _ _ _=>q,λb o q _ _ _=>⟨o.slots,q⟩,λb o q n _=>by rw[aq (na b n)];exact n,λb o q _=>⟨o,q⟩,λb xs q=>?_,λb o u q=>?_,λb ps q=>⟨#[],?_⟩⟩ λb u q=>?_
 ·rw[aq (ne q (λz=>nomatch z))];exact q
 ·rw[aq (ne q (λz=>nomatch z))];exact q
 ·rw[aq (ne q (λz=>nomatch z)),aeK];exact q
 ·by_cases hb:b=a
  ·subst hb;rw[af] at q;cases q;exact⟨p,th,st⟩
  ·rw[aq hb] at q;refine(I.aG b u q).fO (λc v _ z=>z) (λc z=>?_) λc xs z=>?_
   ·rw[aq (ne z (λz=>nomatch z))];exact z
   ·rw[aq (ne z (λz=>nomatch z))];exact z
end
end L6
namespace L2
open PySem PySem.Spec PyProof.Rows L6
theorem aX.qF{CX:gj}{P:Program}{w:World}{K:PySem.W.Frag}{mg:Str->Option Value}{base:Heap}{x qual:Str}{st:Stmt}{f:Addr}{fd:FuncData}{N ps:List Str}{k:Nat}{sp:Sp}(F:aX K x qual st f fd)(S:aF N ps (ao st))(len:∀vs H Q E,sp vs H Q E->vs.length=ps.length)
  (hbody:∀(cdv:Value) (A:Around) (outer:List Env) (s:Shared) (H:Hp) (vs:List V) (Q:VK) (E:XK),bW k (A.deeper (envOfC qual (ao st) s.heap.objs.size f cdv))->sp vs H Q E ->
   ∃t,iq (cT CX P w K mg base N qual (ao st) f cdv A outer s H E) (cx st) t/\t {nx:=λ_ H'=>Q .aN H',rt:=Q} (start N vs) H):ak P w K mg base CX (k+1) f fd ps sp:=by
 obtain⟨oc,od,kV,doc,pm,an,cdv,ct,osl,rfl,lk,hcd⟩:=F.ex;exact Av lk hcd S len (hbody cdv)
end L2
namespace L6
open PySem PySem.Spec PyProof.Rows L2
end L6
namespace dO
open PySem PySem.Spec PyProof.Rows L2 L3
open Classical in
noncomputable def j0(ms:List Str)(ps:List (Str×Str))(ks:List Nat):Option (List Str):=((aK ms).find? λz=>decide ((cE (aK ms) (gr ps ks) z).length<(aK ms).length)).map λz=>cE (aK ms) (gr ps ks) z
theorem zD{α:Type}{p:α->Bool}:∀{l:List α} {i:Nat} {z:α},l[i]?=some z->p z=true->(∀a∈l.take i,p a=false)->l.find? p=some z
 |[],i,z,e,_,_=>by simp at e
 |x::l,0,z,e,hz,_=>by simp at e;subst e;rw[abI,hz]
 |x::l,i+1,z,e,hz,hb=>by have hx:p x=false:=hb x (by simp);rw[abI,hx];exact zD (l:=l) (i:=i) (by simpa using e) hz λa ha=>hb a (by simp[ha])
structure pf(ms:List Str)(ps:List (Str×Str))(ks:List Nat)(zs:List Str):Prop where
 nd:zs.Nodup
 up:aK zs=zs
 sub:∀z∈zs,z∈ms
 ne:0<zs.length
 lt:zs.length<ms.length
 out:∀p∈ps,p.1∈zs->p.2∈zs
 LM:∀k∈ks,∀p,ps[k]?=some p->p.2∈zs->p.1∈zs
theorem ph{ms:List Str}{ps:List (Str×Str)}{ks:List Nat}(nd:ms.Nodup):j0 ms ps ks=none ↔ Full ms ps ks:=by
 unfold j0;rw[ad2,adm];constructor
 ·intro h a ha b hb;refine aaF λn=>h a (bx.mpr ha) (decide_eq_true ((kQ (eY nd)).mpr ⟨b,bx.mpr hb,n⟩))
 ·intro f a ha q;obtain⟨b,hb,n⟩:=(kQ (eY nd)).mp (of_decide_eq_true q);exact n (f a (bx.mp ha) b (bx.mp hb))
theorem FU{ms:List Str}{ps:List (Str×Str)}{ks:List Nat}{zs:List Str}(nd:ms.Nodup)(ins:fb ms ps)(h:j0 ms ps ks=some zs):pf ms ps ks zs:=by
 unfold j0 at h;obtain⟨z,hz,rfl⟩:=aap.mp h;have hm:z∈ms:=bx.mp (adD hz);have hl:(cE (aK ms) (gr ps ks) z).length<(aK ms).length:=by have q:=afs hz;simpa using q
 have self:z∈cE (aK ms) (gr ps ks) z:=cg.mpr ⟨bx.mpr hm,.here _⟩;refine⟨vV (eY nd),?_,λy hy=>bx.mp (cg.mp hy).1,ab' self,by rw[cy] at hl;exact hl,λp hp h1=>?_,λk hk p e h2=>?_⟩
 ·unfold cE;rw[y6]
 ·exact cg.mpr ⟨bx.mpr (ins p hp).2,(cg.mp h1).2.on (by unfold gr;exact aax _ hp)⟩
 ·have hp:=aak e;refine cg.mpr ⟨bx.mpr (ins p hp).1,(cg.mp h2).2.on (by unfold gr;exact aaj _ (cC.mpr (hV.mpr ⟨k,hk,by rw[e]⟩)))⟩
def Told(H:Hp)(v:V):Option (List Str)->Prop
 |none=>v=.aN
 |some zs=>∃t,v=.ref t/\H t=some (.tup (zs.map V.str))
structure Pc(ms:List Str)(ps:List (Str×Str))(zs:List Str):Prop where
 nd:zs.Nodup
 up:aK zs=zs
 sub:∀z∈zs,z∈ms
 ne:0<zs.length
 lt:zs.length<ms.length
 RN:∀p∈ps,p.1∈zs ↔ p.2∈zs
def qG(ms:List Str)(ps:List (Str×Str))(zs:List Str):Prop:=(∃z∈aK ms,zs=comp (aK ms) ps z)/\∀z∈aK ms,cO (comp (aK ms) ps z) zs=false
theorem qG.pc{ms:List Str}{ps:List (Str×Str)}{zs:List Str}(g:GoodW ms ps)(h:¬ cw ms ps)(a:qG ms ps zs):Pc ms ps zs:=by
 obtain⟨⟨z,hz,rfl⟩,_⟩:=a;have nS:=eY g.good.nd;have e:comp (aK ms) ps z=cE (aK ms) (cF ps) z:=by unfold comp;rw[kM g.uf]
 rw[e];have self:z∈cE (aK ms) (cF ps) z:=cg.mpr ⟨hz,.here _⟩;refine⟨vV nS,by unfold cE;rw[y6],λy hy=>bx.mp (cg.mp hy).1,ab' self,?_,λp hp=>⟨λq=>?_,λq=>?_⟩⟩
 ·have:(cE (aK ms) (cF ps) z).length<(aK ms).length:=by refine(kQ nS).mpr (aaF λn=>h λa ha b hb=>?_);have al:∀b∈ms,bP (cF ps) z b:=λb hb=>aaF λm=>n ⟨b,bx.mpr hb,m⟩;exact(o8 (al a ha)).trans (al b hb)
  rw[cy] at this;exact this
 ·exact cg.mpr ⟨bx.mpr (g.ins p hp).2,(cg.mp q).2.on (by unfold cF;exact aax _ hp)⟩
 ·exact cg.mpr ⟨bx.mpr (g.ins p hp).1,(cg.mp q).2.on (by unfold cF;exact aaj _ (cC.mpr hp))⟩
theorem zm.least{ms:List Str}{ps:List (Str×Str)}{q:Addr×List Str}{qs:List (Addr×List Str)}(p:zm (aK ms) ps (q::qs)):qG ms ps q.2:=by
 refine⟨(p.mem q.2).mp (by simp),λz hz=>?_⟩;have hm:=(p.mem (comp (aK ms) ps z)).mpr ⟨z,hz,rfl⟩;rw[aaE,aah] at hm;rcases hm with e|e
 ·rw[e];exact kJ _
 ·obtain⟨r,hr,er⟩:=aaK.mp e;rw[<-er];exact(abT.mp p.up).1 r hr
theorem DD{ns:List Str}{ps:List (Str×Str)}(g:GoodW ns ps){qs:List (Addr×List Str)}(p:zm (aK ns) ps qs)(h:qs.length=1):cw ns ps:=by
 obtain⟨q,rfl⟩:∃q,qs=[q]:=by
  cases qs with
  |nil=>simp at h
  |cons q r=>cases r with
   |nil=>exact⟨q,rfl⟩
   |cons _ _=>simp at h
 have one:∀z∈aK ns,comp (aK ns) ps z=q.2:=λz hz=>by
  have:=(p.mem _).mpr ⟨z,hz,rfl⟩
  simpa using this
 intro a ha b hb;have MB:b∈comp (aK ns) ps a:=by rw[one a (bx.mpr ha),<-one b (bx.mpr hb)];exact ue (bx.mpr hb)
 unfold comp at MB;rw[kM g.uf] at MB;exact(cg.mp MB).2
def je(K:PySem.W.Frag)(H:Hp)(x:V):Prop:=(∃i:Int,x=.int i)\/∃t b1 b2,cn K H x t/\PySem.W.kitOne K t (.type "int")=some b1/\PySem.W.kitOne K t (.type "bool")=some b2/\(b1&&!b2)=false/\∀i:Int,x≠.int i
def okN(n:Nat):V->Bool
 |.int i=>decide (0<=i)&&decide (i<n)
 |_=>false
def iO(K:PySem.W.Frag)(H:Hp)(n:Nat)(y:V):Prop:=
 (∃t,cn K H y t/\PySem.W.kitOne K t (.type "list")=some false) \/
 ∃a xs,y=.ref a/\H a=some (.lst xs)/\xs.length<=100/\(∀x∈xs,je K H x)/\(xs.length<=n->xs.all (okN n)=true->∃ks:List Nat,xs=nV ks/\¬ ks.Pairwise (· < ·))
theorem je.same{K:PySem.W.Frag}{H H':Hp}{x:V}(h:je K H x)(s:av H H'):je K H' x:=h.imp id λ⟨t,b1,b2,ty,r⟩=>⟨t,b1,b2,cn.same s ty,r⟩
theorem iO.same{K:PySem.W.Frag}{H H':Hp}{n:Nat}{y:V}(h:iO K H n y)(s:av H H'):iO K H' n y:=by
 rcases h with⟨t,ty,e⟩|⟨a,xs,e,ha,l,it,r⟩
 ·exact .inl ⟨t,cn.same s ty,e⟩
 ·exact .inr ⟨a,xs,e,s _ _ ha,l,λx hx=>(it x hx).same s,r⟩
theorem JI{zs ms:List Int}(pm:ms.Perm (bG zs))(up:ms.Pairwise (·<=·))(e:zs=ms):zs.Pairwise (· < ·):=by subst e;have nd:zs.Nodup:=pm.nodup_iff.mpr (oY zs);exact(up.and nd).imp λ{a b} h=>by omega
section
variable {P:Program}{w:World}{K:PySem.W.Frag}{mg:Str->Option Value}{base:Heap}
variable {C E1 fP fM fT fS iN lA DG ZH ZI ZJ:Addr}{fdP gx fc e6 fh iK xH Zf Zg Zh:FuncData}
def MC(C:Addr):Sp:=λvs H Q _=>∃(x:Addr) (y:V) (ns:List Str) (ps:List (Str×Str)),vs=[.ref x,y]/\bq C H x ns ps/\ps.length<=30/\iO K H ps.length y/\∀H',av H H'->Q (.bl false) H'
theorem JJ{f:Addr}{fd:FuncData}(F:aX K "are_ties" "are_ties" mG f fd)(M:Mh K mg C E1 fP fM fT fS iN fdP gx fc e6 fh)(T:bK mg):ak P w K mg base aD 2 f fd qy (MC (K:=K) C):=by
 have GM:ak P w K mg base aD 1 fM gx ["self"] (E3 C):=y3 M.mF M.m.wc T;have GW:ak P w K mg base aD 1 iN fh ["thing"] (ng (K:=K)):=oQ M.wh.fn T;refine F.ok Mc (λvs H Q E h=>?_) (λcdv A outer s H vs Q E hr h=>?_)
 ·obtain⟨x,y,ns,ps,rfl,_⟩:=h;rfl
 ·obtain⟨x,y,ns,ps,rfl,hW,fE,odd,k⟩:=h;refine⟨_,aj (ba (PW.pt (dA (bp (bg (ay (bO (T:="list")) (by rfl) T.cf aaM (aa (pv 1) (aa (cq (v:=.ty "list") rfl T.list aaS rfl) ae))) (λ_=>rfl)))
    (de (aS mV (ay aE (by rfl) T.len aav (aa (pv 1) ae)) (dg (pv 0) M.m.wc.cl M.mM GM hr M.mB .nil aA) (aU _))))) (ai (aB bS)) aR)
   (aj (ba (bp (bg (ay (fU rfl) (by rfl) T.all adg (aa (cV ["k"] [0] rfl (bQ (osc:=(ao mG).names) (N:=qy) rfl rfl (by decide +kernel)) (bJ (by decide)) (bh (pv 1))
     (λ_ _ _=>aI (i:=0) (show(["k","web"]:List Str).Nodup by decide +kernel) rfl (Or.inl rfl)) (λ_ _ _=>bT)
     (λ_ _ _=>eM (aw GW hr rfl M.wh.aO M.wh.fn.kp M.wh.b .nil aA (aa (pv 0) ae)) (fk (oG kf ic ax (pv 0) (dg (pv 1) M.m.wc.cl M.mM GM hr M.mB .nil aA))))) ae)) (λ_=>rfl))) (ai (aB bS)) aR)
   (ai (aB (cP (kB (low 0 hr)) (pv 1) (ay (lu rfl) (by rfl) T.sorted acK (aa (bD (qu rfl) (by rfl) T.set acf (aa (pv 1) ae)) ae)) (aU _))))),?_⟩
  try rw[bu]
  have big:1000<=sizeLine:=by decide
  obtain⟨d1,f1,q1,r1⟩:=hW.ja "many";rcases odd with⟨t,ty,e⟩|⟨l,xs,rfl,hl,aJ,its,last⟩
  ·exact⟨_,rfl,_,_,false,rfl,ty,e,_,rfl,bt (bt (k H (av.refl _)))⟩
  refine⟨_,rfl,_,_,true,rfl,.lst hl,rfl,_,rfl,aP ?_⟩;refine⟨_,rfl,l,_,rfl,.inl (ar.of hl),_,rfl,x,d1,f1,rfl,q1,r1,x,ns,ps,rfl,hW,_,_,rfl,rfl,_,rfl,?_⟩;refine cS (λ_=>k H (av.refl _)) (λc=>?_);have len:xs.length<=ps.length:=by refine acR λz=>c (decide_eq_true ?_);omega
  refine⟨_,rfl,l,rfl,⟨_,ar.of hl⟩,cu (K:=K) (xs:=xs) (λi ys HH=>HH=H/\ys=((xs.take i).map (okN ps.length)).map V.bl) ⟨rfl,rfl⟩ ?_ ?_ ?_ ?_⟩
  ·rintro i ys HH hi ⟨_,rfl⟩;rw[aaa,aaa,aaP];omega
  ·rintro i ys HH _ ⟨rfl,_⟩;exact ar.of hl
  ·rintro i v ys HH R hv ⟨rfl,rfl⟩ kR;have hx:=its v (aak hv);have fin:((xs.take (i+1)).map (okN ps.length)).map V.bl=((xs.take i).map (okN ps.length)).map V.bl++[V.bl (okN ps.length v)]:=by rw[aaC,hv,aaN,aaN];rfl
   simp only[bF,dN,aa3];rcases hx with⟨n,rfl⟩|⟨t,b1,b2,ty,e1,e2,e3,ni⟩
   ·refine⟨_,rfl,_,_,true,false,rfl,.int _,rfl,rfl,_,rfl,bt ?_⟩;refine⟨_,rfl,_,_,rfl,rfl,_,rfl,?_⟩;refine cS (λc0=>?_) (λc0=>?_)
    ·refine⟨_,rfl,x,d1,f1,rfl,q1,r1,x,ns,ps,rfl,hW,_,_,rfl,rfl,?_⟩;refine kR _ _ ⟨rfl,?_⟩;rw[fin];congr 2;show _=V.bl (decide (0<=n)&&decide (n<(ps.length:Int)))
     rw[show decide (0<=n)=true from c0,ab6]
    ·refine kR _ _ ⟨rfl,?_⟩;rw[fin];congr 2;show _=V.bl (decide (0<=n)&&decide (n<(ps.length:Int)))
     have:decide (0<=n)=false:=by simpa using c0
     rw[this];simp
   ·refine⟨_,rfl,_,_,b1,b2,rfl,ty,e1,e2,_,rfl,?_⟩;rw[e3];refine aP (kR _ _ ⟨rfl,?_⟩);rw[fin];congr 2;cases v with
    |int i=>exact(ni i rfl).elim
    |_=>rfl
  rintro ys HH ⟨rfl,rfl⟩ D nD;rw[abb];have sD:=ag (o:=.lst ((xs.map (okN ps.length)).map V.bl)) nD;refine⟨D,_,rfl,ar.of af,_,rfl,?_⟩;have ea:(xs.map (okN ps.length)).all id=xs.all (okN ps.length):=by rw[acu];rfl
  rw[ea];cases al:xs.all (okN ps.length) with
  |false=>exact bt (k _ sD)
  |true=>
   obtain⟨ks,rfl,nr⟩:=last len al;rw[bN] at len;refine aP ⟨_,rfl,_,rfl,l,ks.map λ(k:Nat)=>(k:Int),rfl,?_,by rw[aaa];unfold scanBound;omega,λq nq=>?_⟩
   ·have eK:(ks.map λ(k:Nat)=>(k:Int)).map V.int=nV ks:=by rw[abD];rfl
    rw[eK];exact ar.of (sD _ _ hl)
   have sq:=sD.trans (ag (o:=oZ P w q (ks.map λ(k:Nat)=>(k:Int))) nq);refine⟨q,ks.map λ(k:Nat)=>(k:Int),rfl,af,by rw[aaa];omega,λr ms XI pm up=>?_⟩;have sr:=sq.trans (ag (o:=.lst (ms.map V.int)) XI);refine⟨l,r,_,_,rfl,rfl,.inl ⟨ar.of (sr _ _ hl),ar.of af⟩,by simp[nV,cQ],by simp[cQ],?_⟩;have e4:hG (nV ks) (ms.map V.int)=false:=by rw[show nV ks=(ks.map λ(k:Nat)=>(k:Int)).map V.int by rw[abD];rfl,oR,decide_eq_false_iff_not];intro e;have Mb:=JI pm up e;exact nr ((acd.mp Mb).imp λ{a b} h=>by omega)
   rw[e4];exact k _ sr
end
end dO
namespace L2
open PySem PySem.Spec PyProof.Rows
theorem xI{xs:List V}{us:List Value}(h:Vals xs us):Vals xs.reverse us.reverse:=by
 induction h with
 |nil=>exact .nil
 |cons r t ih=>rw[ae0,ae0];exact ih.append (.cons r .nil)
def Pq(K:PySem.W.Frag)(te:TE)(t3:TO):TE:=λσ H Q=>te σ H λx H1=>t3 σ H1 λo H2=>∃a xs,o=some (-1)/\x=.ref a/\ar K H2 a xs/\∀p,H2 p=none->Q (.ref p) (upd H2 p (.lst xs.reverse))
section
variable {X:Cx}
theorem JK{e st:Expr}{te:TE}{t3:TO}{p2 pos:Pos}(he:PE X e te)(hs:PO X (some st) t3)(mh:∀a b,∃ops,subscripted (.Slice none none (some st) p2) false a b=operate ops (getItem a b):=by intro a b;exact⟨_,rfl⟩):PE X (.Subscript e (.Slice none none (some st) p2) pos) (Pq X.K te t3):=by
 intro pins s σ H Q I h;refine aeh (aH (he pins s σ H _ I h) λv s1 ⟨x,H1,I1,r1,q1⟩=>?_);refine wpAny_Slice ?_;rw[aen];refine wpAny_pure (wpAny_pure (aH (hs pins s1 σ H1 _ I1 q1) λvs s2 ⟨o,H2,I2,pl,q2⟩=>?_));obtain⟨a,xs,rfl,rfl,hx,q⟩:=q2;cases r1;have I3:Inv X pins σ H2 {s2 with heap:=s2.heap.push {cls:=.type "slice",data:=.fields #[.none,.none,vs]} }:=I2.kept (t':=s2.toks) λb ob q=>aab _ q;obtain⟨its,r,ht,hz⟩:=I3.list hx;have hlen:=r.length;show wpAny (model X.prog X.w) X.A (subscriptTail e (.Slice none none (some st) p2) (.ref a) (.ref s2.heap.objs.size)) (EP X pins σ Q) X.xe {s2 with heap:=s2.heap.push {cls:=.type "slice",data:=.fields #[.none,.none,vs]} }
 obtain⟨ops,eo⟩:=mh (.ref a) (.ref s2.heap.objs.size);refine af2 (ops:=ops) ht.isList.typeIs slot_list_getitem.lookup ?_ eo;refine adG ht.isList (aeC ..) .none .none pl (by simp) ?_ (by rw[aai]<;>omega);rw[PySem.W.krv_pick];refine⟨.ref _,_,I3.laid (t':=s2.toks) (o:=.lst xs.reverse) (λb ob q=>aab _ q) (aac _) ?_,rfl,q _ (I3.aG.fresh (aac _))⟩;exact⟨by rw[abQ];exact hz,_,0,xI r,aaq _ rfl⟩
end
section
variable {prog:Program}{w:World}{A:Around}{E:Value->Shared->Prop}{s:Shared}
theorem FV{r:Addr}{Q:Bool->Shared->Prop}(hT:s.TypeIs (.ref r) "list_reverseiterator")(h:Q false s):wpAny (model prog w) A (Builtin.List.listLengthHint (.ref r)) Q E s:=by
 unfold Builtin.List.listLengthHint;refine wpAny_bind (wpAny_specialOf (r:=none) hT (by kernel_rfl) ?_);wp_delta
 refine abB (λjA=>absurd jA (by decide)) (λ_=>?_);refine abB (λjA=>absurd jA (by decide)) (λ_=>?_);refine wpAny_bind (wpAny_specialOf (r:=some (.builtin "list_reverseiterator.__length_hint__")) hT (by kernel_rfl) ?_);generalize CS:("list_reverseiterator.__length_hint__" : String)=Ls;wp_delta
 rw[show splitId Ls=some ("list_reverseiterator","__length_hint__") from by subst CS;decide +kernel];subst CS;refine wpAny_bind (wpAny_isInstance (T:="list_reverseiterator") (b:=true) hT (by rw[ach];kernel_rfl) ?_);refine abB (λjA=>absurd jA (by decide)) (λ_=>?_);refine abB (λ_=>?_) (λjA=>absurd (by decide +kernel) jA);refine abB (λjA=>absurd jA (by decide +kernel)) (λ_=>?_);exact wpAny_pure h
theorem Bc{I l L:Addr}{items:Array Value}{R:Result->Shared->Prop}(hh:A.handled=none)(hl:s.heap.IsList l items)(hI:s.heap.IsRevIter I l ((items.size:Int)-1))(ne:l≠I)(small:items.size<=sizeLine)(hLI:L≠I)(hLl:L≠l)(res:Value)(c₀:Nat)(hL:s.heap.get? L=some {cls:=.type "list",data:=.seq #[] c₀})
  (hR:∀h' tk acc' c',(∀b o,b≠L->b≠I->s.heap.get? b=some o->h'.get? b=some o)->h'.get? L=some {cls:=.type "list",dict:=none,data:=.seq acc' c',slots:=#[]}->acc'.toList=items.toList.reverse->R (.ok (.ret res)) {s with heap:=h',toks:=tk}) :
  wpAny (model prog w) A.in1 (Builtin.List.listExtendWith (.ref L) (.ref I) res)
   (λfin s'=>match fin with|.done f=>R (.ok f) s'|.again c'=>c'.quiet=true/\codeAny (model prog w) A c' R s') (λe s'=>R (.error e) s') s:=by
 have ty:s.TypeIs (.ref I) "list_reverseiterator" := hI.typeIs;have W1:=(Walks.listRev (prog:=prog) (w:=w) (A:=A.in1) (by simpa using hh) I l ne items).toS;unfold Builtin.List.listExtendWith;refine wpAny_bind (wpAny_typeOf (T:="list_reverseiterator") ty ?_);have h1:Builtin.List.listSameRef (.ref L) (.ref I)=false:=by simp[Builtin.List.listSameRef,hLI]
 have n1:(Value.type "list_reverseiterator"==Value.type "list")=false:=by decide
 have n2:(Value.type "list_reverseiterator"==Value.type "tuple")=false:=by decide
 simp only[h1,n1,n2,aeo,aaz,aa9];refine wpAny_bind (W1.self 0 s _ _ ⟨aaG _,by simpa using hI,hl⟩ ?_);have hLf:L∉[I,l]:=by simp only[aah,ab4,or_false,not_or];exact⟨hLI,hLl⟩
 have key:∀(h:Heap) (c₁ tk:Nat),(h.IsRevIter I l ((items.size:Int)-1)/\h.IsList l items)->(∀b o,b≠L->s.heap.get? b=some o->h.get? b=some o) ->
   h.get? L=some {cls:=.type "list",data:=.seq #[] c₁}->codeAny (model prog w) A (.builtin "list.extend.loop" ⟨[.ref L,.ref I,res],[]⟩) R {s with heap:=h,toks:=tk}:=by
  intro h c₁ tk hst hk wC;refine aek W1 small L hLf res items.size 0 _ #[] c₁ rfl (aaG _) ⟨aaG _,by simpa using hst.1,hst.2⟩ wC (af9 _) λs' acc' c' hm mf e5=>?_;obtain⟨h2,g2,d2,t2,o2⟩:=s';cases (show g2=s.gens from hm.gens);cases (show d2=s.drawn from hm.drawn);cases (show o2=s.os from hm.os);refine hR h2 t2 acc' c' (λb o hb XJ e=>hm.heap b o (λhmem=>?_) (hk b o hb e)) mf ?_
  ·rcases aah.mp hmem with e'|hmem
   ·exact hb e'
   ·exact XJ (aaf.mp hmem)
  ·refine adz λj=>?_;by_cases hj:j<items.size
   ·have l1:j<acc'.size:=by rw[e5.1];exact hj
    have e1:acc'[j]?=some acc'[j]:=by simp[l1]
    have e2:=e5.2 j _ e1;rw[List.getElem?_reverse (by simpa using hj),aau,aaO,aaO,e1];exact(show items[items.size-1-j]?=some acc'[j] from e2).symm
   ·rw[abl (by rw[aau,e5.1];omega),abl (by rw[abQ,aau];omega)]
 refine wpAny_bind (wpAny_holding (FV ty ?_));refine abB (λjA=>?_) (λ_=>wpAny_pure ⟨abO ab2 _,key _ c₀ _ ⟨hI,hl⟩ (λb o _ e=>e) hL⟩);refine wpAny_bind (wpAny_rule ?_);refine wpAny_bind ?_;show wpAny _ _ (updateSeq L (·.push .none)>>=λ_=>updateSeq L (·.pop)) _ _ _
 refine wpAny_bind (wpAny_updateSeq hL rfl ?_);have CT:=aaZ (Obj.mapSeq (·.push Value.none)) hL rfl;refine wpAny_updateSeq (hz:=by seq_fits) CT rfl ?_;have Lu:=aaZ (Obj.mapSeq (·.pop)) CT rfl;have oth:∀b o,b≠L->s.heap.get? b=some o->((s.heap.update L (Obj.mapSeq (·.push Value.none))).update L (Obj.mapSeq (·.pop))).get? b=some o:=λb o hb e =>(aaQ _ _ (aaI hb)).trans ((aaQ _ _ (aaI hb)).trans e)
 refine wpAny_pure ⟨abO ab2 _,key _ _ _ ⟨hI.at λo e=>oth _ _ (aaI hLI) e,?_⟩ oth Lu⟩;obtain⟨o,e1,e2⟩:=hl;exact⟨o,oth _ _ (aaI hLl) e1,e2⟩
theorem uH{I l:Addr}{items:Array Value}{Q:Value->Shared->Prop}(hh:A.handled=none)(hl:s.heap.IsList l items)(hI:s.heap.IsRevIter I l ((items.size:Int)-1))(ne:l≠I)(small:items.size<=sizeLine)
  (h:∀h' tk acc' c',(∀b o,b≠I->s.heap.get? b=some o->h'.get? b=some o)->h'.get? s.heap.objs.size=some {cls:=.type "list",dict:=none,data:=.seq acc' c',slots:=#[]}->acc'.toList=items.toList.reverse->Q (.ref s.heap.objs.size) {s with heap:=h',toks:=tk}) :
  wpAny (model prog w) A (call (.type "list") [.ref I]) Q E s:=by
 refine callType_codes (Q₁:=λobj s₁=>obj=.ref s.heap.objs.size/\s₁={s with heap:=s.heap.push {cls:=.type "list",data:=.seq #[]} }) F.called_list (F.typeCall_list_1 _) F.entry_list_init (code_list_new _ ⟨rfl,rfl⟩) ?_;rintro obj s₁ ⟨rfl,rfl⟩;have hL:(s.heap.push {cls:=.type "list",data:=.seq #[]}).get? s.heap.objs.size=some (seqObj "list" #[] 0):=aaq _ rfl;have kp:∀b o,s.heap.get? b=some o->(s.heap.push {cls:=.type "list",data:=.seq #[]}).get? b=some o:=λb o e=>aab _ e;obtain⟨ol,e1,e2⟩:=id hl;obtain⟨oi,e3,e4⟩:=id hI;have nl:s.heap.objs.size≠l:=abS (aag e1);have nI:s.heap.objs.size≠I:=abS (aag e3);refine⟨⟨_,hL,rfl⟩,F.args_list_init_2 _ _,?_⟩;unfold Builtin.«list.__init__»;dsimp only;simp only[adL,ab0,aaz,aa9,aaH,abJ,abK,aaV,gt_iff_lt];refine wpAny_bind (listItems_at hL rfl ?_);refine wpAny_bind (listUpdate_at hL rfl ?_);have RO:=ac7 hL (λ_=>#[]);have kp2:∀b o,s.heap.get? b=some o->((s.heap.push {cls:=.type "list",data:=.seq #[]}).update s.heap.objs.size (Obj.mapSeq λ_=>#[])).get? b=some o:=λb o e=>(aaQ _ _ (abS (aag e))).trans (kp b o e);generalize (s.heap.push {cls:=.type "list",data:=.seq #[]}).update s.heap.objs.size (Obj.mapSeq λ_=>#[])=h2 at RO kp2⊢;show wpAny _ _ (pure ()>>=λ_=>_) _ _ _
 refine wpAny_bind (wpAny_pure ?_);refine Bc (A:=A.in1) (s:={s with heap:=h2}) (by simpa using hh) ⟨ol,kp2 _ _ e1,e2⟩ ⟨oi,kp2 _ _ e3,e4⟩ ne small nI nl .none _ RO λh' tk acc' c' k mf er=>?_;exact⟨rfl,h h' tk acc' c' (λb o hb e=>k b o (aar (aag e)) hb (kp2 b o e)) mf er⟩
end
def FW(K:PySem.W.Frag)(ta:TA):TE:=λσ H Q=>ta σ H λvs H1=>∃a xs,vs=[.ref a]/\ar K H1 a xs/\xs.length<=1000/\∀l,H1 l=none->Q (.ref l) (upd H1 l (.lst xs.reverse))
theorem yA{X:Cx}{a:Expr}{ta:TA}{p p2 pos g9:Pos}(hc:X.calm=true)(hgl:Gl X "list")(hml:X.mg "list" = none)(hg:Gl X "reversed")(hm:X.mg "reversed" = none)(ha:PA X [a] ta)(hs:starEach [a] X.env=[(false,eval a X.env)]:=by rfl)
  (hs2:starEach [.Call (.Name "reversed" p2) [a] [] g9] X.env=[(false,eval (.Call (.Name "reversed" p2) [a] [] g9) X.env)]:=by rfl):PE X (.Call (.Name "list" p) [.Call (.Name "reversed" p2) [a] [] g9] [] pos) (FW X.K ta):=by
 intro pins s σ H Q I h;refine aa8 (d7 I hgl hml aaS ?_);refine aa0 ?_ hs2 rfl;rw[hs2];show wpAny _ _ (spliced ((false,eval _ X.env)::[])) _ _ s
 refine acq ?_;refine aa8 (d7 I hg hm afE ?_);refine aa0 (aH (ha g9 pins s σ H _ I h) λus s1 ⟨vs,H1,I1,r1,q1⟩=>?_) hs rfl;obtain⟨l,xs,rfl,hx,hn,q⟩:=q1;obtain⟨u,rfl,rx⟩:=vals1 r1;cases rx;obtain⟨its,r,ht,hz⟩:=I1.list hx;have hlen:=r.length;refine call_reversed_list ht.isList ?_;refine acE ?_;have I2:Inv X pins σ H1 {s1 with heap:=s1.heap.push (revObj l ((its.toArray.size:Int)-1))}:=I1.kept (t':=s1.toks) λb o e=>aab _ e;obtain⟨o,e1,e2⟩:=id ht.isList;have ne:l≠s1.heap.objs.size:=aar (aag e1);refine uH (I:=s1.heap.objs.size) (l:=l) (items:=its.toArray) (I2.ok.hd hc) ⟨o,aab _ e1,e2⟩ ⟨_,aaq _ rfl,rfl,rfl⟩ ne (by rw[aai,<-hlen];exact hz) λh' tk acc c' hk hS he=>?_;refine⟨.ref _,_,Inv.laid (s:=s1) (t':=tk) (o:=.lst xs.reverse) I1 (λb o e=>hk b o (aar (aag e)) (aab _ e)) ?_ ?_,rfl,q _ (I2.aG.fresh (aac _))⟩
 ·exact aaU (aag (aaq _ rfl))
 ·refine⟨by rw[abQ];exact hz,its.reverse,c',xI r,?_⟩
  have:acc=its.reverse.toArray:=by apply abR.mp;rw[he]
  rw[<-this];exact hS
end L2
namespace dO
open PySem PySem.Spec PyProof.Rows L2 L3
abbrev xJ:Stmt:=top 59 -- UX
theorem cn.but{K:PySem.W.Frag}{H H':Hp}{p:Addr}{y:V}{t:Value}(ty:cn K H y t)(s:bM p H H')(r:∃xs,H p=some (.lst xs))(r':∃xs,H' p=some (.lst xs)):cn K H' y t:=by
 obtain⟨a,hp⟩:=r;obtain⟨a',XM⟩:=r';have ne:∀{c:Addr} {o:HO},H c=some o->(∀xs,o≠.lst xs)->c≠p:=λ{c o} q n z=>by rw[z,hp] at q;cases q;exact n _ rfl
 cases ty with
 |aN=>exact .aN
 |bl x=>exact .bl x
 |int i=>exact .int i
 |str x=>exact .str x
 |lD x=>exact .lD x
 |@lst c xs q=>
  by_cases hc:c=p
  ·subst hc;exact .lst XM
  ·exact .lst (s _ _ q hc)
 |gD q=>exact .gD (s _ _ q (ne q λ_ z=>nomatch z))
 |tup q=>exact .tup (s _ _ q (ne q λ_ z=>nomatch z))
 |dK q=>exact .dK (s _ _ q (ne q λ_ z=>nomatch z))
 |dT q=>exact .dT (s _ _ q (ne q λ_ z=>nomatch z))
 |ins q c d f g h=>exact .ins (s _ _ q (ne q λ_ z=>nomatch z)) c d f g h
theorem je.but{K:PySem.W.Frag}{H H':Hp}{p:Addr}{x:V}(h:je K H x)(s:bM p H H')(r:∃xs,H p=some (.lst xs))(r':∃xs,H' p=some (.lst xs)):je K H' x:=h.imp id λ⟨t,b1,b2,ty,q⟩=>⟨t,b1,b2,cn.but ty s r r',q⟩
theorem iO.but{K:PySem.W.Frag}{H H':Hp}{p:Addr}{n:Nat}{y:V}(h:iO K H n y)(ne:y≠.ref p)(s:bM p H H')(r:∃xs,H p=some (.lst xs))(r':∃xs,H' p=some (.lst xs)):iO K H' n y:=by
 rcases h with⟨t,ty,e⟩|⟨a,xs,rfl,ha,l,it,q⟩
 ·exact .inl ⟨t,cn.but ty s r r',e⟩
 ·exact .inr ⟨a,xs,rfl,s _ _ ha λz=>ne (by rw[z]),l,λx hx=>(it x hx).but s r r',q⟩
theorem e7{K:PySem.W.Frag}{H:Hp}{n:Nat}{a:Addr}{xs:List V}(h:H a=some (.lst xs))(l:xs.length<=100)(it:∀x∈xs,je K H x){x:V}(hx:x∈xs)(bad:okN n x=false):iO K H n (.ref a):=
 .inr ⟨a,xs,rfl,h,l,it,λ_ al=>by rw[abF.mp al x hx] at bad;cases bad⟩
theorem iA{K:PySem.W.Frag}{H:Hp}{i:Int}:je K H (.int i):=.inl ⟨i,rfl⟩
theorem kW{K:PySem.W.Frag}{H:Hp}{ks:List Nat}:∀x∈nV ks,je K H x:=λx hx=>by obtain⟨k,_,rfl⟩:=aaK.mp hx;exact iA
theorem qH{n:Nat}{i:Int}(h:(n:Int)<=i):okN n (.int i)=false:=by
 show(decide (0<=i)&&decide (i<(n:Int)))=false
 rw[aaA (show ¬ i<(n:Int) by omega),acC]
theorem JL{xs:List V}{lo hi:Option Int}{x:V}(h:x∈eE xs lo hi):x∈xs:=aem (ael h)
theorem UY{K:PySem.W.Frag}{G:Hp}{p d0 t0 t1 l2 l4 l5 l6 l7 l8 t2 l9 gB cX cY gC gY:Addr}{ks:List Nat}{n:Nat}(aJ:ks.length<=30)(hd0:G d0=some (.dK []))(ht0:G t0=some (.tup []))(ht1:G t1=some (.tup (nV ks)))(hl2:G l2=some (.lst (nV ks++[V.int (n:Int)])))(hl4:G l4=some (.lst ([V.int (-1)]++nV ks)))
  (hl5:G l5=some (.lst [V.aN])) (hl6:G l6=some (.lst [V.bl true])) (hl7:G l7=some (.lst [V.int 0])) (hl8:G l8=some (.lst [V.ref l7])) (ht2:G t2=some (.tup [V.int 0,V.int 1])) (hl9:G l9=some (.lst [V.ref t2])) (hl11:G gB=some (.lst (nV ks++[V.str "0"])))
  (hl12:G cX=some (.lst [V.int ((n:Int)-1),V.int ((n:Int)-1)])) (hl13:G cY=some (.lst [V.int (n:Int),V.int 0])) (hl17:G gC=some (.lst (nV ks++eE (nV ks) (some (-1)) none++[V.int (n:Int)]))) (hl20:G gY=some (.lst ((nV ks).reverse++[V.int ((n:Int)+5)])))
  (a1:d0≠p) (a2:t0≠p) (a3:t1≠p) (a4:l2≠p) (a5:l4≠p) (a6:l5≠p) (a7:l6≠p) (a8:l8≠p) (a9:l9≠p) (a10:gB≠p) (a11:cX≠p) (a12:cY≠p) (a13:gC≠p) (a14:gY≠p) :
  ∀v∈([V.aN,V.int 7,V.str "0",V.bl true,V.ref d0,V.ref t0,V.ref t1,V.ref l2,V.ref l4,V.ref l5,V.ref l6,V.ref l8,V.ref l9]++[V.ref gB,V.ref cX,V.ref cY,V.ref gC]++[V.ref gY]),iO K G n v/\v≠.ref p:=by
 have lk:=bN ks;have app:∀{xs:List V} {z:V},(∀x∈xs,je K G x)->je K G z->∀x∈xs++[z],je K G x:=λh hz x hx=>(aas.mp hx).elim (h x) λe=>by rw[aaf.mp e];exact hz
 have sg:∀{z:V},je K G z->∀x∈[z],je K G x:=λhz x hx=>by rw[aaf.mp hx];exact hz
 have Hz:∀{xs:List V} {z:V},z∈xs++[z]:=aaj _ (aaf.mpr rfl);have nr:∀{a:Addr},a≠p->V.ref a≠.ref p:=λh e=>h (by injection e);intro v hv;simp only[List.cons_append,List.nil_append,aah,ab4,or_false] at hv;rcases hv with rfl|rfl|rfl|rfl|rfl|rfl|rfl|rfl|rfl|rfl|rfl|rfl|rfl|rfl|rfl|rfl|rfl|rfl
 ·exact⟨.inl ⟨_,.aN,rfl⟩,λz=>nomatch z⟩
 ·exact⟨.inl ⟨_,.int _,rfl⟩,λz=>nomatch z⟩
 ·exact⟨.inl ⟨_,.str _,rfl⟩,λz=>nomatch z⟩
 ·exact⟨.inl ⟨_,.bl _,rfl⟩,λz=>nomatch z⟩
 ·exact⟨.inl ⟨_,.dK hd0,rfl⟩,nr a1⟩
 ·exact⟨.inl ⟨_,.tup ht0,rfl⟩,nr a2⟩
 ·exact⟨.inl ⟨_,.tup ht1,rfl⟩,nr a3⟩
 ·exact⟨e7 hl2 (by rw[aay,lk];show _+1<=_;omega) (app kW iA) Hz (qH (ae6 _)),nr a4⟩
 ·exact⟨e7 (x:=.int (-1)) hl4 (by rw[aay,lk];show 1+_<=_;omega) (λx hx=>(aas.mp hx).elim (sg iA x) (kW x)) (aax _ (aaf.mpr rfl)) rfl,nr a5⟩
 ·exact⟨e7 hl5 (by show 1<=100;decide) (sg (.inr ⟨_,_,_,.aN,rfl,rfl,rfl,λi z=>nomatch z⟩)) (aaf.mpr rfl) rfl,nr a6⟩
 ·exact⟨e7 hl6 (by show 1<=100;decide) (sg (.inr ⟨_,_,_,.bl _,rfl,rfl,rfl,λi z=>nomatch z⟩)) (aaf.mpr rfl) rfl,nr a7⟩
 ·exact⟨e7 hl8 (by show 1<=100;decide) (sg (.inr ⟨_,_,_,.lst hl7,rfl,rfl,rfl,λi z=>nomatch z⟩)) (aaf.mpr rfl) rfl,nr a8⟩
 ·exact⟨e7 hl9 (by show 1<=100;decide) (sg (.inr ⟨_,_,_,.tup ht2,rfl,rfl,rfl,λi z=>nomatch z⟩)) (aaf.mpr rfl) rfl,nr a9⟩
 ·exact⟨e7 hl11 (by rw[aay,lk];show _+1<=_;omega) (app kW (.inr ⟨_,_,_,.str _,rfl,rfl,rfl,λi z=>nomatch z⟩)) Hz rfl,nr a10⟩
 ·refine⟨?_,nr a11⟩;cases n with
  |zero=>exact e7 hl12 (by show 2<=100;decide) (λx hx=>by simp only[aah,ab4,or_false,or_self] at hx;rw[hx];exact iA) aal rfl
  |succ m=>
   have e:(((m+1:Nat):Int)-1)=(m:Int):=by omega
   rw[e] at hl12;exact .inr ⟨cX,_,rfl,hl12,by show 2<=100;decide,λx hx=>by simp only[aah,ab4,or_false,or_self] at hx;rw[hx];exact iA,λ_ _=>⟨[m,m],rfl,λh=>absurd ((abT.mp h).1 m (aaf.mpr rfl)) (aaV _)⟩⟩
 ·exact⟨e7 hl13 (by show 2<=100;decide) (λx hx=>by simp only[aah,ab4,or_false] at hx;rcases hx with rfl|rfl<;>exact iA) aal (qH (ae6 _)),nr a12⟩
 ·have lc:=ig (nV ks) (some (-1)) none;exact⟨e7 hl17 (by rw[aay,aay];rw[lk] at *;show _+1<=_;omega) (app (λx hx=>(aas.mp hx).elim (kW x) λh=>kW x (JL h)) iA) Hz (qH (ae6 _)),nr a13⟩
 ·exact⟨e7 hl20 (by rw[aay,abQ,lk];show _+1<=_;omega) (app (λx hx=>kW x (List.mem_reverse.mp hx)) iA) Hz (qH (by omega)),nr a14⟩
section
variable {P:Program}{w:World}{K:PySem.W.Frag}{mg:Str->Option Value}{base:Heap}
variable {xK:Addr}{pq:FuncData}
def Bd:Sp:=λvs H Q _=>∃(p ls:Addr) (ks:List Nat) (n:Nat),vs=[.ref p,.ref ls,.int (n:Int)]/\Row H p/\ls≠p/\H ls=some (.lst (nV ks))/\ks.length<=30/\∀(y:V) (H':Hp),iO K H' n y->y≠.ref p->Row H' p->bM p H H'->Q y H'
abbrev XN:List Str:=["_law_pot_here","_law_some_here","_law_many","_law_odd_here"]
abbrev zE:List Str:=["_law_pot_here","_law_some_here","_law_many"]
theorem FX:aF XN zE (ao xJ):=⟨rfl,rfl,rfl,by decide +kernel,rfl,by decide +kernel,by decide +kernel⟩
theorem MD{f:Addr}{fd:FuncData}(F:aX K "_law_odd" "_law_odd" xJ f fd)(DN:Df K mg "_law_drawn" jI jx xK pq)(GL:ak P w K mg base aD 2 xK pq jx uQ)(rv:mg "reversed" = none)(T:bK mg):ak P w K mg base aD 3 f fd zE (Bd (K:=K)):=by
 refine F.ok FX (λvs H Q E h=>?_) (λcdv A outer s H vs Q E hr h=>?_)
 ·obtain⟨p,ls,ks,n,rfl,_⟩:=h;rfl
 ·obtain⟨p,ls,ks,n,rfl,row,RP,qI,aJ,k⟩:=h;refine⟨_,aj (aM (i:=3) FX.nd rfl (Or.inl rfl) (br (aa d6 (aa ax (aa dc (aa bS (aa EL (aa (cK ae) (aa (bD dv (by rfl) T.tuple aa4 (aa (pv 1) ae))
     (aa (bo eR (pv 1) (br (aa (pv 2) ae))) (aa (bo eR (br (aa (Ak vk ax) ae)) (pv 1)) (aa (br (aa d6 ae)) (aa (br (aa bS ae)) (aa (br (aa (br (aa ax ae)) ae)) (aa (br (aa (cK (aa ax (aa ax ae))) ae)) ae)))))))))))))))
   (aj (aM (i:=3) FX.nd rfl (Or.inl rfl) (bo eR (pv 3) (br (aa (bo eR (pv 1) (br (aa dc ae))) (aa (br (aa (bo vj (pv 2) ax) (aa (bo vj (pv 2) ax) ae))) (aa (br (aa (pv 2) (aa ax ae)))
     (aa (bo eR (bo eR (pv 1) (kh yP (pv 1) (jO (Ak vk ax)) mW)) (br (aa (pv 2) ae))) ae)))))))
   (aj (cb (ik aa5 abr abt gn (pv 3) (aa (bo eR (yA rfl rfl T.list rfl rv (aa (pv 1) ae)) (br (aa (bo eO (pv 2) ax) ae))) ae)))
   (ai (aB (aw GL hr rfl DN.aO DN.fn.kp DN.b .nil aA (aa (pv 0) (aa (pv 3) ae))))))),?_⟩
  try rw[bu]
  have big:1000<=sizeLine:=by decide
  have cp:∀{HH:Hp} {q:Addr},Row HH p->HH q=none->q≠p:=λr n e=>by obtain⟨x,y,z⟩:=r;rw[e,z] at n;cases n
  have r0:=row;have XO:av H H:=av.refl H;have t0:=XO;refine λd0 RQ=>?_;have u1:=ag (o:=.dK []) RQ;have h1:=af (H:=H) (a:=d0) (o:=.dK []);have XQ:d0≠p:=cp r0 RQ;have r1:=aL r0 u1;have t1:=t0.trans u1;generalize upd H d0 (.dK [])=H1 at u1 h1 r1 t1⊢;refine⟨(by decide),λt0 RS=>?_⟩;have u2:=ag (o:=.tup []) RS;have h2:=af (H:=H1) (a:=t0) (o:=.tup []);have XR:t0≠p:=cp r1 RS;have r2:=aL r1 u2;have t2:=t1.trans u2;generalize upd H1 t0 (.tup [])=H2 at u2 h2 r2 t2⊢;refine⟨_,rfl,ls,_,rfl,.inl ⟨ar.of (t2 _ _ qI),λt1 RT=>?_⟩⟩;have u3:=ag (o:=.tup (nV ks)) RT;have h3:=af (H:=H2) (a:=t1) (o:=.tup (nV ks));have XS:t1≠p:=cp r2 RT;have r3:=aL r2 u3;have t3:=t2.trans u3;generalize upd H2 t1 (.tup (nV ks))=H3 at u3 h3 r3 t3⊢;refine⟨_,rfl,_,rfl,(by show 1<=sizeLine;decide),λl1 RU=>?_⟩;have u4:=ag (o:=.lst [V.int (n:Int)]) RU;have h4:=af (H:=H3) (a:=l1) (o:=.lst [V.int (n:Int)]);have ZK:l1≠p:=cp r3 RU;have r4:=aL r3 u4;have t4:=t3.trans u4;generalize upd H3 l1 (.lst [V.int (n:Int)])=H4 at u4 h4 r4 t4⊢;refine⟨ls,l1,_,_,rfl,rfl,(t4 _ _ qI),h4,by rw[bN];show _+1<=_;omega,λl2 mK=>?_⟩;have u5:=ag (o:=.lst (nV ks++[V.int (n:Int)])) mK;have h5:=af (H:=H4) (a:=l2) (o:=.lst (nV ks++[V.int (n:Int)]));have XT:l2≠p:=cp r4 mK;have r5:=aL r4 u5;have t5:=t4.trans u5;generalize upd H4 l2 (.lst (nV ks++[V.int (n:Int)]))=H5 at u5 h5 r5 t5⊢;refine⟨_,rfl,(by show 1<=sizeLine;decide),λl3 RV=>?_⟩;have u6:=ag (o:=.lst [V.int (-1)]) RV;have h6:=af (H:=H5) (a:=l3) (o:=.lst [V.int (-1)]);have ZL:l3≠p:=cp r5 RV;have r6:=aL r5 u6;have t6:=t5.trans u6;generalize upd H5 l3 (.lst [V.int (-1)])=H6 at u6 h6 r6 t6⊢;refine⟨_,rfl,l3,ls,_,_,rfl,rfl,h6,(t6 _ _ qI),by rw[bN];show 1+_<=_;omega,λl4 RW=>?_⟩;have u7:=ag (o:=.lst ([V.int (-1)]++nV ks)) RW;have h7:=af (H:=H6) (a:=l4) (o:=.lst ([V.int (-1)]++nV ks));have XU:l4≠p:=cp r6 RW;have r7:=aL r6 u7;have t7:=t6.trans u7;generalize upd H6 l4 (.lst ([V.int (-1)]++nV ks))=H7 at u7 h7 r7 t7⊢;refine⟨(by show 1<=sizeLine;decide),λl5 RX=>?_⟩;have u8:=ag (o:=.lst [V.aN]) RX;have h8:=af (H:=H7) (a:=l5) (o:=.lst [V.aN]);have XW:l5≠p:=cp r7 RX;have r8:=aL r7 u8;have t8:=t7.trans u8;generalize upd H7 l5 (.lst [V.aN])=H8 at u8 h8 r8 t8⊢;refine⟨(by show 1<=sizeLine;decide),λl6 RY=>?_⟩;have u9:=ag (o:=.lst [V.bl true]) RY;have h9:=af (H:=H8) (a:=l6) (o:=.lst [V.bl true]);have XY:l6≠p:=cp r8 RY;have r9:=aL r8 u9;have t9:=t8.trans u9;generalize upd H8 l6 (.lst [V.bl true])=H9 at u9 h9 r9 t9⊢;refine⟨(by show 1<=sizeLine;decide),λl7 RZ=>?_⟩;have u10:=ag (o:=.lst [V.int 0]) RZ;have h10:=af (H:=H9) (a:=l7) (o:=.lst [V.int 0]);have ZM:l7≠p:=cp r9 RZ;have ME:=aL r9 u10;have HD:=t9.trans u10;generalize upd H9 l7 (.lst [V.int 0])=Hv at u10 h10 ME HD⊢;refine⟨(by show 1<=sizeLine;decide),λl8 R0=>?_⟩;have u11:=ag (o:=.lst [V.ref l7]) R0;have h11:=af (H:=Hv) (a:=l8) (o:=.lst [V.ref l7]);have XZ:l8≠p:=cp ME R0;have Dv:=aL ME u11;have R1:=HD.trans u11;generalize upd Hv l8 (.lst [V.ref l7])=xu at u11 h11 Dv R1⊢;refine⟨(by show 2<=sizeLine;decide),λt2 qA=>?_⟩;have u12:=ag (o:=.tup [V.int 0,V.int 1]) qA;have h12:=af (H:=xu) (a:=t2) (o:=.tup [V.int 0,V.int 1]);have GG:t2≠p:=cp Dv qA;have MF:=aL Dv u12;have t12:=R1.trans u12;generalize upd xu t2 (.tup [V.int 0,V.int 1])=DH at u12 h12 MF t12⊢;refine⟨(by show 1<=sizeLine;decide),λl9 R3=>?_⟩;have u13:=ag (o:=.lst [V.ref t2]) R3;have h13:=af (H:=DH) (a:=l9) (o:=.lst [V.ref t2]);have X0:l9≠p:=cp MF R3;have MG:=aL MF u13;have t13:=t12.trans u13;generalize upd DH l9 (.lst [V.ref t2])=zF at u13 h13 MG t13⊢;refine⟨(by show 13<=sizeLine;decide),λla uw=>?_⟩;have u14:=ag (o:=.lst [V.aN,V.int 7,V.str "0",V.bl true,V.ref d0,V.ref t0,V.ref t1,V.ref l2,V.ref l4,V.ref l5,V.ref l6,V.ref l8,V.ref l9]) uw;have h14:=af (H:=zF) (a:=la) (o:=.lst [V.aN,V.int 7,V.str "0",V.bl true,V.ref d0,V.ref t0,V.ref t1,V.ref l2,V.ref l4,V.ref l5,V.ref l6,V.ref l8,V.ref l9]);have ZN:la≠p:=cp MG uw;have MH:=aL MG u14;have xM:=t13.trans u14;generalize upd zF la (.lst [V.aN,V.int 7,V.str "0",V.bl true,V.ref d0,V.ref t0,V.ref t1,V.ref l2,V.ref l4,V.ref l5,V.ref l6,V.ref l8,V.ref l9])=HE at u14 h14 MH xM⊢;refine⟨_,rfl,_,rfl,(by show 1<=sizeLine;decide),λHF MI=>?_⟩;have u15:=ag (o:=.lst [V.str "0"]) MI;have h15:=af (H:=HE) (a:=HF) (o:=.lst [V.str "0"]);have Zi:HF≠p:=cp MH MI;have MJ:=aL MH u15;have t15:=xM.trans u15;generalize upd HE HF (.lst [V.str "0"])=MK at u15 h15 MJ t15⊢;refine⟨ls,HF,_,_,rfl,rfl,(t15 _ _ qI),h15,by rw[bN];show _+1<=_;omega,λgB ML=>?_⟩;have dU:=ag (o:=.lst (nV ks++[V.str "0"])) ML;have h16:=af (H:=MK) (a:=gB) (o:=.lst (nV ks++[V.str "0"]));have UZ:gB≠p:=cp MJ ML;have zG:=aL MJ dU;have R4:=t15.trans dU;generalize upd MK gB (.lst (nV ks++[V.str "0"]))=MM at dU h16 zG R4⊢;refine⟨_,rfl,_,_,rfl,rfl,_,rfl,_,_,rfl,rfl,(by show 2<=sizeLine;decide),λcX MN=>?_⟩;have u17:=ag (o:=.lst [V.int ((n:Int)-1),V.int ((n:Int)-1)]) MN;have h17:=af (H:=MM) (a:=cX) (o:=.lst [V.int ((n:Int)-1),V.int ((n:Int)-1)]);have U0:cX≠p:=cp zG MN;have DJ:=aL zG u17;have R5:=R4.trans u17;generalize upd MM cX (.lst [V.int ((n:Int)-1),V.int ((n:Int)-1)])=MO at u17 h17 DJ R5⊢;refine⟨_,rfl,(by show 2<=sizeLine;decide),λcY MP=>?_⟩;have u18:=ag (o:=.lst [V.int (n:Int),V.int 0]) MP;have h18:=af (H:=MO) (a:=cY) (o:=.lst [V.int (n:Int),V.int 0]);have U1:cY≠p:=cp DJ MP;have MQ:=aL DJ u18;have t18:=R5.trans u18;generalize upd MO cY (.lst [V.int (n:Int),V.int 0])=MR at u18 h18 MQ t18⊢;refine⟨_,rfl,_,rfl,_,rfl,_,rfl,ls,_,rfl,ar.of (t18 _ _ qI),λoo MS=>?_⟩;have u19:=ag (o:=.lst (eE (nV ks) (some (-1)) none)) MS;have h19:=af (H:=MR) (a:=oo) (o:=.lst (eE (nV ks) (some (-1)) none));have Zj:oo≠p:=cp MQ MS;have MT:=aL MQ u19;have t19:=t18.trans u19;generalize upd MR oo (.lst (eE (nV ks) (some (-1)) none))=R6 at u19 h19 MT t19⊢;refine⟨ls,oo,_,_,rfl,rfl,(t19 _ _ qI),h19,by have:=ig (nV ks) (some (-1)) none;rw[bN] at *;omega,λHG MU=>?_⟩;have cZ:=ag (o:=.lst (nV ks++eE (nV ks) (some (-1)) none)) MU;have h20:=af (H:=R6) (a:=HG) (o:=.lst (nV ks++eE (nV ks) (some (-1)) none));have Zk:HG≠p:=cp MT MU;have MV:=aL MT cZ;have t20:=t19.trans cZ;generalize upd R6 HG (.lst (nV ks++eE (nV ks) (some (-1)) none))=DP at cZ h20 MV t20⊢;refine⟨_,rfl,(by show 1<=sizeLine;decide),λHI MW=>?_⟩;have u21:=ag (o:=.lst [V.int (n:Int)]) MW;have h21:=af (H:=DP) (a:=HI) (o:=.lst [V.int (n:Int)]);have Zl:HI≠p:=cp MV MW;have MX:=aL MV u21;have t21:=t20.trans u21;generalize upd DP HI (.lst [V.int (n:Int)])=HJ at u21 h21 MX t21⊢;refine⟨HG,HI,_,_,rfl,rfl,(u21 _ _ h20),h21,by have:=ig (nV ks) (some (-1)) none;rw[aay];rw[bN] at *;show _+1<=_;omega,λgC MY=>?_⟩;have c4:=ag (o:=.lst (nV ks++eE (nV ks) (some (-1)) none++[V.int (n:Int)])) MY;have h22:=af (H:=HJ) (a:=gC) (o:=.lst (nV ks++eE (nV ks) (some (-1)) none++[V.int (n:Int)]));have U2:gC≠p:=cp MX MY;have MZ:=aL MX c4;have R7:=t21.trans c4;generalize upd HJ gC (.lst (nV ks++eE (nV ks) (some (-1)) none++[V.int (n:Int)]))=R8 at c4 h22 MZ R7⊢;refine⟨(by show 4<=sizeLine;decide),λlb M1=>?_⟩;have u23:=ag (o:=.lst [V.ref gB,V.ref cX,V.ref cY,V.ref gC]) M1;have h23:=af (H:=R8) (a:=lb) (o:=.lst [V.ref gB,V.ref cX,V.ref cY,V.ref gC]);have ZO:lb≠p:=cp MZ M1;have M3:=aL MZ u23;have t23:=R7.trans u23;generalize upd R8 lb (.lst [V.ref gB,V.ref cX,V.ref cY,V.ref gC])=R9 at u23 h23 M3 t23⊢;refine⟨la,lb,_,_,rfl,rfl,(((((((((u15.trans dU).trans u17).trans u18).trans u19).trans cZ).trans u21).trans c4).trans u23) _ _ h14),h23,(by show 13+4<=sizeLine;decide),λlc ff=>?_⟩;have gZ:=ag (o:=.lst ([V.aN,V.int 7,V.str "0",V.bl true,V.ref d0,V.ref t0,V.ref t1,V.ref l2,V.ref l4,V.ref l5,V.ref l6,V.ref l8,V.ref l9]++[V.ref gB,V.ref cX,V.ref cY,V.ref gC])) ff;have h24:=af (H:=R9) (a:=lc) (o:=.lst ([V.aN,V.int 7,V.str "0",V.bl true,V.ref d0,V.ref t0,V.ref t1,V.ref l2,V.ref l4,V.ref l5,V.ref l6,V.ref l8,V.ref l9]++[V.ref gB,V.ref cX,V.ref cY,V.ref gC]));have Sa:lc≠p:=cp M3 ff;have M4:=aL M3 gZ;have t24:=t23.trans gZ;generalize upd R9 lc (.lst ([V.aN,V.int 7,V.str "0",V.bl true,V.ref d0,V.ref t0,V.ref t1,V.ref l2,V.ref l4,V.ref l5,V.ref l6,V.ref l8,V.ref l9]++[V.ref gB,V.ref cX,V.ref cY,V.ref gC]))=Sb at gZ h24 M4 t24⊢;refine⟨_,rfl,.inl ⟨rfl,_,ar.of h24⟩,_,rfl,ls,_,rfl,ar.of (t24 _ _ qI),by rw[bN];omega,λHK M5=>?_⟩;have u25:=ag (o:=.lst (nV ks).reverse) M5;have h25:=af (H:=Sb) (a:=HK) (o:=.lst (nV ks).reverse);have Zm:HK≠p:=cp M4 M5;have M6:=aL M4 u25;have Sd:=t24.trans u25;generalize upd Sb HK (.lst (nV ks).reverse)=Se at u25 h25 M6 Sd⊢;refine⟨_,rfl,_,_,rfl,rfl,(by show 1<=sizeLine;decide),λHL M7=>?_⟩;have u26:=ag (o:=.lst [V.int ((n:Int)+5)]) M7;have h26:=af (H:=Se) (a:=HL) (o:=.lst [V.int ((n:Int)+5)]);have Zn:HL≠p:=cp M6 M7;have M8:=aL M6 u26;have Sf:=Sd.trans u26;generalize upd Se HL (.lst [V.int ((n:Int)+5)])=Sg at u26 h26 M8 Sf⊢;refine⟨HK,HL,_,_,rfl,rfl,(u26 _ _ h25),h26,by rw[abQ,bN];show _+1<=_;omega,λgY xN=>?_⟩;have gR:=ag (o:=.lst ((nV ks).reverse++[V.int ((n:Int)+5)])) xN;have h27:=af (H:=Sg) (a:=gY) (o:=.lst ((nV ks).reverse++[V.int ((n:Int)+5)]));have U3:gY≠p:=cp M8 xN;have Sh:=aL M8 gR;have Si:=Sf.trans gR;generalize upd Sg gY (.lst ((nV ks).reverse++[V.int ((n:Int)+5)]))=zH at gR h27 Sh Si⊢;refine⟨lc,_,_,rfl,rfl,(((u25.trans u26).trans gR) _ _ h24),(by show 13+4<sizeLine;decide),?_⟩;have Sj:upd zH lc (.lst ([V.aN,V.int 7,V.str "0",V.bl true,V.ref d0,V.ref t0,V.ref t1,V.ref l2,V.ref l4,V.ref l5,V.ref l6,V.ref l8,V.ref l9]++[V.ref gB,V.ref cX,V.ref cY,V.ref gC]++[V.ref gY])) lc=some (.lst ([V.aN,V.int 7,V.str "0",V.bl true,V.ref d0,V.ref t0,V.ref t1,V.ref l2,V.ref l4,V.ref l5,V.ref l6,V.ref l8,V.ref l9]++[V.ref gB,V.ref cX,V.ref cY,V.ref gC]++[V.ref gY])):=af;have hne:∀b,b≠lc->upd zH lc (.lst ([V.aN,V.int 7,V.str "0",V.bl true,V.ref d0,V.ref t0,V.ref t1,V.ref l2,V.ref l4,V.ref l5,V.ref l6,V.ref l8,V.ref l9]++[V.ref gB,V.ref cX,V.ref cY,V.ref gC]++[V.ref gY])) b=zH b:=λb h=>L2.aq h;have rE:Row (upd zH lc (.lst ([V.aN,V.int 7,V.str "0",V.bl true,V.ref d0,V.ref t0,V.ref t1,V.ref l2,V.ref l4,V.ref l5,V.ref l6,V.ref l8,V.ref l9]++[V.ref gB,V.ref cX,V.ref cY,V.ref gC]++[V.ref gY]))) p:=Sh.aq (aaI Sa);have bE:bM p H (upd zH lc (.lst ([V.aN,V.int 7,V.str "0",V.bl true,V.ref d0,V.ref t0,V.ref t1,V.ref l2,V.ref l4,V.ref l5,V.ref l6,V.ref l8,V.ref l9]++[V.ref gB,V.ref cX,V.ref cY,V.ref gC]++[V.ref gY]))):=λc o e nc=>by rw[hne c (au e (t23.free ff))];exact Si _ _ e
  have all:=UY (K:=K) (p:=p) (n:=n) aJ ((hne d0 (au ((((((((((((((((((((((u2.trans u3).trans u4).trans u5).trans u6).trans u7).trans u8).trans u9).trans u10).trans u11).trans u12).trans u13).trans u14).trans u15).trans dU).trans u17).trans u18).trans u19).trans cZ).trans u21).trans c4).trans u23) _ _ h1) ff)).trans ((((((((((((((((((((((((((u2.trans u3).trans u4).trans u5).trans u6).trans u7).trans u8).trans u9).trans u10).trans u11).trans u12).trans u13).trans u14).trans u15).trans dU).trans u17).trans u18).trans u19).trans cZ).trans u21).trans c4).trans u23).trans gZ).trans u25).trans u26).trans gR) _ _ h1)) ((hne t0 (au (((((((((((((((((((((u3.trans u4).trans u5).trans u6).trans u7).trans u8).trans u9).trans u10).trans u11).trans u12).trans u13).trans u14).trans u15).trans dU).trans u17).trans u18).trans u19).trans cZ).trans u21).trans c4).trans u23) _ _ h2) ff)).trans (((((((((((((((((((((((((u3.trans u4).trans u5).trans u6).trans u7).trans u8).trans u9).trans u10).trans u11).trans u12).trans u13).trans u14).trans u15).trans dU).trans u17).trans u18).trans u19).trans cZ).trans u21).trans c4).trans u23).trans gZ).trans u25).trans u26).trans gR) _ _ h2)) ((hne t1 (au ((((((((((((((((((((u4.trans u5).trans u6).trans u7).trans u8).trans u9).trans u10).trans u11).trans u12).trans u13).trans u14).trans u15).trans dU).trans u17).trans u18).trans u19).trans cZ).trans u21).trans c4).trans u23) _ _ h3) ff)).trans ((((((((((((((((((((((((u4.trans u5).trans u6).trans u7).trans u8).trans u9).trans u10).trans u11).trans u12).trans u13).trans u14).trans u15).trans dU).trans u17).trans u18).trans u19).trans cZ).trans u21).trans c4).trans u23).trans gZ).trans u25).trans u26).trans gR) _ _ h3)) ((hne l2 (au ((((((((((((((((((u6.trans u7).trans u8).trans u9).trans u10).trans u11).trans u12).trans u13).trans u14).trans u15).trans dU).trans u17).trans u18).trans u19).trans cZ).trans u21).trans c4).trans u23) _ _ h5) ff)).trans ((((((((((((((((((((((u6.trans u7).trans u8).trans u9).trans u10).trans u11).trans u12).trans u13).trans u14).trans u15).trans dU).trans u17).trans u18).trans u19).trans cZ).trans u21).trans c4).trans u23).trans gZ).trans u25).trans u26).trans gR) _ _ h5)) ((hne l4 (au ((((((((((((((((u8.trans u9).trans u10).trans u11).trans u12).trans u13).trans u14).trans u15).trans dU).trans u17).trans u18).trans u19).trans cZ).trans u21).trans c4).trans u23) _ _ h7) ff)).trans ((((((((((((((((((((u8.trans u9).trans u10).trans u11).trans u12).trans u13).trans u14).trans u15).trans dU).trans u17).trans u18).trans u19).trans cZ).trans u21).trans c4).trans u23).trans gZ).trans u25).trans u26).trans gR) _ _ h7)) ((hne l5 (au (((((((((((((((u9.trans u10).trans u11).trans u12).trans u13).trans u14).trans u15).trans dU).trans u17).trans u18).trans u19).trans cZ).trans u21).trans c4).trans u23) _ _ h8) ff)).trans (((((((((((((((((((u9.trans u10).trans u11).trans u12).trans u13).trans u14).trans u15).trans dU).trans u17).trans u18).trans u19).trans cZ).trans u21).trans c4).trans u23).trans gZ).trans u25).trans u26).trans gR) _ _ h8)) ((hne l6 (au ((((((((((((((u10.trans u11).trans u12).trans u13).trans u14).trans u15).trans dU).trans u17).trans u18).trans u19).trans cZ).trans u21).trans c4).trans u23) _ _ h9) ff)).trans ((((((((((((((((((u10.trans u11).trans u12).trans u13).trans u14).trans u15).trans dU).trans u17).trans u18).trans u19).trans cZ).trans u21).trans c4).trans u23).trans gZ).trans u25).trans u26).trans gR) _ _ h9)) ((hne l7 (au (((((((((((((u11.trans u12).trans u13).trans u14).trans u15).trans dU).trans u17).trans u18).trans u19).trans cZ).trans u21).trans c4).trans u23) _ _ h10) ff)).trans (((((((((((((((((u11.trans u12).trans u13).trans u14).trans u15).trans dU).trans u17).trans u18).trans u19).trans cZ).trans u21).trans c4).trans u23).trans gZ).trans u25).trans u26).trans gR) _ _ h10)) ((hne l8 (au ((((((((((((u12.trans u13).trans u14).trans u15).trans dU).trans u17).trans u18).trans u19).trans cZ).trans u21).trans c4).trans u23) _ _ h11) ff)).trans ((((((((((((((((u12.trans u13).trans u14).trans u15).trans dU).trans u17).trans u18).trans u19).trans cZ).trans u21).trans c4).trans u23).trans gZ).trans u25).trans u26).trans gR) _ _ h11)) ((hne t2 (au (((((((((((u13.trans u14).trans u15).trans dU).trans u17).trans u18).trans u19).trans cZ).trans u21).trans c4).trans u23) _ _ h12) ff)).trans (((((((((((((((u13.trans u14).trans u15).trans dU).trans u17).trans u18).trans u19).trans cZ).trans u21).trans c4).trans u23).trans gZ).trans u25).trans u26).trans gR) _ _ h12)) ((hne l9 (au ((((((((((u14.trans u15).trans dU).trans u17).trans u18).trans u19).trans cZ).trans u21).trans c4).trans u23) _ _ h13) ff)).trans ((((((((((((((u14.trans u15).trans dU).trans u17).trans u18).trans u19).trans cZ).trans u21).trans c4).trans u23).trans gZ).trans u25).trans u26).trans gR) _ _ h13)) ((hne gB (au (((((((u17.trans u18).trans u19).trans cZ).trans u21).trans c4).trans u23) _ _ h16) ff)).trans (((((((((((u17.trans u18).trans u19).trans cZ).trans u21).trans c4).trans u23).trans gZ).trans u25).trans u26).trans gR) _ _ h16)) ((hne cX (au ((((((u18.trans u19).trans cZ).trans u21).trans c4).trans u23) _ _ h17) ff)).trans ((((((((((u18.trans u19).trans cZ).trans u21).trans c4).trans u23).trans gZ).trans u25).trans u26).trans gR) _ _ h17)) ((hne cY (au (((((u19.trans cZ).trans u21).trans c4).trans u23) _ _ h18) ff)).trans (((((((((u19.trans cZ).trans u21).trans c4).trans u23).trans gZ).trans u25).trans u26).trans gR) _ _ h18)) ((hne gC (au (u23 _ _ h22) ff)).trans (((((u23.trans gZ).trans u25).trans u26).trans gR) _ _ h22)) ((hne gY (aaI (au ((u25.trans u26) _ _ h24) xN))).trans h27) XQ XR XS XT XU XW XY XZ X0 UZ U0 U1 U2 U3;generalize upd zH lc (.lst ([V.aN,V.int 7,V.str "0",V.bl true,V.ref d0,V.ref t0,V.ref t1,V.ref l2,V.ref l4,V.ref l5,V.ref l6,V.ref l8,V.ref l9]++[V.ref gB,V.ref cX,V.ref cY,V.ref gC]++[V.ref gY]))=G at Sj rE bE all⊢;refine⟨_,rfl,_,rfl,p,lc,_,rfl,rE,Sa,Sj,(by show 0<18;decide),(by show 18<=1000;decide),λi v H' ev r' b'=>?_⟩;have q:=all v (aak ev);exact k v H' (q.1.but q.2 b' rE.lst r'.lst) q.2 r' (bE.trans b')
end
end dO
namespace L6
open PySem PySem.Spec PyProof.Rows L2
end L6
namespace L2
open PySem PySem.Spec PyProof.Rows L6
theorem ak.or{P:Program}{w:World}{K:PySem.W.Frag}{mg:Str->Option Value}{base:Heap}{CX:gj}{k:Nat}{f:Addr}{fd:FuncData}{ps:List Str}{sp BS:Sp}(F:ak P w K mg base CX k f fd ps sp)(G:ak P w K mg base CX k f fd ps BS) :
  ak P w K mg base CX k f fd ps (λvs H Q E=>sp vs H Q E\/BS vs H Q E):=
 ⟨λvs H Q E h=>h.elim (F.len vs H Q E) (G.len vs H Q E),λA outer s H args us vs Q E hr he hb hv h=>h.elim (F.run A outer s H args us vs Q E hr he hb hv) (G.run A outer s H args us vs Q E hr he hb hv)⟩
end L2
namespace L6
open PySem PySem.Spec PyProof.Rows L2
abbrev TR:=L2.St->Hp->XK->Prop
def DQ(X:Cx)(st:Stmt)(tr:TR):Prop:=∀(pins:List (Addr×Obj)) (s:Shared) (σ:L2.St) (H:Hp) (R:XK),Inv X pins σ H s->tr σ H R->wpAny (model X.prog X.w) X.A (exec st X.env) (λ_ _=>False) (Hy X pins σ R) s
def X2(tx:TX):TR:=λσ H R=>tx σ H (λ_ _=>False) R
def U4(tc:TT)(ta tb:TR):TR:=λσ H R=>tc σ H λb H1=>if b=true then ta σ H1 R else tb σ H1 R
section
variable {X:Cx}
theorem iV{e:Expr}{y:Str}{tx:TX}{pn pos:Pos}(he:RM X e tx)(hsw:swapsWith e (some (.Name y pn)) pos.line X.env=pure false:=by rfl):DQ X (.Assign [.Name y pn] e pos) (X2 tx):=by intro pins s σ H R I h;exact aeP (wpAny_mono (he pins s σ H _ R I h) (λv s1 ⟨_,_,_,_,z⟩=>z.elim) λ_ _ z=>z) hsw
theorem xO{c:Expr}{a b:Stmt}{tc:TT}{ta tb:TR}{pos:Pos}(hc:PT X.nM c tc)(ha:DQ X a ta)(hb:DQ X b tb):DQ X (.If c [a] [b] pos) (U4 tc ta tb):=by
 intro pins s σ H R I h;refine wpAny_If (wpAny_mono (hc pins s σ H _ (I.fQ _) h) (λd s1 ⟨H1,I1,q1⟩=>?_) λ_ _ z=>False.elim z);have I1:=I1.dJ;cases d with
 |true=>exact wpAny_execs_cons (wpAny_mono (ha pins s1 σ H1 R I1 q1) (λ_ _ z=>z.elim) λ_ _ z=>z)
 |false=>exact wpAny_execs_cons (wpAny_mono (hb pins s1 σ H1 R I1 q1) (λ_ _ z=>z.elim) λ_ _ z=>z)
end
inductive DU (X:Cx):List ExceptHandler->List Value->ExceptHandler->Prop
 |here {h:ExceptHandler} {r:List ExceptHandler}:DU X (h::r) [] h
 |next {x:Str} {c:Value} {np jH:Pos} {nm:Option Str} {body:List Stmt} {r:List ExceptHandler} {cs:List Value} {h:ExceptHandler} (hx:Gl X x) (hm:X.mg x=some c) (hd:(x==("__debug__" : Str))=false) (t:DU X r cs h):DU X (.ExceptHandler (some (.Name x np)) nm body jH::r) (c::cs) h
def Pr(K:PySem.W.Frag)(cs:List Value)(c:Value)(i:Nat)(tr:TR)(ts:TS):TS:=λD σ H=>tr σ H λcls od H1=>(∀d∈cs,PySem.W.exmOne K cls d=some false)/\PySem.W.exmOne K cls c=some true/\∀a,H1 a=none ->
 ts {nx:=λσ2 H2=>D.nx (σ2.set i none) H2,rt:=D.rt,bk:=λσ2 H2=>D.bk (σ2.set i none) H2,ct:=λσ2 H2=>D.ct (σ2.set i none) H2} (σ.set i (some (.ref a))) (upd H1 a (fZ a cls od))
section
variable {X:Cx}{tr:TR}{ts:TS}{x n:Str}{c:Value}{cs:List Value}{i:Nat}{st b₀:Stmt}{uM:List Stmt}{pos np jH:Pos}
theorem FY{pins:List (Addr×Obj)}{σ:L2.St}{H:Hp}{s:Shared}{a:Addr}{cls:Value}{hs:List ExceptHandler}{h:ExceptHandler}{Q:Flow->Shared->Prop}{E:Value->Shared->Prop}(t:DU X hs cs h)(J:Inv (X.catch a) pins σ H s)(LT:PySem.W.Looks (model X.prog X.w) s.heap (typeOf (.ref a)) cls)
  (no:∀d∈cs,PySem.W.exmOne X.K cls d=some false) (k:∀r,wpAny (model X.prog X.w) X.A (handleBy (.ref a) X.env (h::r)) Q E s):wpAny (model X.prog X.w) X.A (handleBy (.ref a) X.env hs) Q E s:=by
 induction t with
 |here=>exact k _
 |next hx hm hd t ih =>refine aex (codeAny_handlers_test ?_) (by intro q;cases q);refine gc (X:=X.catch a) J hx hm ?_ hd;exact acp (aft J.cD LT (no _ (.head _))) (ih (λd hd=>no d (.tail _ hd)) k)
theorem rQ{h₀:ExceptHandler}{hs:List ExceptHandler}(hst:X.stack=X.env::X.outer)(hf:X.env.frame=some X.env.locals)(he:DQ X st tr)(ht:DU X (h₀::hs) cs (.ExceptHandler (some (.Name x np)) (some n) (b₀::uM) jH))(hx:Gl X x)(hm:X.mg x=some c)(hN:X.N.Nodup)(hi:X.N[i]?=some n)(hn:X.env.scope.names.lookup n=some .local)
  (hh:∀a,iq ((X.catch a).nM) (b₀::uM) ts) (hd:(x==("__debug__" : Str))=false:=by decide) :
  PS X (.Try [st] (h₀::hs) [] [] pos) (Pr X.K cs c i tr ts):=by
 intro pins s σ H D I h;refine afg (wpAny_execs_cons (wpAny_mono (he pins s σ H _ I h) (λ_ _ z=>z.elim) λev s2 Cp=>?_));obtain⟨a,cls,od,H1,s1,H2,rfl,I1,fl,hD,no,hex,hR⟩:=Cp;obtain⟨B,a0,hfl,hB⟩:=fl.K4;have hfr:X.A.frames=some (X.env::X.outer):=by rw[I.ok.frames,hst]
 have U5:Heap.FlyingW B (X.env::X.outer) a cls a0 s2.heap:=hst▸hfl;have fs0:∀{g:Heap},s2.heap.UpToSlots g->∀b∈cj X.stack,∀o,s2.heap.get? b=some o->∃sl,g.get? b=some {o with slots:=sl}:=λ{g} u b hb o e=>u b o e (by obtain⟨_,o',e',d⟩:=hfl.2.2.1.mem (show b∈X.stack.filterMap (·.frame) from hb);rw[e] at e';cases e';exact d)
 refine Mv hfr hf U5 hD λh4 Pt u4 CL=>?_;refine Mw Pt CL λh5 M9 u5 X3=>?_;have HM:Heap.FlyingW B X.stack a cls a0 h5:=hst▸M9;have I5:=(Cm I1 fl hB HM (fs0 (u4.trans u5))).1;have J5:=I5.catch a;have LT:PySem.W.Looks (model X.prog X.w) h5 (typeOf (.ref a)) cls:=by obtain⟨ob,Lp,hc⟩:=M9.there;subst hc;exact(adH Lp).andThen .now
 refine FY ht J5 LT no λr=>?_;refine aex (codeAny_handlers_test ?_) (by intro q;cases q);refine gc (X:=X.catch a) J5 hx hm ?_ hd;refine acp (s:={s2 with heap:=h5}) (aft I5.cD LT hex) ?_;show codeAny _ _ _ _ _
 refine codeAny_handlers_suite_as ?_;refine JF HM X3 λh6 M' u6 HN=>?_;have I6:=(Cm I1 fl hB M' (fs0 ((u4.trans u5).trans u6))).2;obtain⟨oe,vs,Sk,X4,X5,_⟩:=M'.first
 obtain⟨X6,he6',X7⟩:=HN;have heq:X6=oe:=aat (he6'.symm.trans Sk);have I7:=Pp I6 af (ψ:=λh=>∃o vs,h.get? a=some o/\o.cls=cls/\o.data=.fields vs/\o.dict=od) ⟨oe,vs,Sk,X4,X5,heq▸X7⟩ λg1 g2 ⟨o,Co,q1,q2,q3,q4⟩ k=>⟨o,Co,k o q1,q2,q3,q4⟩
 rw[yD] at I7;have J6:=I7.catch a;refine g4 (X:=X.catch a) J6 hN hi (.inl hn) (v:=.ref a) rfl (λs7 J7=>?_) (.inr hn);have X8:Inv ((X.catch a).nM) pins (σ.set i (some (.ref a))) (upd H2 a (fZ a cls od)) s7:=J7.fQ _;refine wpAny_mono (hh a pins s7 _ _ _ X8 (hR a fl.an)) (λf s8 q8=>?_) λ_ _ z=>False.elim z;cases f with
 |next =>obtain⟨σ8,H8,J8,q8⟩:=q8;exact mY (Inv.mZ I.ok J8) hN hi hn λs9 I9=>⟨_,H8,I9,q8⟩
 |brk =>obtain⟨σ8,H8,J8,q8⟩:=q8;exact mY (Inv.mZ I.ok J8) hN hi hn λs9 I9=>⟨_,H8,I9,q8⟩
 |cont =>obtain⟨σ8,H8,J8,q8⟩:=q8;exact mY (Inv.mZ I.ok J8) hN hi hn λs9 I9=>⟨_,H8,I9,q8⟩
 |ret u =>obtain⟨v,σ8,H8,J8,r8,q8⟩:=q8;exact mY (Inv.mZ I.ok J8) hN hi hn λs9 I9=>⟨v,_,H8,I9,r8,q8⟩
end
end L6
namespace dO
open PySem PySem.Spec PyProof.Rows L2 L3 L6
abbrev Na:Stmt:=inClass (top 4) 0
abbrev Nb:Stmt:=inClass (top 5) 0
theorem mO(l:List Nat):(nV l).all cQ=true:=by simp[nV,cQ]
theorem Pu(j:Nat)(l:List Nat):yQ (.int (j:Int)) (nV l)=decide (j∈l):=by
 unfold yQ nV;rw[af4,abz,afc,aaL];constructor
 ·rintro⟨x,hx,e⟩
  have:(x:Int)=j:=by simpa [gm] using e
  have:x=j:=by omega
  exact this▸hx
 ·intro h;exact⟨j,h,by simp[gm]⟩
section
variable {P:Program}{w:World}{K:PySem.W.Frag}{mg:Str->Option Value}{base:Heap}
variable {C E1 E4 E5 fP fM fT fS iN fL mC jW qr xb mL DG lA qC jD xy zI jf jg o6:Addr}{fdP gx fc e6 fh mD jb hJ kL oX fdCh xH iK kS gO o7 rR fdAI fdNI kT:FuncData}
def FZ(C:Addr):Sp:=λvs H Q _=>∃(x l:Addr) (ms:List Str) (ps:List (Str×Str)) (ks:List Nat),vs=[.ref x,.ref l]/\Nm C H x l ms ps ks/\∀v H',Told H' v (j0 ms ps ks)->av H H'->Q v H'
abbrev X9:List Str:=["web","ties","steps","place","inside"]
theorem Be:aF X9 aW (ao jX):=⟨rfl,rfl,rfl,by decide +kernel,rfl,by decide +kernel,by decide +kernel⟩
theorem Pw{f:Addr}{fd:FuncData}(F:aX K "missed_by" "missed_by" jX f fd)(M:Mh K mg C E1 fP fM fT fS iN fdP gx fc e6 fh)(DF:Df K mg "freed" jc aW qC kS)(GF:ak P w K mg base aD 3 qC kS aW (nu C))(DS:Df K mg "spread" gy ["steps","start"] jW hJ)(T:bK mg):ak P w K mg base aD 4 f fd aW (FZ C):=by
 have GP:ak P w K mg base aD 1 fP fdP ["self"] (vS C):=jw M.m.pF M.m.wc T;have GS:ak P w K mg base aD 1 jW hJ ["steps","start"] kH:=mi DS.fn T;refine F.ok Be (λvs H Q E h=>?_) (λcdv A outer s H vs Q E hr h=>?_)
 ·obtain⟨x,l,ms,ps,ks,rfl,_⟩:=h;rfl
 ·obtain⟨x,l,ms,ps,ks,rfl,n,k⟩:=h;have h1:=hr.mono (j:=1) (by decide);refine⟨_,aj (aM (i:=2) Be.nd rfl (Or.inl rfl) (aw GF hr rfl DF.aO DF.fn.kp DF.b .nil aA (aa (pv 0) (aa (pv 1) ae))))
   (aj (cI aaX rfl (bh (dg (pv 0) M.m.wc.cl M.m.pM GP h1 M.m.pB .nil aA)) (aI (i:=3) Be.nd rfl (Or.inl rfl))
    (aj (aM (i:=4) Be.nd rfl (Or.inl rfl) (aw GS h1 rfl DS.aO DS.fn.kp DS.b .nil aA (aa (pv 2) (aa (pv 3) ae))))
    (ai (ba (aS ic (ay aE (by rfl) T.len aav (aa (pv 4) ae)) (ay aE (by rfl) T.len aav (aa (dg (pv 0) M.m.wc.cl M.m.pM GP h1 M.m.pB .nil aA) ae)) (aU _))
     (ai (aB (bD dv (by rfl) T.tuple aa4 (aa (pv 4) ae)))) aR))))
   (ai (aB d6))),?_⟩
  try rw[bu]
  have zq:=n.good.good.aJ;have nd:=n.good.good.nd;have nS:=eY nd;refine⟨_,rfl,_,rfl,x,l,ms,ps,ks,rfl,n,λd ls H1 hS s1=>?_⟩;obtain⟨d1,f1,q1,r1⟩:=(n.gP.same s1).ja "places";refine⟨_,rfl,x,d1,f1,rfl,q1,r1,x,ms,ps,rfl,n.gP.same s1,λl2 n2=>⟨l2,rfl,⟨_,ar.of af⟩,?_⟩⟩;have s2:=ag (o:=.lst ((aK ms).map V.str)) n2;have h2:=af (H:=H1) (a:=l2) (o:=.lst ((aK ms).map V.str));generalize upd H1 l2 (.lst ((aK ms).map V.str))=H2 at s2 h2⊢;have s02:=s1.trans s2;have lg:=xx ps ks;have aJ:=n.aJ;have fE:=n.good.aJ;refine dY (K:=K) (xs:=(aK ms).map V.str) (λi σ HH=>∃v3 v4,σ=[some (.ref x),some (.ref l),some (.ref d),v3,v4]/\av H2 HH/\∀a∈(aK ms).take i,¬ (cE (aK ms) (gr ps ks) a).length<(aK ms).length) ⟨_,_,rfl,av.refl _,(λa h=>by simp at h)⟩ ?_ ?_ ?_
  ·rintro i σ HH _ ⟨_,_,rfl,sH,_⟩;exact ar.of (sH _ _ h2)
  ·rintro i v σ HH hv ⟨v3,v4,rfl,sH,al⟩;rw[aan] at hv;obtain⟨z,ez,rfl⟩:=aap.mp hv;have hz:=aak ez;refine⟨_,rfl,_,rfl,d,z,aK ms,gr ps ks,ls,rfl,(hS.same s2).same sH,nS,by rw[cy];exact zq,uV n.good.uf ks,by omega,hz,λl3 H3 n3 h3 s3=>?_⟩;have s03:=s02.trans (sH.trans s3);obtain⟨d4,f4,q4,r4⟩:=(n.gP.same s03).ja "places";refine⟨_,rfl,l3,_,rfl,.inl (ar.of h3),_,rfl,x,d4,f4,rfl,q4,r4,x,ms,ps,rfl,n.gP.same s03,λl4 n4=>⟨l4,_,rfl,.inl (ar.of af),?_⟩⟩;have s4:=ag (o:=.lst ((aK ms).map V.str)) n4;have h34:=s4 _ _ h3;generalize upd H3 l4 (.lst ((aK ms).map V.str))=H4 at s4 h34⊢;refine⟨_,_,rfl,rfl,_,rfl,?_⟩;rw[aaa,aaa];by_cases c:(cE (aK ms) (gr ps ks) z).length<(aK ms).length
   ·rw[decide_eq_true (show((cE (aK ms) (gr ps ks) z).length:Int)<((aK ms).length:Int) by omega)];refine bt ⟨_,rfl,l3,_,rfl,.inl ⟨ar.of h34,λt nt=>?_⟩⟩;have em:j0 ms ps ks=some (cE (aK ms) (gr ps ks) z):=by unfold j0;rw[zD ez (by simpa using c) λa ha=>by simpa using al a ha];rfl
    refine k _ _ ?_ (s03.trans (s4.trans (ag nt)));rw[em];exact⟨t,rfl,af⟩
   ·rw[aaA (show ¬ ((cE (aK ms) (gr ps ks) z).length:Int)<((aK ms).length:Int) by omega)];refine aP ⟨_,_,rfl,sH.trans (s3.trans s4),λa ha=>?_⟩;rw[aaC,ez] at ha;rcases aas.mp ha with q|q
    ·exact al a q
    ·have:a=z:=by simpa using q
     subst this;exact c
  ·rintro σ HH ⟨v3,v4,rfl,sH,al⟩;rw[aaa,abb] at al;have em:j0 ms ps ks=none:=by unfold j0;rw[ad2,adm];intro a ha q;exact al a ha (of_decide_eq_true q)
   refine k _ _ ?_ (s02.trans sH);rw[em];exact rfl
def Bf(C:Addr):Sp:=λvs H Q _=>∃(x:Addr) (ns:List Str) (ps:List (Str×Str)),vs=[.ref x]/\bq C H x ns ps/\GoodW ns ps/\∀b H',(b=true ↔ cw ns ps)->av H H'->Q (.bl b) H'
theorem DV{f:Addr}{fd:FuncData}(F:aX K "hangs" "hangs" mz f fd)(mP:Df K mg "pieces" iU ["web"] qr kL)(G:ak P w K mg base aD 3 qr kL ["web"] (A0 C))(T:bK mg):ak P w K mg base aD 4 f fd ["web"] (Bf C):=by
 refine F.ok UN (λvs H Q E h=>?_) (λcdv A outer s H vs Q E hr h=>?_)
 ·obtain⟨x,ns,ps,rfl,_⟩:=h;rfl
 ·obtain⟨x,ns,ps,rfl,hW,g,k⟩:=h;refine⟨_,ai (aB (cP fF (ay aE (by rfl) T.len aav (aa (aw G hr rfl mP.aO mP.fn.kp mP.b .nil aA (aa (pv 0) ae)) ae)) ax (aU _))),?_⟩;try rw[bu]
  refine⟨_,rfl,x,ns,ps,rfl,hW,g,λl qs H' nl hl ho pc s'=>⟨l,_,rfl,.inl (ar.of hl),rfl,?_⟩⟩;refine k _ H' ?_ s';rw[aaa,aaL];constructor
  ·intro e
   have:(qs.length:Int)=1:=by injection e
   exact DD g pc (by omega)
  ·intro hh;rw[Dl g hh pc];rfl
structure Ap(K:PySem.W.Frag)(mg:Str->Option Value)(E4 jf:Addr)(fdAI:FuncData):Prop where
 b:mg "Apart" = some (.ref E4)
 x:ur K E4 jf
 no:dE K E4 "cut"
 f:aX K "__init__" "Apart.__init__" Na jf fdAI
 bi:Binds K fdAI ["self","cut"] []
theorem U6:aF ["self","cut"] ["self","cut"] (ao Na):=⟨rfl,rfl,rfl,by decide +kernel,rfl,by decide +kernel,by decide +kernel⟩
theorem Px{CX:gj}(A4:Ap K mg E4 jf fdAI):ak P w K mg base CX 1 jf fdAI ["self","cut"] (rP K E4 jf "cut"):=by
 refine A4.f.qF U6 (λvs H Q E h=>?_) (λcdv A outer s H vs Q E hr h=>?_)
 ·obtain⟨e,t,v,rfl,_⟩:=h;rfl
 ·obtain⟨e,t,v,rfl,he,k⟩:=h;refine⟨_,ai (zC (pv 0) (pv 1) rfl),?_⟩;try rw[bu]
  exact⟨_,rfl,_,rfl,e,E4,t,jf,rfl,he,A4.x,A4.no,λdx gX=>k dx gX⟩
def Sl(E4:Addr)(H:Hp)(ms:List Str)(ps:List (Str×Str))(E:XK):Prop:=∀(zs:List Str) (q dx:Addr) (H':Hp),qG ms ps zs->H' q=some (.tup (zs.map V.str))->H' dx=some (.xd [("cut",.ref q)])->av H H'->E (.ref E4) (some dx) H'
structure zJ(K:PySem.W.Frag)(mg:Str->Option Value)(E5 jg:Addr)(fdNI:FuncData):Prop where
 b:mg "NoMeeter" = some (.ref E5)
 x:ur K E5 jg
 no:dE K E5 "cut"
 f:aX K "__init__" "NoMeeter.__init__" Nb jg fdNI
 bi:Binds K fdNI ["self","cut"] []
theorem U7:aF ["self","cut"] ["self","cut"] (ao Nb):=⟨rfl,rfl,rfl,by decide +kernel,rfl,by decide +kernel,by decide +kernel⟩
theorem Py{CX:gj}(A5:zJ K mg E5 jg fdNI):ak P w K mg base CX 1 jg fdNI ["self","cut"] (rP K E5 jg "cut"):=by
 refine A5.f.qF U7 (λvs H Q E h=>?_) (λcdv A outer s H vs Q E hr h=>?_)
 ·obtain⟨e,t,v,rfl,_⟩:=h;rfl
 ·obtain⟨e,t,v,rfl,he,k⟩:=h;refine⟨_,ai (zC (pv 0) (pv 1) rfl),?_⟩;try rw[bu]
  exact⟨_,rfl,_,rfl,e,E5,t,jg,rfl,he,A5.x,A5.no,λdx gX=>k dx gX⟩
def zK(E5:Addr)(H:Hp)(ms:List Str)(ps:List (Str×Str))(ks:List Nat)(E:XK):Prop:=∀(zs:List Str) (q dx:Addr) (H':Hp),pf ms ps ks zs->H' q=some (.tup (zs.map V.str))->H' dx=some (.xd [("cut",.ref q)])->av H H'->E (.ref E5) (some dx) H'
theorem zK.same{H H1:Hp}{ms:List Str}{ps:List (Str×Str)}{ks:List Nat}{E:XK}(h:zK E5 H ms ps ks E)(s:av H H1):zK E5 H1 ms ps ks E:=λzs q dx H' l hq hd s'=>h zs q dx H' l hq hd (s.trans s')
def zL(C E4:Addr):Sp:=λvs H Q E=>∃(x:Addr) (ns:List Str) (ps:List (Str×Str)),vs=[.ref x]/\bq C H x ns ps/\GoodW ns ps/\(¬ cw ns ps->Sl E4 H ns ps E)/\(cw ns ps->∀H',av H H'->Q .aN H')
theorem F0{f:Addr}{fd:FuncData}(F:aX K "check_hangs" "check_hangs" qq f fd)(zM:Df K mg "hangs" mz ["web"] xb oX)(G:ak P w K mg base aD 4 xb oX ["web"] (Bf C))(mP:Df K mg "pieces" iU ["web"] qr kL)(GP:ak P w K mg base aD 3 qr kL ["web"] (A0 C))(A4:Ap K mg E4 jf fdAI)(T:bK mg):ak P w K mg base (bR P w) 5 f fd ["web"] (zL C E4):=by
 have GI:ak P w K mg base (bR P w) 1 jf fdAI ["self","cut"] (rP K E4 jf "cut"):=Px A4;refine F.qF Pl (λvs H Q E h=>?_) (λcdv A outer s H vs Q E hr h=>?_)
 ·obtain⟨x,ns,ps,rfl,_⟩:=h;rfl
 ·obtain⟨x,ns,ps,rfl,hW,g,k1,k2⟩:=h;have h2:=hr.mono (j:=2) (by decide);have h3:=hr.mono (j:=3) (by decide);refine⟨_,ai (ba (bp (bg (aw G hr rfl zM.aO zM.fn.kp zM.b .nil aA (aa (pv 0) ae)) (λ_=>rfl)))
   (ai (uv rfl A4.b A4.x GI h2 A4.bi (aa (aY bj (aw GP h3 rfl mP.aO mP.fn.kp mP.b .nil aA (aa (pv 0) ae)) ax (λ_ _=>rfl)) ae))) aR),?_⟩
  try rw[bu]
  refine⟨_,rfl,x,ns,ps,rfl,hW,g,λb H' eb s'=>?_⟩;cases b with
  |true=>exact⟨_,rfl,aP (k2 (eb.mp rfl) H' s')⟩
  |false=>
   have k:=k1 λhh=>nomatch (eb.mpr hh);refine⟨_,rfl,bt ?_⟩;refine⟨_,rfl,x,ns,ps,rfl,hW.same s',g,λl qs H2 nl hl ho pc s2=>?_⟩;obtain⟨q,r,rfl⟩:∃q r,qs=q::r:=by
    cases qs with
    |cons q r=>exact⟨q,r,rfl⟩
    |nil=>
     obtain⟨z0,h0⟩:∃z,z∈aK ns:=by
      have h1:=g.good.one;cases e:aK ns with
      |nil=>exact absurd (show ns.length=0 from by have:=congrArg List.length e;rw[cy] at this;exact this) (by omega)
      |cons z r=>exact⟨z,aal⟩
     have:=(pc.mem (comp (aK ns) ps z0)).mpr ⟨z0,h0,rfl⟩
     simp at this
   refine⟨l,_,_,V.ref q.1,rfl,rfl,ar.of hl,aQ (j:=0) rfl,_,rfl,λdx gX=>?_⟩;exact k q.2 q.1 dx _ pc.least (by rw[aq (au (ho q (by simp)) gX)];exact ho q (by simp)) af (s'.trans (s2.trans (ag gX)))
def Lt(K:PySem.W.Frag)(E1:Addr)(H:Hp)(y:V)(ps:List (Str×Str))(E:XK)(R:Addr->List Nat->Prop):Prop:=(∃l ks,y=.ref l/\H l=some (.lst (nV ks))/\Rs ps ks/\R l ks)\/(iO K H ps.length y/\∀od H',av H H'->E (.ref E1) od H')
theorem Lt.imp{H H1:Hp}{y:V}{ps:List (Str×Str)}{E:XK}{R R':Addr->List Nat->Prop}(h:Lt K E1 H y ps E R)(s:av H H1)(k:∀l ks,H l=some (.lst (nV ks))->Rs ps ks->R l ks->R' l ks):Lt K E1 H1 y ps E R':=by
 rcases h with⟨l,ks,e,hl,rs,r⟩|⟨o,r⟩
 ·exact .inl ⟨l,ks,e,s _ _ hl,rs,k l ks hl rs r⟩
 ·exact .inr ⟨o.same s,λod H' s'=>r od H' (s.trans s')⟩
def DX(K:PySem.W.Frag)(C E1:Addr):Sp:=λvs H Q E=>∃(x:Addr) (y:V) (ns:List Str) (ps:List (Str×Str)),vs=[.ref x,y]/\bq C H x ns ps/\ps.length<=30/\Lt K E1 H y ps E λ_ _=>∀H',av H H'->Q .aN H'
theorem JM{f:Addr}{fd:FuncData}(F:aX K "check_list" "check_list" qv f fd)(DA:Df K mg "are_ties" mG qy DG xH)(M:Mh K mg C E1 fP fM fT fS iN fdP gx fc e6 fh)(T:bK mg):ak P w K mg base (bR P w) 3 f fd aW (DX K C E1):=by
 have G1:ak P w K mg base aD 2 DG xH qy (Ht C):=Md DA.fn M T;have GA:=G1.or (JJ DA.fn M T);refine(toD (sp:=λvs H Q E=>∃(x:Addr) (y:V) (ns:List Str) (ps:List (Str×Str)),vs=[.ref x,y]/\bq C H x ns ps/\ps.length<=30/\((∃l ks,y=.ref l/\H l=some (.lst (nV ks))/\Rs ps ks/\∀H',av H H'->Q .aN H')\/(iO K H ps.length y/\∀H',av H H'->E (.ref E1) none H'))) (F.QX UP (λvs H Q E h=>?_) (λcdv A outer s H vs Q E hr h=>?_))).imp λvs H Q E h=>?_
 ·obtain⟨x,y,ns,ps,rfl,_⟩:=h;rfl
 ·obtain⟨x,y,ns,ps,rfl,hW,fE,k⟩:=h;obtain⟨Bn,newId,d8,bm,q,FB⟩:=M.x1.bm;refine⟨_,ai (ba (bp (bg (aw GA hr rfl DA.aO DA.fn.kp DA.b .nil aA (aa (pv 0) (aa (pv 1) ae))) (λ_=>rfl))) (ai (vK rfl M.x1.b q FB (aa dc ae))) aR),?_⟩;try rw[bu]
  rcases k with⟨l,ks,rfl,hl,rs,k⟩|⟨o,k⟩
  ·exact⟨_,rfl,_,rfl,.inl ⟨x,l,ns,ps,ks,rfl,hW,fE,hl,rs,λH' s'=>⟨_,rfl,aP (k _ s')⟩⟩⟩
  ·exact⟨_,rfl,_,rfl,.inr ⟨x,y,ns,ps,rfl,hW,fE,o,λH' s'=>⟨_,rfl,bt ⟨by decide,k _ s'⟩⟩⟩⟩
 ·obtain⟨x,y,ns,ps,rfl,hW,fE,k⟩:=h;exact⟨x,y,ns,ps,rfl,hW,fE,Or.imp id (λ⟨o,k⟩=>⟨o,λH' s' od=>k od H' s'⟩) k⟩
structure Nr(C:Addr)(H:Hp)(x l:Addr)(ms:List Str)(ps:List (Str×Str))(ks:List Nat):Prop where
 nm:Nm C H x l ms ps ks
 rs:Rs ps ks
theorem Nr.same{H H':Hp}{x l:Addr}{ms:List Str}{ps:List (Str×Str)}{ks:List Nat}(h:Nr C H x l ms ps ks)(s:av H H'):Nr C H' x l ms ps ks:={h with nm:=h.nm.same s}
structure Me(P:Program)(w:World)(K:PySem.W.Frag)(mg:Str->Option Value)(base:Heap)(C E1 E4 mL lA jD:Addr)(fdCh iK gO:FuncData):Prop where
 dh:Df K mg "check_hangs" qq ["web"] mL fdCh
 gh:ak P w K mg base (bR P w) 5 mL fdCh ["web"] (zL C E4)
 dl:Df K mg "check_list" qv aW lA iK
 gl:ak P w K mg base (bR P w) 3 lA iK aW (DX K C E1)
 db:Df K mg "missed_by" jX aW jD gO
 gb:ak P w K mg base aD 4 jD gO aW (FZ C)
def Ask(K:PySem.W.Frag)(C E1 E4:Addr)(R:Addr->Addr->List Str->List (Str×Str)->List Nat->Hp->VK->XK->Prop):Sp:=λvs H Q E=>∃(x:Addr) (y:V) (ms:List Str) (ps:List (Str×Str)),vs=[.ref x,y]/\bq C H x ms ps/\GoodW ms ps/\(¬ cw ms ps->Sl E4 H ms ps E)/\(cw ms ps->Lt K E1 H y ps E λl ks=>R x l ms ps ks H Q E)
def Nc(x l:Addr)(ms:List Str)(ps:List (Str×Str))(ks:List Nat)(H:Hp)(Q:VK)(E:XK):Prop:=∀v H',Told H' v (j0 ms ps ks)->av H H'->Q v H'
theorem U8:aF aW aW (ao jY):=⟨rfl,rfl,rfl,by decide +kernel,rfl,by decide +kernel,by decide +kernel⟩
theorem Pz{f:Addr}{fd:FuncData}(F:aX K "missed" "missed" jY f fd)(B:Me P w K mg base C E1 E4 mL lA jD fdCh iK gO):ak P w K mg base (bR P w) 6 f fd aW (Ask K C E1 E4 Nc):=by
 have Gh:=B.gh;have Gl:=B.gl;have Gb:=B.gb;refine F.qF U8 (λvs H Q E h=>?_) (λcdv A outer s H vs Q E hr h=>?_)
 ·obtain⟨x,y,ms,ps,rfl,_⟩:=h;rfl
 ·obtain⟨x,y,ms,ps,rfl,hW,g,k1,k2⟩:=h;have h3:=hr.mono (j:=3) (by decide);have h4:=hr.mono (j:=4) (by decide);refine⟨_,aj (cb (aw Gh hr rfl B.dh.aO B.dh.fn.kp B.dh.b .nil jE (aa (pv 0) ae)))
   (aj (cb (aw Gl h3 rfl B.dl.aO B.dl.fn.kp B.dl.b .nil jE (aa (pv 0) (aa (pv 1) ae))))
   (ai (aB (aw Gb h4 rfl B.db.aO B.db.fn.kp B.db.b .nil aA (aa (pv 0) (aa (pv 1) ae)))))),?_⟩
  try rw[bu]
  refine⟨_,rfl,x,ms,ps,rfl,hW,g,k1,λhh H1 s1=>?_⟩;refine⟨_,rfl,_,rfl,x,y,ms,ps,rfl,hW.same s1,g.aJ,?_⟩;rcases k2 hh with⟨l,ks,rfl,hl,rs,r⟩|⟨o,r⟩
  ·refine .inl ⟨l,ks,rfl,s1 _ _ hl,rs,λH2 s2=>?_⟩;have s12:=s1.trans s2;exact⟨_,rfl,_,rfl,x,l,ms,ps,ks,rfl,qD (hW.same s12) g (s12 _ _ hl) rs,λv H3 e s3=>r v H3 e (s12.trans s3)⟩
  ·exact .inr ⟨o.same s1,λod H' s'=>r od H' (s1.trans s')⟩
def F1(x l:Addr)(ms:List Str)(ps:List (Str×Str))(ks:List Nat)(H:Hp)(Q:VK)(E:XK):Prop:=∀b H',(b=true ↔ Full ms ps ks)->av H H'->Q (.bl b) H'
theorem U9:aF aW aW (ao qx):=⟨rfl,rfl,rfl,by decide +kernel,rfl,by decide +kernel,by decide +kernel⟩
theorem Nd{f:Addr}{fd:FuncData}(F:aX K "is_meeter" "is_meeter" qx f fd)(DM:Df K mg "missed" jY aW xy o7)(GM:ak P w K mg base (bR P w) 6 xy o7 aW (Ask K C E1 E4 Nc)):ak P w K mg base (bR P w) 7 f fd aW (Ask K C E1 E4 F1):=by
 refine F.qF U9 (λvs H Q E h=>?_) (λcdv A outer s H vs Q E hr h=>?_)
 ·obtain⟨x,y,ms,ps,rfl,_⟩:=h;rfl
 ·obtain⟨x,y,ms,ps,rfl,hW,g,k1,k2⟩:=h;refine⟨_,ai (aB (cP BM (aw GM hr rfl DM.aO DM.fn.kp DM.b .nil jE (aa (pv 0) (aa (pv 1) ae))) d6 (aU _))),?_⟩;try rw[bu]
  refine⟨_,rfl,_,rfl,x,y,ms,ps,rfl,hW,g,k1,λhh=>(k2 hh).imp (av.refl _) λl ks _ _ k v H1 e s1=>⟨rfl,?_⟩⟩;refine k _ _ ?_ s1;rw[aaL,<-ph g.good.nd];cases em:j0 ms ps ks with
  |none=>rw[em] at e;exact⟨λ_=>rfl,λ_=>e⟩
  |some zs =>rw[em] at e;obtain⟨t,rfl,_⟩:=e;exact⟨(λz=>nomatch z),(λz=>nomatch z)⟩
def F2(C E5:Addr):Sp:=λvs H Q E=>∃(x l:Addr) (ms:List Str) (ps:List (Str×Str)) (ks:List Nat),vs=[.ref x,.ref l]/\Nm C H x l ms ps ks/\(Full ms ps ks->∀H',av H H'->Q .aN H')/\(¬ Full ms ps ks->zK E5 H ms ps ks E)
theorem HP:aF ["web","ties","cut"] aW (ao mH):=⟨rfl,rfl,rfl,by decide +kernel,rfl,by decide +kernel,by decide +kernel⟩
theorem Nf{f:Addr}{fd:FuncData}(F:aX K "check_meets" "check_meets" mH f fd)(B:Me P w K mg base C E1 E4 mL lA jD fdCh iK gO)(A5:zJ K mg E5 jg fdNI):ak P w K mg base (bR P w) 5 f fd aW (F2 C E5):=by
 have Gb:=B.gb;have GI:ak P w K mg base (bR P w) 1 jg fdNI ["self","cut"] (rP K E5 jg "cut"):=Py A5;refine F.qF HP (λvs H Q E h=>?_) (λcdv A outer s H vs Q E hr h=>?_)
 ·obtain⟨x,l,ms,ps,ks,rfl,_⟩:=h;rfl
 ·obtain⟨x,l,ms,ps,ks,rfl,n,k1,k2⟩:=h;have h2:=hr.mono (j:=2) (by decide);refine⟨_,aj (aM (i:=2) HP.nd rfl (Or.inl rfl) (aw Gb hr rfl B.db.aO B.db.fn.kp B.db.b .nil aA (aa (pv 0) (aa (pv 1) ae))))
   (ai (ba (aS yK (pv 2) d6 (aU _)) (ai (uv rfl A5.b A5.x GI h2 A5.bi (aa (pv 2) ae))) aR)),?_⟩
  try rw[bu]
  refine⟨_,rfl,_,rfl,x,l,ms,ps,ks,rfl,n,λv H1 e s1=>?_⟩;have mn:=ph (ps:=ps) (ks:=ks) n.good.good.nd;cases em:j0 ms ps ks with
  |none =>rw[em] at e;obtain rfl:v=.aN:=e;exact⟨_,rfl,rfl,_,rfl,aP (k1 (mn.mp em) _ s1)⟩
  |some zs =>rw[em] at e;obtain⟨t,rfl,ht⟩:=e;refine⟨_,rfl,rfl,_,rfl,bt ⟨_,rfl,_,rfl,λdx gX=>?_⟩⟩;exact k2 (λfu=>by rw[mn.mpr fu] at em;cases em) zs t dx _ (FU n.good.good.nd n.good.ins em) (by rw[aq (au ht gX)];exact ht) af (s1.trans (ag gX))
def F3(E5:Addr)(x l:Addr)(ms:List Str)(ps:List (Str×Str))(ks:List Nat)(H:Hp)(Q:VK)(E:XK):Prop:=(Full ms ps ks->∀H',av H H'->Q .aN H')/\(¬ Full ms ps ks->zK E5 H ms ps ks E)
theorem PB:aF aW aW (ao mI):=⟨rfl,rfl,rfl,by decide +kernel,rfl,by decide +kernel,by decide +kernel⟩
theorem Ng{f:Addr}{fd:FuncData}(F:aX K "check_meeter" "check_meeter" mI f fd)(B:Me P w K mg base C E1 E4 mL lA jD fdCh iK gO)(DC:Df K mg "check_meets" mH aW o6 kT)(GC:ak P w K mg base (bR P w) 5 o6 kT aW (F2 C E5)):ak P w K mg base (bR P w) 6 f fd aW (Ask K C E1 E4 (F3 E5)):=by
 have Gh:=B.gh;have Gl:=B.gl;refine F.qF PB (λvs H Q E h=>?_) (λcdv A outer s H vs Q E hr h=>?_)
 ·obtain⟨x,y,ms,ps,rfl,_⟩:=h;rfl
 ·obtain⟨x,y,ms,ps,rfl,hW,g,k1,k2⟩:=h;have h3:=hr.mono (j:=3) (by decide);refine⟨_,aj (cb (aw Gh hr rfl B.dh.aO B.dh.fn.kp B.dh.b .nil jE (aa (pv 0) ae)))
   (aj (cb (aw Gl h3 rfl B.dl.aO B.dl.fn.kp B.dl.b .nil jE (aa (pv 0) (aa (pv 1) ae))))
   (ai (cb (aw GC hr rfl DC.aO DC.fn.kp DC.b .nil jE (aa (pv 0) (aa (pv 1) ae)))))),?_⟩
  try rw[bu]
  refine⟨_,rfl,x,ms,ps,rfl,hW,g,k1,λhh H1 s1=>?_⟩;refine⟨_,rfl,_,rfl,x,y,ms,ps,rfl,hW.same s1,g.aJ,?_⟩;rcases k2 hh with⟨l,ks,rfl,hl,rs,r1,r2⟩|⟨o,r⟩
  ·refine .inl ⟨l,ks,rfl,s1 _ _ hl,rs,λH2 s2=>?_⟩;have s12:=s1.trans s2;exact⟨_,rfl,_,rfl,x,l,ms,ps,ks,rfl,qD (hW.same s12) g (s12 _ _ hl) rs,λfu H3 s3=>r1 fu H3 (s12.trans s3),λnf=>(r2 nf).same s12⟩
  ·exact .inr ⟨o.same s1,λod H' s'=>r od H' (s1.trans s')⟩
end
open PySem PySem.Spec PyProof.Rows L2 L3
abbrev DY:Stmt:=top 38 -- OP
abbrev zN:Stmt:=top 39 -- Sm
def bk(ks:List Nat)(k:Nat):List Nat:=ks.filter λi=>decide (i≠k)
theorem jh{ks:List Nat}{k j:Nat}:j∈bk ks k ↔ j∈ks/\j≠k:=by unfold bk;rw[abm];simp
noncomputable def tl(ms:List Str)(ps:List (Str×Str))(ks:List Nat)(k:Nat):List Str:=cE (aK ms) (gr ps (bk ks k)) (ps.getD k default).2
def Wt(ms:List Str)(ps:List (Str×Str))(ks:List Nat)(k:Nat):Prop:=(tl ms ps ks k).length<ms.length
theorem Nh{ms:List Str}{ps:List (Str×Str)}{ks:List Nat}{k:Nat}{e:Str×Str}(nd:ms.Nodup)(ek:ps[k]?=some e):Wt ms ps ks k ↔ ∃z∈ms,¬ bP (gr ps (bk ks k)) e.2 z:=by unfold Wt tl;rw[adw,ek,<-cy ms,kQ (eY nd)];exact⟨λ⟨b,hb,n⟩=>⟨b,bx.mp hb,n⟩,λ⟨b,hb,n⟩=>⟨b,bx.mpr hb,n⟩⟩
theorem F5{ps:List (Str×Str)}{ks:List Nat}{p:Str×Str}(h:p∈gr ps ks):p∈ps\/∃k∈ks,ps[k]?=some (p.2,p.1):=by
 obtain⟨a,b⟩:=p;unfold gr at h;rcases aas.mp h with q|q
 ·exact .inl q
 ·exact .inr (hV.mp (cC.mp q))
theorem Ni{ps:List (Str×Str)}{ks:List Nat}{p:Str×Str}(h:p∈ps):p∈gr ps ks:=aax _ h
theorem Nj{ps:List (Str×Str)}{ks:List Nat}{k:Nat}{p:Str×Str}(hk:k∈ks)(h:ps[k]?=some p):(p.2,p.1)∈gr ps ks:=aaj _ (cC.mpr (hV.mpr ⟨k,hk,h⟩))
def X'(H:Hp)(v:V)(ms:List Str)(ps:List (Str×Str))(ks:List Nat)(k:Nat):Prop:=(v=.aN/\¬ Wt ms ps ks k)\/(∃t,v=.ref t/\H t=some (.tup ((tl ms ps ks k).map V.str))/\Wt ms ps ks k)
section
variable {P:Program}{w:World}{K:PySem.W.Frag}{mg:Str->Option Value}{base:Heap}
variable {C E1 fP fM fT fS iN fL mC jW mL lA qC jD xy o6 rS xP DZ zO:Addr}{fdP gx fc e6 fh mD jb hJ fdCh iK kS gO o7 kT nv pz xQ rT:FuncData}
def F6:Sp:=λvs H Q _=>∃(l:Addr) (ks:List Nat) (j:Nat),vs=[.ref l,.int (j:Int)]/\H l=some (.lst (nV ks))/\ks.length<=1000/\∀q,H q=none->Q (.ref q) (upd H q (.lst (nV (ks.filter λi=>decide (i≠j)))))
abbrev qJ:List Str:=["ties","k"]
theorem U':aF qJ qJ (ao xq):=⟨rfl,rfl,rfl,by decide +kernel,rfl,by decide +kernel,by decide +kernel⟩
theorem HQ{f:Addr}{fd:FuncData}(F:aX K "without" "without" xq f fd)(T:bK mg):ak P w K mg base aD 1 f fd qJ F6:=by
 refine F.ok U' (λvs H Q E h=>?_) (λcdv A outer s H vs Q E hr h=>?_)
 ·obtain⟨l,ks,j,rfl,_⟩:=h;rfl
 ·obtain⟨l,ks,j,rfl,hl,aJ,k⟩:=h;refine⟨_,ai (aB (cV ["other"] [1] rfl (bQ (osc:=(ao xq).names) (N:=qJ) rfl rfl (by decide +kernel)) (bJ (by decide)) (bh (pv 0))
     (λ_ _ _=>aI (i:=0) (show(["other","k"]:List Str).Nodup by decide +kernel) rfl (Or.inl rfl)) (λ_ _ _=>fR (aS kc (pv 0) (pv 1) (aU _)))
     (λ_ _ _=>pv 0))),?_⟩
  try rw[bu]
  have big:1000<=sizeLine:=by decide
  refine⟨_,rfl,l,rfl,⟨_,ar.of hl⟩,cu (K:=K) (xs:=nV ks) (λi ys HH=>HH=H/\ys=nV ((ks.take i).filter λi=>decide (i≠j))) ⟨rfl,rfl⟩ ?_ ?_ ?_ ?_⟩
  ·rintro i ys HH hi ⟨_,rfl⟩;rw[bN];exact aam (abh _ _) (by rw[aaP];omega)
  ·rintro i ys HH _ ⟨rfl,_⟩;exact ar.of hl
  ·rintro i v ys HH R hv ⟨rfl,rfl⟩ kR;unfold nV at hv;rw[aan] at hv;obtain⟨n,en,rfl⟩:=aap.mp hv;have fin:((ks.take (i+1)).filter λi=>decide (i≠j))=((ks.take i).filter λi=>decide (i≠j))++(if decide (n≠j)=true then [n] else []):=by rw[aaC,en,abU];congr 1;rw[abV,ack];rfl
   simp only[bF];refine⟨_,rfl,_,rfl,rfl,_,rfl,?_⟩;by_cases c:n=j
   ·rw[decide_eq_true (show V.int (n:Int)=V.int (j:Int) by rw[c])];refine aP (kR _ _ ⟨rfl,?_⟩);rw[fin,if_neg (by simp[c]),abA]
   ·rw[aaA (show ¬ V.int (n:Int)=V.int (j:Int) by intro e;injection e with e;omega)];refine bt ⟨_,rfl,kR _ _ ⟨rfl,?_⟩⟩;rw[fin,if_pos (by simp[c])];unfold nV;rw[aaN];rfl
  rintro ys HH ⟨rfl,rfl⟩ D nD;rw[bN,abb];exact k D nD
def F7(C:Addr):Sp:=λvs H Q _=>∃(x l:Addr) (ms:List Str) (ps:List (Str×Str)) (ks:List Nat) (j:Nat),vs=[.ref x,.ref l,.int (j:Int)]/\Nr C H x l ms ps ks/\j∈ks/\∀v H',X' H' v ms ps ks j->av H H'->Q v H'
abbrev Ya:List Str:=["web","ties","k","inside"]
abbrev zP:List Str:=["web","ties","k"]
theorem Nk:aF Ya zP (ao DY):=⟨rfl,rfl,rfl,by decide +kernel,rfl,by decide +kernel,by decide +kernel⟩
theorem PD{f:Addr}{fd:FuncData}(F:aX K "least_tight" "least_tight" DY f fd)(M:Mh K mg C E1 fP fM fT fS iN fdP gx fc e6 fh)(DF:Df K mg "freed" jc aW qC kS)(GF:ak P w K mg base aD 3 qC kS aW (nu C))(DS:Df K mg "spread" gy ["steps","start"] jW hJ)(DW:Df K mg "without" xq qJ xP pz)(T:bK mg):ak P w K mg base aD 4 f fd zP (F7 C):=by
 have GP:ak P w K mg base aD 1 fP fdP ["self"] (vS C):=jw M.m.pF M.m.wc T;have GS:ak P w K mg base aD 1 jW hJ ["steps","start"] kH:=mi DS.fn T;have GW:ak P w K mg base aD 1 xP pz qJ F6:=HQ DW.fn T;have GT:ak P w K mg base (jS P w) 2 fT fc ["self","k"] (vT (K:=K) C E1):=y4 M.tF M.m.wc M.wh M.x1 T;refine F.ok Nk (λvs H Q E h=>?_) (λcdv A outer s H vs Q E hr h=>?_)
 ·obtain⟨x,l,ms,ps,ks,j,rfl,_⟩:=h;rfl
 ·obtain⟨x,l,ms,ps,ks,j,rfl,n,hj,k⟩:=h;have h1:=hr.mono (j:=1) (by decide);have h2:=hr.mono (j:=2) (by decide);refine⟨_,aj (aM (i:=3) Nk.nd rfl (Or.inl rfl) (aw GS h1 rfl DS.aO DS.fn.kp DS.b .nil aA (aa (aw GF hr rfl DF.aO DF.fn.kp DF.b .nil aA (aa (pv 0) (aa (aw GW h1 rfl DW.aO DW.fn.kp DW.b .nil aA (aa (pv 1) (aa (pv 2) ae))) ae)))
    (aa (aY cL (yM (pv 0) M.m.wc.cl M.tM GT h2 M.tB .nil G0 (aa (pv 2) ae)) ax (λ_ _=>rfl)) ae))))
   (ai (aB (Eu (aS fF (ay aE (by rfl) T.len aav (aa (pv 3) ae)) (ay aE (by rfl) T.len aav (aa (dg (pv 0) M.m.wc.cl M.m.pM GP h1 M.m.pB .nil aA) ae)) (aU _)) d6 (bD dv (by rfl) T.tuple aa4 (aa (pv 3) ae))))),?_⟩
  try rw[bu]
  have lk:=n.rs.len;have fE:=n.nm.good.aJ;have lj:=n.rs.lt j hj;have ej:=aad lj;have Yb:=n.nm.good.ins _ (aak ej);refine⟨_,rfl,_,rfl,_,rfl,l,ks,j,rfl,n.nm.hl,by omega,λq nq=>?_⟩;have sq:=ag (o:=.lst (nV (bk ks j))) nq;have hq:upd H q (.lst (nV (bk ks j))) q=some (.lst (nV (bk ks j))):=af;rw[show(ks.filter λi=>decide (i≠j))=bk ks j from rfl];generalize upd H q (.lst (nV (bk ks j)))=H1 at sq hq⊢;have lb:(bk ks j).length<=ks.length:=abh _ _;have n1:=n.same sq;refine⟨x,q,ms,ps,bk ks j,rfl,⟨n1.nm.gP,n1.nm.good,hq,λi hi=>n.nm.lt i (jh.mp hi).1,by omega⟩,λd ls H2 hS s2=>?_⟩;have s02:=sq.trans s2;obtain⟨d0,f0,q0,r0⟩:=(n.same s02).nm.gP.ja "tie";refine⟨_,rfl,x,d0,f0,rfl,q0,r0,_,rfl,x,ms,ps,_,rfl,(n.same s02).nm.gP,.inl ⟨j,ps[j],rfl,ej,λt ht=>?_⟩⟩;refine⟨t,_,_,_,rfl,rfl,aZ.of ht,aQ (j:=1) rfl,?_⟩;have lg:=xx ps (bk ks j);refine⟨d,_,aK ms,gr ps (bk ks j),ls,rfl,hS,eY n.nm.good.good.nd,by rw[cy];exact n.nm.good.good.aJ,uV n.nm.good.uf _,by omega,bx.mpr Yb.2,λl3 H3 n3 h3 s3=>?_⟩;have Yc:cE (aK ms) (gr ps (bk ks j)) ps[j].2=tl ms ps ks j:=by unfold tl;rw[adw,ej];rfl
  rw[Yc] at h3;have s03:=s02.trans s3;obtain⟨d4,f4,q4,r4⟩:=(n.same s03).nm.gP.ja "places";refine⟨_,rfl,l3,_,rfl,.inl (ar.of h3),_,rfl,x,d4,f4,rfl,q4,r4,x,ms,ps,rfl,(n.same s03).nm.gP,λl4 n4=>⟨l4,_,rfl,.inl (ar.of af),?_⟩⟩;have s4:=ag (o:=.lst ((aK ms).map V.str)) n4;have h34:=s4 _ _ h3;generalize upd H3 l4 (.lst ((aK ms).map V.str))=H4 at s4 h34⊢;refine⟨rfl,_,rfl,?_⟩;rw[aaa,aaa,cy];have le:(tl ms ps ks j).length<=ms.length:=by unfold tl;rw[<-cy ms];exact IW
  by_cases c:Wt ms ps ks j
  ·have c':(tl ms ps ks j).length<ms.length:=c;rw[aaA (by intro e;injection e with e;omega)];refine aP ⟨_,rfl,l3,_,rfl,.inl ⟨ar.of h34,λt nt=>?_⟩⟩;exact k _ _ (.inr ⟨t,rfl,af,c⟩) (s03.trans (s4.trans (ag nt)))
  ·have c':¬ (tl ms ps ks j).length<ms.length:=c;have e:(tl ms ps ks j).length=ms.length:=by omega
   rw[decide_eq_true (by rw[e])];exact bt (k _ _ (.inl ⟨rfl,c⟩) (s03.trans s4))
open Classical in
noncomputable def wl(ms:List Str)(ps:List (Str×Str))(ks:List Nat)(i:Nat):List Nat:=(ks.take i).filter λk=>decide (Wt ms ps ks k)
theorem zQ{ms:List Str}{ps:List (Str×Str)}{ks:List Nat}{i k:Nat}(e:ks[i]?=some k):nV (wl ms ps ks (i+1))=nV (wl ms ps ks i)++(open Classical in if Wt ms ps ks k then [V.int (k:Int)] else []):=by
 unfold wl nV;rw[aaC,e,abU,aaN];congr 1;rw[abV,ack];by_cases c:Wt ms ps ks k
 ·rw[if_pos c,if_pos (by simpa using c)];rfl
 ·rw[if_neg c,if_neg (by simpa using c)];rfl
def F8(C:Addr):Sp:=λvs H Q _=>∃(x l:Addr) (ms:List Str) (ps:List (Str×Str)) (ks:List Nat),vs=[.ref x,.ref l]/\Nr C H x l ms ps ks/\∀q H',H q=none->H' q=some (.lst (nV (wl ms ps ks ks.length)))->av H H'->Q (.ref q) H'
theorem Va:aF aW aW (ao zN):=⟨rfl,rfl,rfl,by decide +kernel,rfl,by decide +kernel,by decide +kernel⟩
theorem PF{f:Addr}{fd:FuncData}(F:aX K "wanted_of" "wanted_of" zN f fd)(DL:Df K mg "least_tight" DY zP DZ xQ)(GL:ak P w K mg base aD 4 DZ xQ zP (F7 C))(T:bK mg):ak P w K mg base aD 5 f fd aW (F8 C):=by
 refine F.ok Va (λvs H Q E h=>?_) (λcdv A outer s H vs Q E hr h=>?_)
 ·obtain⟨x,l,ms,ps,ks,rfl,_⟩:=h;rfl
 ·obtain⟨x,l,ms,ps,ks,rfl,n,k⟩:=h;refine⟨_,ai (aB (cV ["k"] [0,1] rfl (bQ (osc:=(ao zN).names) (N:=aW) rfl rfl (by decide +kernel)) (bJ (by decide)) (bh (pv 1))
     (λ_ _ _=>aI (i:=0) (show(["k","web","ties"]:List Str).Nodup by decide +kernel) rfl (Or.inl rfl)) (λ_ _ _=>fR (aS yK (aw GL hr rfl DL.aO DL.fn.kp DL.b .nil aA (aa (pv 1) (aa (pv 2) (aa (pv 0) ae)))) d6 (aU _)))
     (λ_ _ _=>pv 0))),?_⟩
  try rw[bu]
  have big:1000<=sizeLine:=by decide
  have lk:=n.rs.len;have fE:=n.nm.good.aJ;refine⟨_,rfl,l,rfl,⟨_,ar.of n.nm.hl⟩,cu (K:=K) (xs:=nV ks) (λi ys HH=>av H HH/\ys=nV (wl ms ps ks i)) ⟨av.refl _,rfl⟩ ?_ ?_ ?_ ?_⟩
  ·rintro i ys HH hi ⟨_,rfl⟩;rw[bN];exact aam (abh _ _) (by rw[aaP];omega)
  ·rintro i ys HH _ ⟨sH,_⟩;exact ar.of (sH _ _ n.nm.hl)
  ·rintro i v ys HH R hv ⟨sH,rfl⟩ kR;unfold nV at hv;rw[aan] at hv;obtain⟨j,ej,rfl⟩:=aap.mp hv;simp only[bF];refine⟨_,rfl,_,rfl,_,rfl,x,l,ms,ps,ks,j,rfl,n.same sH,aak ej,λv H' hv s'=>⟨rfl,_,rfl,?_⟩⟩;rcases hv with⟨rfl,nw⟩|⟨t,rfl,ht,wt⟩
   ·refine aP (kR _ _ ⟨sH.trans s',?_⟩);rw[zQ ej,if_neg nw,abA]
   ·refine bt ⟨_,rfl,kR _ _ ⟨sH.trans s',?_⟩⟩;rw[zQ ej,if_pos wt]
  rintro ys HH ⟨sH,rfl⟩ D nD;rw[bN];exact k D _ (sH.free nD) af (sH.trans (ag nD))
end
open PySem PySem.Spec PyProof.Rows L2 L3 L6
abbrev oq:Stmt:=top 41 -- VU
abbrev qK:Stmt:=top 42 -- Sn
def Ln(ms:List Str)(ps:List (Str×Str))(ks:List Nat):Prop:=Full ms ps ks/\∀k∈ks,¬ Full ms ps (bk ks k)
theorem D3{ms:List Str}{ps:List (Str×Str)}{ks:List Nat}{k:Nat}(g:GoodW ms ps)(rs:Rs ps ks)(fu:Full ms ps ks)(hk:k∈ks):Wt ms ps ks k ↔ ¬ Full ms ps (bk ks k):=by
 have lk:=rs.lt k hk;obtain⟨e,ek⟩:∃e,ps[k]?=some e:=⟨_,aad lk⟩
 have hi:=g.ins _ (aak ek);rw[Nh g.good.nd ek];constructor
 ·rintro⟨z,hz,n⟩ f;exact n (f _ hi.2 z hz)
 ·intro n;refine aaF λno=>n λa ha b hb=>?_;have al:∀z∈ms,bP (gr ps (bk ks k)) e.2 z:=λz hz=>aaF λm=>no ⟨z,hz,m⟩;refine(fu a ha b hb).stays (S:=λy=>bP (gr ps (bk ks k)) a y) (.here _) λp hp h=>?_;rcases F5 hp with q|⟨j,hj,ej⟩
  ·exact h.on (Ni q)
  ·by_cases c:j=k
   ·subst c;rw[ek] at ej;have r:=al e.1 hi.1;rw[aat ej] at r;exact h.trans r
   ·exact h.on (Nj (p:=(p.2,p.1)) (jh.mpr ⟨hj,c⟩) ej)
open Classical in
noncomputable def zR(ms:List Str)(ps:List (Str×Str))(l:List Nat)(k:Nat):List Nat:=if Full ms ps (bk l k) then bk l k else l
noncomputable def iB(ms:List Str)(ps:List (Str×Str))(ks:List Nat)(i:Nat):List Nat:=(ks.take i).foldl (zR ms ps) ks
noncomputable def mQ(ms:List Str)(ps:List (Str×Str))(ks:List Nat):List Nat:=iB ms ps ks ks.length
theorem nA{ms:List Str}{ps:List (Str×Str)}{l:List Nat}{k:Nat}(h:Full ms ps (bk l k)):zR ms ps l k=bk l k:=if_pos h
theorem j5{ms:List Str}{ps:List (Str×Str)}{l:List Nat}{k:Nat}(h:¬ Full ms ps (bk l k)):zR ms ps l k=l:=if_neg h
theorem Bg(l:List Nat)(k:Nat):(bk l k).Sublist l:=List.filter_sublist
theorem Nl(ms:List Str)(ps:List (Str×Str))(l:List Nat)(k:Nat):(zR ms ps l k).Sublist l:=by
 by_cases h:Full ms ps (bk l k)
 ·rw[nA h];exact Bg l k
 ·rw[j5 h];exact ae1 l
theorem ji{ms:List Str}{ps:List (Str×Str)}{ks:List Nat}{i k:Nat}(e:ks[i]?=some k):iB ms ps ks (i+1)=zR ms ps (iB ms ps ks i) k:=by unfold iB;rw[aaC,e,adx];rfl
theorem nB{ms:List Str}{ps:List (Str×Str)}{ks:List Nat}{S:Nat->List Nat->Prop}(h0:S 0 ks)(hs:∀i k l,ks[i]?=some k->S i l->S (i+1) (zR ms ps l k)):∀i,i<=ks.length->S i (iB ms ps ks i)
 |0,_=>h0
 |i+1,h=>by have e:=aad (show i<ks.length by omega);rw[ji e];exact hs i _ _ e (nB h0 hs i (by omega))
theorem xR(ms:List Str)(ps:List (Str×Str))(ks:List Nat){i:Nat}(h:i<=ks.length):(iB ms ps ks i).Sublist ks:=nB (S:=λ_ l=>l.Sublist ks) (ae1 _) (λ_ k l _ s=>(Nl ms ps l k).trans s) i h
theorem Bh{ps:List (Str×Str)}{ks ls:List Nat}(r:Rs ps ks)(s:ls.Sublist ks):Rs ps ls:=⟨r.up.sublist s,λk hk=>r.lt k (s.subset hk)⟩
theorem Np{ms:List Str}{ps:List (Str×Str)}{ks:List Nat}(r:Rs ps ks):Rs ps (mQ ms ps ks):=Bh r (xR ms ps ks (aac _))
theorem xS{ms:List Str}{ps:List (Str×Str)}{ks:List Nat}(fu:Full ms ps ks):Ln ms ps (mQ ms ps ks):=by
 have h:=nB (ms:=ms) (ps:=ps) (ks:=ks) (S:=λi l=>(∀x∈l,x∈ks)/\Full ms ps l/\∀j k,j<i->ks[j]?=some k->k∈l->¬ Full ms ps (bk l k)) ⟨λ_ h=>h,fu,λ_ _ h=>nomatch h⟩ (λi k l e ⟨sb,f,al⟩=>by
  by_cases c:Full ms ps (bk l k)
  ·rw[nA c];refine⟨λx hx=>sb x (jh.mp hx).1,c,λj y hj ej hy=>?_⟩;have ny:=(jh.mp hy)
   have ze:j<i:=by refine aeJ (by omega) λz=>?_;rw[z,e] at ej;exact ny.2 (aat ej).symm
   refine λf2=>al j y ze ej ny.1 (f2.mono λx hx=>?_)
   have:=jh.mp hx
   exact jh.mpr ⟨(jh.mp this.1).1,this.2⟩
  ·rw[j5 c];refine⟨sb,f,λj y hj ej hy=>?_⟩;by_cases z:j=i
   ·rw[z,e] at ej;rw[<-aat ej];exact c
   ·exact al j y (by omega) ej hy) ks.length (aac _)
 refine⟨h.2.1,λk hk=>?_⟩;obtain⟨j,hj,e⟩:=abC (h.1 k hk);exact h.2.2 j k hj (by rw[<-e];exact aad hj) hk
theorem F9{ms:List Str}{ps:List (Str×Str)}{ks:List Nat}(fu:Full ms ps ks):mQ ms ps ks=ks ↔ Ln ms ps ks:=by
 constructor
 ·intro e
  have:=xS fu
  rw[e] at this;exact this
 ·intro ln;exact nB (ms:=ms) (ps:=ps) (ks:=ks) (S:=λ_ l=>l=ks) rfl (λi k l e h=>by subst h;exact j5 (ln.2 k (aak e))) ks.length (aac _)
theorem JN{ms:List Str}{ps:List (Str×Str)}{ks:List Nat}(g:GoodW ms ps)(rs:Rs ps ks)(fu:Full ms ps ks):wl ms ps ks ks.length=ks ↔ Ln ms ps ks:=by
 unfold wl;rw[abb,aeu];constructor
 ·intro h;exact⟨fu,λk hk=>(D3 g rs fu hk).mp (by simpa using h k hk)⟩
 ·intro h k hk;simpa using(D3 g rs fu hk).mpr (h.2 k hk)
theorem D6(a b:List Nat):hG (nV a) (nV b)=decide (a=b):=by
 have e:∀l:List Nat,nV l=(l.map λ(k:Nat)=>(k:Int)).map V.int:=λl=>by unfold nV;rw[abD];rfl
 rw[e,e,oR,abz,aaL,aaL];constructor
 ·intro h;exact List.map_inj_right (λx y z=>by have z:(x:Int)=(y:Int):=z;omega) |>.mp h
 ·intro h;rw[h]
section
variable {P:Program}{w:World}{K:PySem.W.Frag}{mg:Str->Option Value}{base:Heap}
variable {C E1 E4 E5 zI zO rS jD xP:Addr}{rR rT nv gO pz:FuncData}
def xT(x l:Addr)(ms:List Str)(ps:List (Str×Str))(ks:List Nat)(H:Hp)(Q:VK)(E:XK):Prop:=∀b H',(b=true ↔ Ln ms ps ks)->av H H'->Q (.bl b) H'
theorem Vb:aF aW aW (ao oq):=⟨rfl,rfl,rfl,by decide +kernel,rfl,by decide +kernel,by decide +kernel⟩
theorem PH{f:Addr}{fd:FuncData}(F:aX K "is_lean" "is_lean" oq f fd)(DM:Df K mg "is_meeter" qx aW zI rR)(GM:ak P w K mg base (bR P w) 7 zI rR aW (Ask K C E1 E4 F1))(DO:Df K mg "wanted_of" zN aW zO rT)(GO:ak P w K mg base aD 5 zO rT aW (F8 C)):ak P w K mg base (bR P w) 8 f fd aW (Ask K C E1 E4 xT):=by
 refine F.qF Vb (λvs H Q E h=>?_) (λcdv A outer s H vs Q E hr h=>?_)
 ·obtain⟨x,y,ms,ps,rfl,_⟩:=h;rfl
 ·obtain⟨x,y,ms,ps,rfl,hW,g,k1,k2⟩:=h;have h5:=hr.mono (j:=5) (by decide);refine⟨_,ai (aB (eM (aw GM hr rfl DM.aO DM.fn.kp DM.b .nil jE (aa (pv 0) (aa (pv 1) ae))) (fk (cP (kB (low 0 hr)) (aw GO h5 rfl DO.aO DO.fn.kp DO.b .nil aA (aa (pv 0) (aa (pv 1) ae))) (pv 1) (aU _))))),?_⟩;try rw[bu]
  refine⟨_,rfl,_,rfl,x,y,ms,ps,rfl,hW,g,k1,λhh=>?_⟩;rcases k2 hh with⟨l,ks,rfl,hl,rs,r⟩|o
  ·refine .inl ⟨l,ks,rfl,hl,rs,λb H1 eb s1=>⟨_,rfl,?_⟩⟩;cases b with
   |false=>exact aP (r false H1 ⟨(λz=>nomatch z),λln=>absurd (eb.mpr ln.1) (by simp)⟩ s1)
   |true =>have fu:=eb.mp rfl;have xg:=s1 _ _ hl;refine bt ⟨_,rfl,_,rfl,x,l,ms,ps,ks,rfl,⟨qD (hW.same s1) g xg rs,rs⟩,λq H2 nq hq s2=>?_⟩;refine⟨_,rfl,q,l,_,_,rfl,rfl,.inl ⟨ar.of hq,ar.of (s2 _ _ xg)⟩,mO _,mO _,?_⟩;rw[D6];exact r _ H2 (by rw[if_neg (by simp),aaL,JN g rs fu]) (s1.trans s2)
  ·exact .inr o
def xU(E5:Addr)(x l:Addr)(ms:List Str)(ps:List (Str×Str))(ks:List Nat)(H:Hp)(Q:VK)(E:XK):Prop:=(Full ms ps ks->∀q H',H q=none->H' q=some (.lst (nV (mQ ms ps ks)))->av H H'->Q (.ref q) H')/\(¬ Full ms ps ks->zK E5 H ms ps ks E)
abbrev Yd:List Str:=["web","ties","kept","k"]
theorem Bi:aF Yd aW (ao qK):=⟨rfl,rfl,rfl,by decide +kernel,rfl,by decide +kernel,by decide +kernel⟩
theorem PJ{f:Addr}{fd:FuncData}(F:aX K "made_lean" "made_lean" qK f fd)(DC:Df K mg "check_meeter" mI aW rS nv)(GC:ak P w K mg base (bR P w) 6 rS nv aW (Ask K C E1 E4 (F3 E5)))(DB:Df K mg "missed_by" jX aW jD gO)(GB:ak P w K mg base aD 4 jD gO aW (FZ C))(DW:Df K mg "without" xq qJ xP pz)(T:bK mg):ak P w K mg base (bR P w) 7 f fd aW (Ask K C E1 E4 (xU E5)):=by
 have GW:ak P w K mg base aD 1 xP pz qJ F6:=HQ DW.fn T;refine F.qF Bi (λvs H Q E h=>?_) (λcdv A outer s H vs Q E hr h=>?_)
 ·obtain⟨x,y,ms,ps,rfl,_⟩:=h;rfl
 ·obtain⟨x,y,ms,ps,rfl,hW,g,k1,k2⟩:=h;have h1:=hr.mono (j:=1) (by decide);have h4:=hr.mono (j:=4) (by decide);refine⟨_,aj (cb (aw GC hr rfl DC.aO DC.fn.kp DC.b .nil jE (aa (pv 0) (aa (pv 1) ae))))
   (aj (aM (i:=2) Bi.nd rfl (Or.inl rfl) (bD di (by rfl) T.list aaS (aa (pv 1) ae)))
   (aj (cI agt rfl (bh (pv 1)) (aI (i:=3) Bi.nd rfl (Or.inl rfl))
    (ai (ba (aS BM (aw GB h4 rfl DB.aO DB.fn.kp DB.b .nil aA (aa (pv 0) (aa (aw GW h1 rfl DW.aO DW.fn.kp DW.b .nil aA (aa (pv 2) (aa (pv 3) ae))) ae))) d6 (aU _))
     (ai (aM (i:=2) Bi.nd rfl (Or.inl rfl) (aw GW h1 rfl DW.aO DW.fn.kp DW.b .nil aA (aa (pv 2) (aa (pv 3) ae))))) aR)))
   (ai (aB (pv 2))))),?_⟩
  try rw[bu]
  refine⟨_,rfl,_,rfl,x,y,ms,ps,rfl,hW,g,k1,λhh=>?_⟩;rcases k2 hh with⟨l,ks,rfl,hl,rs,r1,r2⟩|o
  ·refine .inl ⟨l,ks,rfl,hl,rs,λfu H1 s1=>?_,r2⟩;have r:=r1 fu;have fE:=g.aJ;have lk:=rs.len;refine⟨_,rfl,l,_,rfl,.inl (ar.of (s1 _ _ hl)),λq0 n0=>?_⟩;have s2:=s1.trans (ag (o:=.lst (nV ks)) n0);have D7:=af (H:=H1) (a:=q0) (o:=.lst (nV ks));have f0:=s1.free n0;generalize upd H1 q0 (.lst (nV ks))=H2 at s2 D7⊢;have hl2:=s2 _ _ hl;refine⟨_,rfl,l,rfl,⟨_,ar.of hl2⟩,?_⟩;refine dY (K:=K) (xs:=nV ks) (λi σ HH=>∃(q:Addr) (v3:Option V),σ=[some (.ref x),some (.ref l),some (.ref q),v3]/\av H HH/\H q=none/\HH q=some (.lst (nV (iB ms ps ks i)))) ⟨q0,_,rfl,s2,f0,D7⟩ ?_ ?_ ?_
   ·rintro i σ HH _ ⟨_,_,rfl,sH,_⟩;exact ar.of (sH _ _ hl)
   ·rintro i v σ HH hv ⟨q,v3,rfl,sH,fq,hq⟩;unfold nV at hv;rw[aan] at hv;obtain⟨j,ej,rfl⟩:=aap.mp hv;have hi:i<ks.length:=(aaB.mp ej).1;have sl:=xR ms ps ks (aaU hi);have ll:=sl.length_le;have rb:=Bh rs ((Bg (iB ms ps ks i) j).trans sl);refine⟨_,rfl,_,rfl,_,rfl,q,_,j,rfl,hq,by omega,λq2 n2=>?_⟩;rw[show((iB ms ps ks i).filter λi=>decide (i≠j))=bk (iB ms ps ks i) j from rfl];have t2:=ag (o:=.lst (nV (bk (iB ms ps ks i) j))) n2;have gW:=af (H:=HH) (a:=q2) (o:=.lst (nV (bk (iB ms ps ks i) j)));generalize upd HH q2 (.lst (nV (bk (iB ms ps ks i) j)))=HA at t2 gW⊢;refine⟨x,q2,ms,ps,_,rfl,qD (hW.same (sH.trans t2)) g gW rb,λv HB e sB=>⟨rfl,_,rfl,?_⟩⟩;have mn:=ph (ps:=ps) (ks:=bk (iB ms ps ks i) j) g.good.nd;cases em:j0 ms ps (bk (iB ms ps ks i) j) with
    |none =>rw[em] at e;obtain rfl:v=.aN:=e;have So:=sH.trans (t2.trans sB);refine bt ⟨_,rfl,_,rfl,q,_,j,rfl,(t2.trans sB) _ _ hq,by omega,λq3 n3=>?_⟩;refine⟨q3,_,rfl,So.trans (ag n3),So.free n3,?_⟩;rw[af,ji ej,nA (mn.mp em)];rfl
    |some zs =>rw[em] at e;obtain⟨t,rfl,_⟩:=e;refine aP ⟨q,_,rfl,sH.trans (t2.trans sB),fq,?_⟩;rw[ji ej,j5 λz=>by rw[mn.mpr z] at em;cases em];exact(t2.trans sB) _ _ hq
   ·rintro σ HH ⟨q,v3,rfl,sH,fq,hq⟩;rw[bN] at hq;exact⟨_,rfl,r q HH fq hq sH⟩
  ·exact .inr o
end
open PySem PySem.Spec PyProof.Rows L2 L3
abbrev rV:Stmt:=top 52 -- PK
structure Fa(ns:List Str)(ps:List (Str×Str))(a:Str)(zs:List Str):Prop where
 nd:zs.Nodup
 sub:∀z∈zs,z∈ns
 cE:∀z∈zs,bP ps a z
 mem:a∈zs
section
variable {P:Program}{w:World}{K:PySem.W.Frag}{mg:Str->Option Value}{base:Heap}
def Bj:Sp:=λvs H Q _=>∃(b:Addr) (a:Str) (ns:List Str) (ts:List Addr) (ps:List (Str×Str)),vs=[.ref b,.str a]/\H b=some (.lst (ts.map V.ref))/\aV H ts ps/\ns.length<=12/\fb ns ps/\a∈ns/\∀(l:Addr) (zs:List Str) (H':Hp),H l=none->zs.Nodup->(∀z∈zs,z∈ns)->(∀z,z∈zs ↔ bP ps a z)->H' l=some (.lst (zs.map V.str))->av H H'->Q (.ref l) H'
abbrev Vc:List Str:=["_law_ties","_law_place","_law_found","_law_at","_law_one","_law_other"]
theorem nC:aF Vc ["_law_ties","_law_place"] (ao rV):=⟨rfl,rfl,rfl,by decide +kernel,rfl,by decide +kernel,by decide +kernel⟩
def Sq(b fo:Addr)(a:Str)(ns:List Str)(ps:List (Str×Str))(H:Hp)(m:Nat)(σ:L2.St)(H2:Hp):Prop:=
 ∃(n:Nat) (v4 v5:Option V) (zs:List Str),σ=[some (.ref b),some (.str a),some (.ref fo),some (.int (n:Int)),v4,v5]/\av H H2/\H2 fo=some (.lst (zs.map V.str))/\Fa ns ps a zs/\n<=zs.length /\
  (∀p∈ps,p.1∈zs.take n->p.2∈zs)/\m=ns.length-n
theorem D8{f:Addr}{fd:FuncData}(F:aX K "_law_reach" "_law_reach" rV f fd)(T:bK mg):ak P w K mg base aD 1 f fd ["_law_ties","_law_place"] Bj:=by
 refine F.ok nC (λvs H Q E h=>?_) (λcdv A outer s H vs Q E hr h=>?_)
 ·obtain⟨b,a,ns,ts,ps,rfl,_⟩:=h;rfl
 ·obtain⟨b,a,ns,ts,ps,rfl,hb,hT,aJ,gi,ha,k⟩:=h;refine⟨_,aj (aM (i:=2) nC.nd rfl (Or.inl rfl) (br (aa (pv 1) ae)))
   (aj (aM (i:=3) nC.nd rfl (Or.inl rfl) ax)
   (aj (vd aaX (aS ic (pv 3) (ay aE (by rfl) T.len aav (aa (pv 2) ae)) (aU _))
    (aj (cI aaX rfl (bh (pv 0)) (ir rfl (bU (aI (i:=4) nC.nd rfl (Or.inl rfl)) (bU (aI (i:=5) nC.nd rfl (Or.inl rfl)) gf)))
     (ai (ba (PW.pt (iW (aS fF (pv 4) (aY bj (pv 2) (pv 3) (λ_ _=>rfl)) (aU _)) (iT (aS i5 (pv 5) (pv 2) rfl))))
      (ai (cb (ik aa5 abr abt gn (pv 2) (aa (pv 5) ae)))) aR)))
    (ai (Kn (i:=3) nC.nd rfl (Or.inl rfl) ax Ko))))
   (ai (aB (pv 2))))),?_⟩
  try rw[bu]
  refine⟨_,rfl,(by show 1<=sizeLine;decide),λfo Nq=>?_⟩;refine⟨Sq b fo a ns ps H,⟨_,0,_,_,[a],rfl,ag Nq,af,⟨by simp,λz hz=>by rw[aaf.mp hz];exact ha,λz hz=>by rw[aaf.mp hz];exact .here _,aaf.mpr rfl⟩,aaG _,λp _ h=>by simp at h,rfl⟩,?_⟩;rintro m σ H2 ⟨n,v4,v5,zs,rfl,s2,F',FL,ZP,cl,rfl⟩;have Ri:zs.length<=ns.length:=iR FL.nd FL.sub;refine⟨_,rfl,_,rfl,fo,_,rfl,.inl (ar.of F'),_,_,rfl,rfl,_,rfl,?_⟩;rw[aaa];refine cS (λc=>?_) (λc=>?_)
  ·have hn:n<zs.length:=by have:=of_decide_eq_true c;omega
   have ey:=aad hn;refine⟨λσ' H'=>∃m',m'<ns.length-n/\Sq b fo a ns ps H m' σ' H',λσ' H' h=>h,?_⟩;refine⟨_,rfl,b,rfl,⟨_,ar.of (s2 _ _ hb)⟩,?_⟩;refine dY (K:=K) (xs:=ts.map V.ref) (λi σ H4=>∃(v4 v5:Option V) (zs4:List Str),σ=[some (.ref b),some (.str a),some (.ref fo),some (.int (n:Int)),v4,v5]/\av H H4/\H4 fo=some (.lst (zs4.map V.str))/\Fa ns ps a zs4/\zs <+: zs4/\(∀p∈ps.take i,p.1=zs[n]->p.2∈zs4))
    ⟨_,_,zs,rfl,s2,F',FL,List.prefix_refl _,λp hp=>by simp at hp⟩ ?_ ?_ ?_
   ·rintro i σ H4 _ ⟨_,_,_,rfl,s4,_⟩;exact ar.of (s4 _ _ hb)
   ·rintro i y σ H4 hy ⟨v4,v5,zs4,rfl,s4,mR,F4,pre,dn⟩;rw[aan] at hy;obtain⟨u,eu,rfl⟩:=aap.mp hy;obtain⟨pr,ep,Ly⟩:=hT.get eu;have hm:pr∈ps:=aak ep;have et:ps.take (i+1)=ps.take i++[pr]:=by rw[aaC,ep];rfl
    have LG:=iR F4.nd F4.sub;have Sr:zs4[n]?=some zs[n]:=by obtain⟨r,rfl⟩:=pre;rw[aa6 hn,ey]
    have Ye:zs[n]∈zs4:=aak Sr;refine⟨u,_,rfl,aZ.of (s4 _ _ Ly),rfl,_,_,rfl,_,_,rfl,rfl,?_⟩;refine⟨_,rfl,_,rfl,_,rfl,fo,_,_,_,rfl,rfl,ar.of mR,aQ (j:=n) (v:=V.str zs[n]) (by rw[aan,Sr];rfl),rfl,_,rfl,?_⟩;have keep:∀{HR:List Str},(∀z∈zs4,z∈HR)->(pr.1=zs[n]->pr.2∈HR)->∀p∈ps.take (i+1),p.1=zs[n]->p.2∈HR:=λ{HR} sub h p hp e=>by
     rw[et] at hp;rcases aas.mp hp with q|q
     ·exact sub _ (dn p q e)
     ·rw[aaf.mp q] at e⊢;exact h e
    by_cases e1:pr.1=zs[n]
    ·rw[e1,decide_eq_true rfl];refine bt ⟨_,rfl,_,rfl,fo,_,rfl,.inl (ar.of mR),rfl,cN zs4,_,rfl,?_⟩;simp only[aa3];rw[e9];by_cases h2:pr.2∈zs4
     ·rw[decide_eq_true h2];exact aP ⟨_,_,zs4,rfl,s4,mR,F4,pre,keep (λ_ h=>h) λ_=>h2⟩
     ·rw[aaA h2];refine bt ⟨_,rfl,.inl ⟨rfl,_,ar.of mR⟩,_,rfl,fo,_,_,rfl,rfl,mR,(by rw[aaa];exact eT (by omega)),?_⟩;have Yf:(zs4++[pr.2]).Nodup:=g7 F4.nd h2;have Vd:∀z∈zs4++[pr.2],z∈ns:=λz hz=>(aas.mp hz).elim (F4.sub z) λe=>by rw[aaf.mp e];exact(gi pr hm).2
      refine⟨_,_,zs4++[pr.2],rfl,av.cR s4 Nq,by rw[af];simp,⟨Yf,Vd,λz hz=>(aas.mp hz).elim (F4.cE z) λe=>by rw[aaf.mp e];exact(F4.cE pr.1 (e1▸Ye)).on hm,aax _ F4.mem⟩,pre.trans (List.prefix_append _ _),keep (λ_ h=>aax _ h) λ_=>aaj _ (aaf.mpr rfl)⟩
    ·rw[aaA (show ¬ V.str pr.1=V.str zs[n] from λe=>e1 (by injection e))];exact aP ⟨_,_,zs4,rfl,s4,mR,F4,pre,keep (λ_ h=>h) λe=>absurd e e1⟩
   ·rintro σ H4 ⟨v4,v5,zs4,rfl,s4,mR,F4,pre,dn⟩;rw[aaa,hT.len,aaR (aac _)] at dn;refine⟨_,rfl,(n:Int),1,rfl,rfl,ns.length-(n+1),by omega,n+1,_,_,zs4,rfl,s4,mR,F4,?_,λp hp h=>?_,rfl⟩
    ·have:=pre.length_le;omega
    ·obtain⟨r,rfl⟩:=pre;rw[List.take_append_of_le_length (by omega),aaC,ey] at h;rcases aas.mp h with q|q
     ·exact aax _ (cl p hp q)
     ·exact dn p hp (aaf.mp q)
  ·have hn:n=zs.length:=by
    have:¬ ((n:Int)<(zs.length:Int)):=λh=>c (decide_eq_true h)
    omega
   rw[hn,abb] at cl;have all:∀z,z∈zs ↔ bP ps a z:=λz=>⟨FL.cE z,λr=>r.stays (S:=(·∈zs)) FL.mem λp hp h1=>cl p hp h1⟩
   exact⟨_,rfl,k fo zs _ Nq FL.nd FL.sub all F' s2⟩
end
abbrev xV:Stmt:=top 53 -- JO
abbrev zS:Stmt:=top 54 -- JP
abbrev xW:Stmt:=top 55 -- PL
abbrev zT:Stmt:=top 56 -- JQ
abbrev rW:Stmt:=top 57 -- OQ
def bw(ps:List (Str×Str))(ks:List Nat):List (Str×Str):=sel ps ks++turn (sel ps ks)
abbrev Nt(K:PySem.W.Frag):List V->Hp->VK->Prop:=λxs H Q=>∃(p:Addr) (ys:List V),xs=[V.ref p]/\(ar K H p ys\/aZ K H p ys)/\Q (V.int ys.length) H
theorem zU{ms zs:List Str}{gs:List (Str×Str)}{a:Str}(nd:ms.Nodup)(nz:zs.Nodup)(sub:∀z∈zs,z∈ms)(al:∀z,z∈zs ↔ bP gs a z):zs.length=ms.length ↔ ∀b∈ms,bP gs a b:=by
 constructor
 ·intro e b hb;have p:=d9 nz sub (by omega);exact(al b).mp (p.mem_iff.mpr hb)
 ·intro h;have h1:=iR nz sub;have h2:=iR nd (λb hb=>(al b).mpr (h b hb));omega
theorem JR{a b:Nat}:V.int (a:Int)=V.int (b:Int) ↔ a=b:=by
 constructor
 ·intro h
  have:(a:Int)=(b:Int):=by injection h
  omega
 ·intro h;rw[h]
section
variable {P:Program}{w:World}{K:PySem.W.Frag}{mg:Str->Option Value}{base:Heap}
variable {qL D9 ux:Addr}{kX xX mS:FuncData}
def Nu:Sp:=λvs H Q _=>∃(b l:Addr) (ts:List Addr) (ps:List (Str×Str)) (ks:List Nat),vs=[.ref b,.ref l]/\H b=some (.lst (ts.map V.ref))/\aV H ts ps/\H l=some (.lst (nV ks))/\(∀k∈ks,k<ps.length)/\ks.length<=30 /\
 ∀(r:Addr) (us:List Addr) (H':Hp),H r=none->H' r=some (.lst (us.map V.ref))->aV H' us (bw ps ks)->av H H'->Q (.ref r) H'
abbrev uy:List Str:=["_law_pairs_here","_law_some_here"]
theorem Ve:aF uy uy (ao xV):=⟨rfl,rfl,rfl,by decide +kernel,rfl,by decide +kernel,by decide +kernel⟩
theorem PM{f:Addr}{fd:FuncData}(F:aX K "_law_both_ways" "_law_both_ways" xV f fd)(T:bK mg):ak P w K mg base aD 1 f fd uy Nu:=by
 refine F.ok Ve (λvs H Q E h=>?_) (λcdv A outer s H vs Q E hr h=>?_)
 ·obtain⟨b,l,ts,ps,ks,rfl,_⟩:=h;rfl
 ·obtain⟨b,l,ts,ps,ks,rfl,hb,hT,hl,lt,aJ,k⟩:=h;refine⟨_,ai (aB (bo eR (cV ["_law_k"] [0] rfl (bQ (osc:=(ao xV).names) (N:=uy) rfl rfl (by decide +kernel)) (bJ (by decide)) (bh (pv 1))
    (λ_ _ _=>aI (i:=0) (show(["_law_k","_law_pairs_here"]:List Str).Nodup by decide +kernel) rfl (Or.inl rfl)) (λ_ _ _=>bT) (λ_ _ _=>aY (r:=qU K) bj (pv 1) (pv 0) (λ_ _=>rfl)))
   (cV ["_law_k"] [0] rfl (bQ (osc:=(ao xV).names) (N:=uy) rfl rfl (by decide +kernel)) (bJ (by decide)) (bh (pv 1))
    (λ_ _ _=>aI (i:=0) (show(["_law_k","_law_pairs_here"]:List Str).Nodup by decide +kernel) rfl (Or.inl rfl)) (λ_ _ _=>bT)
    (λ_ _ _=>cK (aa (aY (r:=vq K) cL (aY (r:=qU K) bj (pv 1) (pv 0) (λ_ _=>rfl)) ax (λ_ _=>rfl)) (aa (aY (r:=vq K) cL (aY (r:=qU K) bj (pv 1) (pv 0) (λ_ _=>rfl)) ax (λ_ _=>rfl)) ae)))))),?_⟩
  try rw[bu]
  have big:1000<=sizeLine:=by decide
  have lk:(nV ks).length=ks.length:=bN ks;have at':∀{HH:Hp} {i:Nat} {v:V},av H HH->(nV ks)[i]?=some v->∃(k:Nat) (t:Addr) (p:Str×Str),v=.int (k:Int)/\ks[i]?=some k/\ps[k]?=some p/\iM (ts.map V.ref) (k:Int)=some (.ref t)/\HH t=some (.tup [.str p.1,.str p.2]):=λ{HH i v} sH e=>by
   unfold nV at e;rw[aan] at e;obtain⟨k,ek,rfl⟩:=aap.mp e;have hk:=lt k (aak ek);have dM:k<ts.length:=by rw[hT.len];exact hk
   obtain⟨p,ep,hp⟩:=hT.get (aad dM);exact⟨k,ts[k],p,rfl,ek,ep,aQ (j:=k) (by rw[aan,aad dM];rfl),sH _ _ hp⟩
  refine⟨_,rfl,l,rfl,⟨_,ar.of hl⟩,cu (K:=K) (xs:=nV ks) (λi ys HH=>HH=H/\∃us,ys=us.map V.ref/\us.length=i/\aV H us (sel ps (ks.take i))) ⟨rfl,[],rfl,rfl,.nil⟩ ?_ ?_ ?_ ?_⟩
  ·rintro i ys HH hi ⟨_,us,rfl,e,_⟩;rw[aaa,e];omega
  ·rintro i ys HH _ ⟨rfl,_⟩;exact ar.of hl
  ·rintro i v ys HH R hv ⟨rfl,us,rfl,el,tu⟩ kR;obtain⟨k',t,p,rfl,ek,ep,et,ht⟩:=at' (av.refl _) hv;simp only[bF,dN,aa3];refine⟨_,rfl,_,rfl,b,_,_,_,rfl,rfl,ar.of hb,et,kR _ _ ⟨rfl,us++[t],by simp,by simp[el],?_⟩⟩;rw[kP ps ek ep];exact tu.snoc ht
  rintro ys HH ⟨rfl,us,rfl,el,tu⟩ D nD;rw[lk,abb] at tu;have sD:=ag (o:=.lst (us.map V.ref)) nD;have hD:=af (H:=HH) (a:=D) (o:=.lst (us.map V.ref));generalize upd HH D (.lst (us.map V.ref))=H1 at sD hD⊢;refine⟨_,rfl,l,rfl,⟨_,ar.of (sD _ _ hl)⟩,cu (K:=K) (xs:=nV ks) (λi ys HX=>av H1 HX/\∃us2,ys=us2.map V.ref/\us2.length=i/\aV HX us2 (turn (sel ps (ks.take i)))) ⟨av.refl _,[],rfl,rfl,.nil⟩ ?_ ?_ ?_ ?_⟩
  ·rintro i ys HX hi ⟨_,us2,rfl,e,_⟩;rw[aaa,e];omega
  ·rintro i ys HX _ ⟨sX,_⟩;exact ar.of (sX _ _ (sD _ _ hl))
  ·rintro i v ys HX R hv ⟨sX,us2,rfl,zV,tu2⟩ kR;obtain⟨k',t,p,rfl,ek,ep,et,ht⟩:=at' (sD.trans sX) hv;have D':=(sD.trans sX) _ _ hb;simp only[bF,dN,aa3];refine⟨_,rfl,_,rfl,b,_,_,_,rfl,rfl,ar.of D',et,t,_,_,_,rfl,rfl,aZ.of ht,aQ (j:=1) rfl,?_⟩;refine⟨_,rfl,_,rfl,b,_,_,_,rfl,rfl,ar.of D',et,t,_,_,_,rfl,rfl,aZ.of ht,aQ (j:=0) rfl,?_⟩;refine⟨(by show 2<=sizeLine;decide),λq nq=>kR _ _ ⟨sX.trans (ag nq),us2++[q],by simp,by simp[zV],?_⟩⟩;rw[kP ps ek ep];unfold turn;rw[aaN];exact(tu2.same (ag nq)).snoc (p:=(p.2,p.1)) af
  rintro ys HX ⟨sX,us2,rfl,zV,tu2⟩ D2 Nv;rw[lk,abb] at tu2;have s2:=ag (o:=.lst (us2.map V.ref)) Nv;have h2:=af (H:=HX) (a:=D2) (o:=.lst (us2.map V.ref));generalize upd HX D2 (.lst (us2.map V.ref))=H2 at s2 h2⊢;refine⟨D,D2,_,_,rfl,rfl,s2 _ _ (sX _ _ hD),h2,by rw[aaa,aaa];omega,λr nr=>?_⟩;have s3:=ag (o:=.lst (us.map V.ref++us2.map V.ref)) nr;refine k r (us++us2) _ ((sD.trans (sX.trans s2)).free nr) (by rw[af,aaN]) ?_ (sD.trans (sX.trans (s2.trans s3)));exact jC (tu.same (sD.trans (sX.trans (s2.trans s3)))) (tu2.same (s2.trans s3))
def Ga:Sp:=λvs H Q _=>∃(a r:Addr) (ms:List Str) (us:List Addr) (qs:List (Str×Str)),vs=[.ref a,.ref r]/\H a=some (.lst (ms.map V.str))/\ms.Nodup/\ms.length<=12/\H r=some (.lst (us.map V.ref))/\aV H us qs/\fb ms qs/\∀b H',(b=true ↔ ∀z∈ms,∀y∈ms,bP qs z y)->av H H'->Q (.bl b) H'
abbrev uz:List Str:=["_law_places_here","_law_ties"]
theorem PN:aF uz uz (ao zS):=⟨rfl,rfl,rfl,by decide +kernel,rfl,by decide +kernel,by decide +kernel⟩
theorem PQ{f:Addr}{fd:FuncData}(F:aX K "_law_all_reach" "_law_all_reach" zS f fd)(DR:Df K mg "_law_reach" rV ["_law_ties","_law_place"] qL kX)(T:bK mg):ak P w K mg base aD 2 f fd uz Ga:=by
 have GR:ak P w K mg base aD 1 qL kX ["_law_ties","_law_place"] Bj:=D8 DR.fn T;refine F.ok PN (λvs H Q E h=>?_) (λcdv A outer s H vs Q E hr h=>?_)
 ·obtain⟨a,r,ms,us,qs,rfl,_⟩:=h;rfl
 ·obtain⟨a,r,ms,us,qs,rfl,ha,nd,aJ,hb,hT,ins,k⟩:=h;refine⟨_,ai (aB (ay (fU rfl) (by rfl) T.all adg (aa (cV ["_law_place"] [0,1] rfl (bQ (osc:=(ao zS).names) (N:=uz) rfl rfl (by decide +kernel)) (bJ (by decide)) (bh (pv 0))
    (λ_ _ _=>aI (i:=0) (show(["_law_place","_law_places_here","_law_ties"]:List Str).Nodup by decide +kernel) rfl (Or.inl rfl)) (λ_ _ _=>bT)
    (λ_ _ _=>cP fF (ay (r:=Nt K) aE (by rfl) T.len aav (aa (aw GR hr rfl DR.aO DR.fn.kp DR.b .nil aA (aa (pv 2) (aa (pv 0) ae))) ae)) (ay (r:=Nt K) aE (by rfl) T.len aav (aa (pv 1) ae)) (aU _))) ae))),?_⟩
  try rw[bu]
  have big:1000<=sizeLine:=by decide
  refine⟨_,rfl,a,rfl,⟨_,ar.of ha⟩,cu (K:=K) (xs:=ms.map V.str) (λi ys H1=>av H H1/\∃bs:List Bool,ys=bs.map V.bl/\bs.length=i/\(bs.all id=true ↔ ∀z∈ms.take i,∀y∈ms,bP qs z y)) ⟨av.refl _,[],rfl,rfl,by simp⟩ ?_ ?_ ?_ ?_⟩
  ·rintro i ys H1 hi ⟨_,bs,rfl,e,_⟩;rw[aaa] at hi⊢;omega
  ·rintro i ys H1 _ ⟨s1,_⟩;exact ar.of (s1 _ _ ha)
  ·rintro i v ys H1 R hv ⟨s1,bs,rfl,el,eb⟩ kR;rw[aan] at hv;obtain⟨z,ez,rfl⟩:=aap.mp hv;have hz:=aak ez;simp only[dN,bF,aa3];refine⟨_,rfl,_,rfl,r,z,ms,us,qs,rfl,s1 _ _ hb,hT.same s1,aJ,ins,hz,λq zs H2 nq nz sub al hq s2=>?_⟩;refine⟨q,_,rfl,.inl (ar.of hq),_,rfl,a,_,rfl,.inl (ar.of ((s1.trans s2) _ _ ha)),rfl,?_⟩;rw[aaa,aaa];refine kR _ _ ⟨s1.trans s2,bs++[decide (V.int (zs.length:Int)=V.int (ms.length:Int))],by simp,by simp[el],?_⟩;rw[afu,abk,eb,aaC,ez];have e1:([decide (V.int (zs.length:Int)=V.int (ms.length:Int))].all id=true) ↔ ∀y∈ms,bP qs z y:=by rw[<-zU nd nz sub al,<-JR];simp
   rw[e1];simp only[abV,aas,aaf];constructor
   ·rintro⟨h1,h2⟩ y (hy|rfl)
    ·exact h1 y hy
    ·exact h2
   ·intro h;exact⟨λy hy=>h y (.inl hy),h z (.inr rfl)⟩
  rintro ys H1 ⟨s1,bs,rfl,el,eb⟩ D hD;rw[aaa,abb] at eb;exact⟨D,bs,rfl,ar.of af,k _ _ eb (s1.trans (ag hD))⟩
def Bk:Sp:=λvs H Q _=>∃(a b l:Addr) (ms:List Str) (ps:List (Str×Str)) (ts:List Addr) (ks:List Nat),vs=[.ref a,.ref b,.ref l]/\Lists H a b ms ps ts/\H l=some (.lst (nV ks))/\Rs ps ks/\∀b H',(b=true ↔ Full ms ps ks)->av H H'->Q (.bl b) H'
abbrev jj:List Str:=["_law_places_here","_law_pairs_here","_law_some_here"]
theorem Vf:aF jj jj (ao xW):=⟨rfl,rfl,rfl,by decide +kernel,rfl,by decide +kernel,by decide +kernel⟩
theorem PR{f:Addr}{fd:FuncData}(F:aX K "_law_meets" "_law_meets" xW f fd)(DA:Df K mg "_law_all_reach" zS uz D9 xX)(GA:ak P w K mg base aD 2 D9 xX uz Ga)(T:bK mg):ak P w K mg base aD 3 f fd jj Bk:=by
 refine F.ok Vf (λvs H Q E h=>?_) (λcdv A outer s H vs Q E hr h=>?_)
 ·obtain⟨a,b,l,ms,ps,ts,ks,rfl,_⟩:=h;rfl
 ·obtain⟨a,b,l,ms,ps,ts,ks,rfl,L,hl,rs,k⟩:=h;refine⟨_,ai (aB (aw GA hr rfl DA.aO DA.fn.kp DA.b .nil aA (aa (pv 0) (aa (bo eR (pv 1) (cV ["_law_k"] [1] rfl (bQ (osc:=(ao xW).names) (N:=jj) rfl rfl (by decide +kernel)) (bJ (by decide)) (bh (pv 2))
    (λ_ _ _=>aI (i:=0) (show(["_law_k","_law_pairs_here"]:List Str).Nodup by decide +kernel) rfl (Or.inl rfl)) (λ_ _ _=>bT)
    (λ_ _ _=>cK (aa (aY (r:=vq K) cL (aY (r:=qU K) bj (pv 1) (pv 0) (λ_ _=>rfl)) ax (λ_ _=>rfl)) (aa (aY (r:=vq K) cL (aY (r:=qU K) bj (pv 1) (pv 0) (λ_ _=>rfl)) ax (λ_ _=>rfl)) ae))))) ae)))),?_⟩
  try rw[bu]
  have big:1000<=sizeLine:=by decide
  have lk:=rs.len;have fE:=L.aJ;have lt:=L.hT.len;refine⟨_,rfl,_,rfl,_,rfl,l,rfl,⟨_,ar.of hl⟩,cu (K:=K) (xs:=nV ks) (λi ys HX=>av H HX/\∃us2,ys=us2.map V.ref/\us2.length=i/\aV HX us2 (turn (sel ps (ks.take i)))) ⟨av.refl _,[],rfl,rfl,.nil⟩ ?_ ?_ ?_ ?_⟩
  ·rintro i ys HX hi ⟨_,us2,rfl,e,_⟩;rw[bN] at hi;rw[aaa,e];omega
  ·rintro i ys HX _ ⟨sX,_⟩;exact ar.of (sX _ _ hl)
  ·rintro i v ys HX R hv ⟨sX,us2,rfl,zV,tu2⟩ kR;unfold nV at hv;rw[aan] at hv;obtain⟨j,ek,rfl⟩:=aap.mp hv;have hk:=rs.lt j (aak ek);have dM:j<ts.length:=by rw[lt];exact hk
   obtain⟨p,ep,hp⟩:=L.hT.get (aad dM);have et:iM (ts.map V.ref) (j:Int)=some (.ref ts[j]):=aQ (j:=j) (by rw[aan,aad dM];rfl);have ht:=sX _ _ hp;have D':=sX _ _ L.hb;simp only[bF,dN,aa3];refine⟨_,rfl,_,rfl,b,_,_,_,rfl,rfl,ar.of D',et,_,_,_,_,rfl,rfl,aZ.of ht,aQ (j:=1) rfl,?_⟩;refine⟨_,rfl,_,rfl,b,_,_,_,rfl,rfl,ar.of D',et,_,_,_,_,rfl,rfl,aZ.of ht,aQ (j:=0) rfl,?_⟩;refine⟨(by show 2<=sizeLine;decide),λq nq=>kR _ _ ⟨sX.trans (ag nq),us2++[q],by simp,by simp[zV],?_⟩⟩;rw[kP ps ek ep];unfold turn;rw[aaN];exact(tu2.same (ag nq)).snoc (p:=(p.2,p.1)) af
  rintro ys HX ⟨sX,us2,rfl,zV,tu2⟩ D2 Nv;rw[bN] at zV tu2;rw[abb] at tu2;have s2:=ag (o:=.lst (us2.map V.ref)) Nv;have h2:=af (H:=HX) (a:=D2) (o:=.lst (us2.map V.ref));generalize upd HX D2 (.lst (us2.map V.ref))=H2 at s2 h2⊢;have s02:=sX.trans s2;refine⟨b,D2,_,_,rfl,rfl,s02 _ _ L.hb,h2,by rw[aaa,aaa];omega,λr nr=>?_⟩;have s3:=ag (o:=.lst (ts.map V.ref++us2.map V.ref)) nr;have h3:=af (H:=H2) (a:=r) (o:=.lst (ts.map V.ref++us2.map V.ref));generalize upd H2 r (.lst (ts.map V.ref++us2.map V.ref))=H3 at s3 h3⊢;have s03:=s02.trans s3;refine⟨a,r,ms,ts++us2,gr ps ks,rfl,s03 _ _ L.ha,L.good.nd,L.good.aJ,by rw[aaN];exact h3,?_,uV L.ins ks,λb H' e s'=>k b H' e (s03.trans s')⟩;exact jC (L.hT.same s03) (tu2.same (s2.trans s3))
def Nw:Sp:=λvs H Q _=>∃(a b l:Addr) (ms:List Str) (ps:List (Str×Str)) (ts:List Addr) (ks:List Nat),vs=[.ref a,.ref b,.ref l]/\Lists H a b ms ps ts/\H l=some (.lst (nV ks))/\Rs ps ks/\∀q H',H q=none->H' q=some (.lst (nV (mQ ms ps ks)))->av H H'->Q (.ref q) H'
abbrev Ss:List Str:=["_law_places_here","_law_pairs_here","_law_some_here","_law_found","_law_k","_law_less"]
theorem xY:aF Ss jj (ao zT):=⟨rfl,rfl,rfl,by decide +kernel,rfl,by decide +kernel,by decide +kernel⟩
theorem PU{f:Addr}{fd:FuncData}(F:aX K "_law_made_lean" "_law_made_lean" zT f fd)(DM:Df K mg "_law_meets" xW jj ux mS)(GM:ak P w K mg base aD 3 ux mS jj Bk)(T:bK mg):ak P w K mg base aD 4 f fd jj Nw:=by
 refine F.ok xY (λvs H Q E h=>?_) (λcdv A outer s H vs Q E hr h=>?_)
 ·obtain⟨a,b,l,ms,ps,ts,ks,rfl,_⟩:=h;rfl
 ·obtain⟨a,b,l,ms,ps,ts,ks,rfl,L,hl,rs,r⟩:=h;refine⟨_,aj (aM (i:=3) xY.nd rfl (Or.inl rfl) (bD di (by rfl) T.list aaS (aa (pv 2) ae)))
   (aj (cI aaX rfl (bh (pv 2)) (aI (i:=4) xY.nd rfl (Or.inr rfl))
    (aj (qX (i:=5) ["_law_other"] [4] xY.nd rfl rfl rfl (bQ (osc:=(ao zT).names) (N:=Ss) rfl rfl (by decide +kernel)) (bJ (by decide)) (bh (pv 3))
      (λ_ _ _=>aI (i:=0) (show(["_law_other","_law_k"]:List Str).Nodup by decide +kernel) rfl (Or.inl rfl)) (λ_ _ _=>fR (aS kc (pv 0) (pv 1) (aU _))) (λ_ _ _=>pv 0))
    (ai (ba (bg (aw GM hr rfl DM.aO DM.fn.kp DM.b .nil aA (aa (pv 0) (aa (pv 1) (aa (pv 5) ae)))) (λ_=>rfl)) (ai (aM (i:=3) xY.nd rfl (Or.inl rfl) (pv 5))) aR))))
   (ai (aB (pv 3)))),?_⟩
  try rw[bu]
  have big:1000<=sizeLine:=by decide
  have fE:=L.aJ;have lk:=rs.len;refine⟨_,rfl,l,_,rfl,.inl (ar.of hl),λq0 n0=>?_⟩;have s2:=ag (o:=.lst (nV ks)) n0;have D7:=af (H:=H) (a:=q0) (o:=.lst (nV ks));generalize upd H q0 (.lst (nV ks))=H2 at s2 D7⊢;have hl2:=s2 _ _ hl;refine⟨_,rfl,l,rfl,⟨_,ar.of hl2⟩,?_⟩;refine dY (K:=K) (xs:=nV ks) (λi σ HH=>∃(q:Addr) (v4 v5:Option V),σ=[some (.ref a),some (.ref b),some (.ref l),some (.ref q),v4,v5]/\av H HH/\H q=none/\HH q=some (.lst (nV (iB ms ps ks i)))) ⟨q0,_,_,rfl,s2,n0,D7⟩ ?_ ?_ ?_
  ·rintro i σ HH _ ⟨_,_,_,rfl,sH,_⟩;exact ar.of (sH _ _ hl)
  ·rintro i v σ HH hv ⟨q,v4,v5,rfl,sH,fq,hq⟩;unfold nV at hv;rw[aan] at hv;obtain⟨j,ej,rfl⟩:=aap.mp hv;have hi:i<ks.length:=(aaB.mp ej).1;have sl:=xR ms ps ks (aaU hi);have ll:=sl.length_le;generalize em:iB ms ps ks i=cs at hq sl ll;have rb:=Bh rs ((Bg cs j).trans sl);refine⟨_,rfl,q,rfl,⟨_,ar.of hq⟩,cu (K:=K) (xs:=nV cs) (λi ys HA=>HA=HH/\ys=nV (bk (cs.take i) j)) ⟨rfl,rfl⟩ ?_ ?_ ?_ ?_⟩
   ·rintro i ys HA hi ⟨_,rfl⟩;rw[bN];exact aam (abh _ _) (by rw[aaP];omega)
   ·rintro i ys HA _ ⟨rfl,_⟩;exact ar.of hq
   ·rintro i v ys HA R hv ⟨rfl,rfl⟩ kR;unfold nV at hv;rw[aan] at hv;obtain⟨n,en,rfl⟩:=aap.mp hv;have fin:bk (cs.take (i+1)) j=bk (cs.take i) j++(if decide (n≠j)=true then [n] else []):=by unfold bk;rw[aaC,en,abU];congr 1;rw[abV,ack];rfl
    simp only[bF];refine⟨_,rfl,_,rfl,rfl,_,rfl,?_⟩;by_cases c:n=j
    ·rw[decide_eq_true (show V.int (n:Int)=V.int (j:Int) by rw[c])];refine aP (kR _ _ ⟨rfl,?_⟩);rw[fin,if_neg (by simp[c]),abA]
    ·rw[aaA (show ¬ V.int (n:Int)=V.int (j:Int) by intro e;injection e with e;omega)];refine bt ⟨_,rfl,kR _ _ ⟨rfl,?_⟩⟩;rw[fin,if_pos (by simp[c])];unfold nV;rw[aaN];rfl
   rintro ys HA ⟨rfl,rfl⟩ q2 n2;rw[bN,abb];have t2:=ag (o:=.lst (nV (bk cs j))) n2;have gW:=af (H:=HA) (a:=q2) (o:=.lst (nV (bk cs j)));have f2:=sH.free n2;generalize upd HA q2 (.lst (nV (bk cs j)))=HB at t2 gW⊢;have sB:=sH.trans t2;refine⟨_,rfl,_,rfl,_,rfl,a,b,q2,ms,ps,ts,_,rfl,L.same sB,gW,rb,λd HC ed sC=>⟨_,rfl,?_⟩⟩;cases d with
   |true =>refine bt ⟨_,rfl,q2,_,_,rfl,sB.trans sC,f2,?_⟩;rw[ji ej,em,nA (ed.mp rfl)];exact sC _ _ gW
   |false =>refine aP ⟨q,_,_,rfl,sB.trans sC,fq,?_⟩;rw[ji ej,em,j5 λz=>nomatch (ed.mpr z)];exact(t2.trans sC) _ _ hq
  ·rintro σ HH ⟨q,v4,v5,rfl,sH,fq,hq⟩;rw[bN] at hq;exact⟨_,rfl,r q HH fq hq sH⟩
def HS:Sp:=λvs H Q _=>∃(a b l t:Addr) (ms:List Str) (ps:List (Str×Str)) (ts:List Addr) (ks:List Nat) (zs:List Str),vs=[.ref a,.ref b,.ref l,.ref t]/\Lists H a b ms ps ts/\H l=some (.lst (nV ks))/\H t=some (.tup (zs.map V.str))/\pf ms ps ks zs/\∀H',av H H'->Q (.bl true) H'
abbrev Nx:List Str:=["_law_places_here","_law_pairs_here","_law_some_here","_law_cut","_law_k","_law_pair","_law_begins","_law_ends"]
abbrev xZ:List Str:=["_law_places_here","_law_pairs_here","_law_some_here","_law_cut"]
theorem uW:aF Nx xZ (ao rW):=⟨rfl,rfl,rfl,by decide +kernel,rfl,by decide +kernel,by decide +kernel⟩
theorem JS{zs:List Str}(nd:zs.Nodup)(up:aK zs=zs):aK (dist zs)=zs:=by rw[vU (qh zs) nd λx=>Fm,up]
theorem Ny{f:Addr}{fd:FuncData}(F:aX K "_law_missed" "_law_missed" rW f fd)(en:mg "enumerate" = none)(T:bK mg):ak P w K mg base aD 1 f fd xZ HS:=by
 refine F.ok uW (λvs H Q E h=>?_) (λcdv A outer s H vs Q E hr h=>?_)
 ·obtain⟨a,b,l,t,ms,ps,ts,ks,zs,rfl,_⟩:=h;rfl
 ·obtain⟨a,b,l,t,ms,ps,ts,ks,zs,rfl,L,hl,ht,ck,k⟩:=h;refine⟨_,aj (ba (PW.pt (dA (bp (bg (ay (bO (T:="tuple")) (by rfl) T.cf aaM (aa (pv 3) (aa (cq (v:=.ty "tuple") rfl T.tuple aa4 rfl) ae))) (λ_=>rfl)))
    (de (bp (kg ic ic ax (ay aE (by rfl) T.len aav (aa (pv 3) ae)) (ay aE (by rfl) T.len aav (aa (pv 0) ae))))))) (ai (aB bS)) aR)
   (aj (ba (PW.pt (dA (aS (qd (low 0 hr)) (bD di (by rfl) T.list aaS (aa (pv 3) ae)) (ay (wG (P:=P) (w:=w) rfl) (by rfl) T.sorted acK (aa (bD (CV (P:=P) (w:=w) (K:=K) rfl) (by rfl) T.set acf (aa (pv 3) ae)) ae)) (aU _))
    (de (aS (CK (low 0 hr)) (cV ["_law_place"] [0] rfl (bQ (osc:=(ao rW).names) (N:=Nx) rfl rfl (by decide +kernel)) (bJ (by decide)) (Ks (pv 3)) (λ_ _ _=>aI (i:=0) (show(["_law_place","_law_places_here"]:List Str).Nodup by decide +kernel) rfl (Or.inl rfl)) (λ_ _ _=>fR (aS (r:=yR K true) i5 (pv 0) (pv 1) rfl)) (λ_ _ _=>pv 0)) (br ae) (aU _))))) (ai (aB bS)) aR)
   (aj (cI aaX rfl (Jd rfl en (aa (pv 1) ae)) (ir rfl (bU (aI (i:=4) uW.nd rfl (Or.inl rfl)) (bU (aI (i:=5) uW.nd rfl (Or.inl rfl)) gf)))
    (aj (Km (i:=6) (j:=7) rfl uW.nd rfl rfl (by decide) rfl rfl (aa (cP eQ (aY cL (pv 5) ax (λ_ _=>rfl)) (pv 3) rfl) (aa (cP eQ (aY cL (pv 5) ax (λ_ _=>rfl)) (pv 3) rfl) ae)) rfl)
    (ai (ba (PW.pt (dA (PW.pt (iW (bg (pv 6) (λ_=>rfl)) (iT (bp (bg (pv 7) (λ_=>rfl)))))) (de (PW.pt (iW (bg (pv 7) (λ_=>rfl)) (iW (bp (bg (pv 6) (λ_=>rfl))) (iT (aS eQ (pv 4) (pv 2) rfl)))))))) (ai (aB bS)) aR))))
   (ai (aB bS)))),?_⟩
  try rw[bu]
  have lz:=ck.lt;have ne:=ck.ne;have aJ:=L.good.aJ;have fE:=L.aJ;have big:1000<=sizeLine:=by decide
  refine⟨_,rfl,_,_,true,rfl,.tup ht,rfl,_,rfl,?_⟩;refine aP ⟨_,rfl,t,_,rfl,.inr (aZ.of ht),_,_,rfl,rfl,_,rfl,?_⟩;rw[aaa];rw[decide_eq_true (show(0:Int)<(zs.length:Int) by omega)];refine bt ⟨_,rfl,a,_,rfl,.inl (ar.of L.ha),_,_,rfl,rfl,_,rfl,?_⟩;rw[aaa,decide_eq_true (show(zs.length:Int)<(ms.length:Int) by omega)];refine aP ?_;refine⟨_,rfl,t,_,rfl,.inr (aZ.of ht),λl1 n1=>?_⟩;have s1:=ag (o:=.lst (zs.map V.str)) n1;have h1:=af (H:=H) (a:=l1) (o:=.lst (zs.map V.str));generalize upd H l1 (.lst (zs.map V.str))=H1 at s1 h1⊢;refine⟨_,rfl,t,zs,rfl,.inr (aZ.of (s1 _ _ ht)),ac0 (show zs.length+1<100 by omega) (by decide),λl3 n3=>?_⟩;have s3:=ag (o:=oU P w l3 zs) n3;refine⟨l3,zs,rfl,af,by omega,λl2 n2=>?_⟩;rw[JS ck.nd ck.up];have s13:=s1.trans s3;have h13:=s3 _ _ h1;generalize upd H1 l3 (oU P w l3 zs)=H3 at s13 h13 n2⊢;have s2:=s13.trans (ag (o:=.lst (zs.map V.str)) n2);have h2:=af (H:=H3) (a:=l2) (o:=.lst (zs.map V.str));have h12:=ag (o:=.lst (zs.map V.str)) n2 _ _ h13;generalize upd H3 l2 (.lst (zs.map V.str))=H2 at s2 h2 h12⊢;refine⟨l1,l2,_,_,rfl,rfl,.inl ⟨ar.of h12,ar.of h2⟩,cN zs,cN zs,?_⟩;rw[wk,decide_eq_true rfl];refine⟨_,rfl,aP ?_⟩;refine⟨_,rfl,t,rfl,⟨_,aZ.of (s2 _ _ ht)⟩,K3 (K:=K) (xs:=zs.map V.str) (λi ys H4=>H4=H2/\ys=[]) ⟨rfl,rfl⟩ ?_ ?_ ?_ ?_⟩
  ·rintro i ys H4 hi ⟨_,rfl⟩;exact aaG _
  ·rintro i ys H4 _ ⟨rfl,_⟩;exact aZ.of (s2 _ _ ht)
  ·rintro i x ys H4 R hx ⟨rfl,rfl⟩ kR;rw[aan] at hx;obtain⟨z,ez,rfl⟩:=aap.mp hx;simp only[bF];refine⟨_,rfl,_,rfl,a,_,rfl,.inl (ar.of (s2 _ _ L.ha)),rfl,cN ms,_,rfl,?_⟩;simp only[aa3];rw[e9,decide_eq_true (ck.sub z (aak ez))];exact aP (kR _ _ ⟨rfl,rfl⟩)
  rintro ys H4 ⟨rfl,rfl⟩ D nD;have sD:=s2.trans (ag (o:=.lst []) nD);have hD:=af (H:=H4) (a:=D) (o:=.lst []);generalize upd H4 D (.lst [])=H5 at sD hD⊢;refine⟨(by decide),λe1 n1=>?_⟩;have s6:=sD.trans (ag (o:=.lst []) n1);have HU:=af (H:=H5) (a:=e1) (o:=.lst []);have HN:=ag (o:=.lst []) n1 _ _ hD;generalize upd H5 e1 (.lst [])=H6 at s6 HU HN⊢;refine⟨D,e1,[],rfl,rfl,ar.of HN,ar.of HU,_,rfl,?_⟩;simp only[aa3,decide_true,ab0];refine aP ?_;refine⟨_,rfl,b,rfl,⟨_,ar.of (s6 _ _ L.hb)⟩,?_⟩;refine Fo (K:=K) (xs:=ts.map V.ref) (λi σ HH=>∃v4 v5 v6 v7,σ=[some (.ref a),some (.ref b),some (.ref l),some (.ref t),v4,v5,v6,v7]/\av H HH) ⟨_,_,_,_,rfl,s6⟩ ?_ ?_ ?_
  ·rintro i σ HH _ ⟨_,_,_,_,rfl,sH⟩;exact ar.of (sH _ _ L.hb)
  ·rintro i v σ HH qn hv ⟨v4,v5,v6,v7,rfl,sH⟩ Yg;rw[aan] at hv;obtain⟨u,eu,rfl⟩:=aap.mp hv;obtain⟨p,ep,hp⟩:=L.hT.get eu;have s7:=sH.trans (ag (o:=.tup [.int i,.ref u]) Yg);have Su:=af (H:=HH) (a:=qn) (o:=.tup [.int i,.ref u]);generalize upd HH qn (.tup [.int i,.ref u])=H7 at s7 Su⊢;have Sv:=s7 _ _ hp;have Ea:=s7 _ _ ht;refine⟨qn,_,rfl,aZ.of Su,rfl,_,_,rfl,_,_,rfl,rfl,?_⟩;refine⟨_,rfl,u,_,_,_,rfl,rfl,aZ.of Sv,aQ (j:=0) rfl,_,rfl,t,_,rfl,.inr (aZ.of Ea),rfl,cN zs,?_⟩;refine⟨_,rfl,u,_,_,_,rfl,rfl,aZ.of Sv,aQ (j:=1) rfl,_,rfl,t,_,rfl,.inr (aZ.of Ea),rfl,cN zs,?_⟩;simp only[aaz,aa9];rw[e9,e9];refine⟨_,_,rfl,?_⟩;have o1:=ck.out p (aak ep);have fin:∃v4 v5 v6 v7,([some (.ref a),some (.ref b),some (.ref l),some (.ref t),some (.int i),some (.ref u),some (.bl (decide (p.1∈zs))),some (.bl (decide (p.2∈zs)))]:L2.St)=[some (.ref a),some (.ref b),some (.ref l),some (.ref t),v4,v5,v6,v7]/\av H H7:=⟨_,_,_,_,rfl,s7⟩
   by_cases c1:p.1∈zs
   ·rw[decide_eq_true c1,decide_eq_true (o1 c1)] at fin⊢;refine⟨_,rfl,_,rfl,bt ⟨_,rfl,_,rfl,aP ?_⟩⟩;exact⟨_,rfl,_,rfl,bt ⟨_,rfl,_,rfl,aP (aP fin)⟩⟩
   ·rw[aaA c1] at fin⊢;refine⟨_,rfl,_,rfl,aP ?_⟩;by_cases c2:p.2∈zs
    ·rw[decide_eq_true c2] at fin⊢;refine⟨_,rfl,_,rfl,bt ⟨_,rfl,_,rfl,bt ?_⟩⟩;refine⟨_,rfl,_,rfl,l,_,rfl,.inl (ar.of (s7 _ _ hl)),rfl,mO ks,_,rfl,?_⟩;simp only[aaz,aa9];rw[Pu,aaA λhi=>c1 (ck.LM i hi p ep c2)];exact aP fin
    ·rw[aaA c2] at fin⊢;exact⟨_,rfl,_,rfl,aP (aP fin)⟩
  ·rintro σ HH ⟨v4,v5,v6,v7,rfl,sH⟩;exact k _ sH
end
end dO
namespace L2
open PySem PySem.Spec PyProof.Rows
abbrev cs(z:Str):List Nat:=z.cps.toList
def jn(sep:List Nat):List (List Nat)->List Nat
 |[]=>[]
 |[x]=>x
 |x::y::r=>x++sep++jn sep (y::r)
theorem JT{X:Cx}{body:List Stmt}{h₀:ExceptHandler}{hs:List ExceptHandler}{pos:Pos}{t:TS}(hb:iq X.nM body t):PS X (.Try body (h₀::hs) [] [] pos) t:=λpins s σ H D I hw=>by refine afg (wpAny_mono (hb pins s σ H D (I.fQ _) hw) (λf s1 q=>?_) λ_ _ z=>z.elim);cases f<;>first|exact wpAny_execs_nil q.dJ|exact q.dJ
end L2
namespace dO
open PySem PySem.Spec PyProof.Rows L2 L3 L6
abbrev ou:Stmt:=top 58 -- Sw
theorem sd:bootBuiltins "ValueError" = some (.type "ValueError"):=by rfl
structure sf(K:PySem.W.Frag)(mg:Str->Option Value)(E0 E1 E4 E5:Addr):Prop where
 b0:mg "WebError" = some (.ref E0)
 b1:mg "NoTie" = some (.ref E1)
 b4:mg "Apart" = some (.ref E4)
 b5:mg "NoMeeter" = some (.ref E5)
 ve:mg "ValueError" = none
 x1:gL K E1
 Nz:PySem.W.exmOne K (.ref E4) (.ref E4)=some true
 NA:PySem.W.exmOne K (.ref E5) (.ref E4)=some false
 NB:PySem.W.exmOne K (.ref E5) (.ref E5)=some true
 NC:PySem.W.exmOne K (.ref E1) (.ref E4)=some false
 ND:PySem.W.exmOne K (.ref E1) (.ref E5)=some false
 NF:PySem.W.exmOne K (.ref E1) (.ref E1)=some true
 v1:PySem.W.kitOne K (.ref E1) (.type "ValueError")=some true
 v4:PySem.W.kitOne K (.ref E4) (.type "ValueError")=some true
 v5:PySem.W.kitOne K (.ref E5) (.type "ValueError")=some true
 w1:PySem.W.kitOne K (.ref E1) (.ref E0)=some true
 w4:PySem.W.kitOne K (.ref E4) (.ref E0)=some true
 w5:PySem.W.kitOne K (.ref E5) (.ref E0)=some true
 n4:PySem.W.kitOne K (.ref E4) (.ref E5)=some false
abbrev pA(K:PySem.W.Frag):List V->Hp->VK->Prop:=λxs H Q=>∃(a C:Addr) (od:Option Addr) (c:V) (cv:Value) (b:Bool),xs=[.ref a,c]/\(∀u,RelV c u->u=cv)/\H a=some (fZ a (.ref C) od)/\gL K C/\PySem.W.kitOne K (.ref C) cv=some b/\Q (.bl b) H
section
variable {P:Program}{w:World}{K:PySem.W.Frag}{mg:Str->Option Value}{base:Heap}
variable {C E0 E1 E4 E5 jf jg iP j6:Addr}{fdAI fdNI fi hZ:FuncData}
abbrev Yh:List Str:=["_law_web","_law_some_here","_law_kind","_law_told_here","e"]
abbrev lB:List Str:=["_law_web","_law_some_here","_law_kind"]
theorem fj:aF Yh lB (ao ou):=⟨rfl,rfl,rfl,by decide +kernel,rfl,by decide +kernel,by decide +kernel⟩
def NG(C:Addr):Sp:=λvs H Q _=>∃(x l:Addr) (kd:Int) (ms:List Str) (ps:List (Str×Str)) (ks:List Nat),vs=[.ref x,.ref l,.int kd]/\bq C H x ms ps/\GoodW ms ps/\cw ms ps/\H l=some (.lst (nV ks))/\Rs ps ks /\
 ((kd=0/\∀b H',(b=true ↔ Ln ms ps ks)->av H H'->Q (.bl b) H')\/(kd≠0/\Full ms ps ks/\∀q H',H q=none->H' q=some (.lst (nV (mQ ms ps ks)))->av H H'->Q (.ref q) H'))
def NH(C:Addr):Sp:=λvs H Q _=>∃(x l:Addr) (kd:Int) (ms:List Str) (ps:List (Str×Str)) (ks:List Nat),vs=[.ref x,.ref l,.int kd]/\bq C H x ms ps/\GoodW ms ps/\cw ms ps/\H l=some (.lst (nV ks))/\Rs ps ks/\kd≠0/\¬ Full ms ps ks /\
 ∀t q zs H',pf ms ps ks zs->H' q=some (.tup (zs.map V.str))->H' t=some (.tup [.str "missed",.ref q,.bl true])->av H H'->Q (.ref t) H'
def NI(C:Addr):Sp:=λvs H Q _=>∃(x:Addr) (y:V) (kd:Int) (ms:List Str) (ps:List (Str×Str)),vs=[.ref x,y,.int kd]/\bq C H x ms ps/\GoodW ms ps/\¬ cw ms ps /\
 ∀t q zs H',Pc ms ps zs->H' q=some (.tup (zs.map V.str))->H' t=some (.tup [.str "apart",.ref q,.bl true])->av H H'->Q (.ref t) H'
def NJ(K:PySem.W.Frag)(C:Addr):Sp:=λvs H Q _=>∃(x:Addr) (y:V) (kd:Int) (ms:List Str) (ps:List (Str×Str)),vs=[.ref x,y,.int kd]/\bq C H x ms ps/\GoodW ms ps/\cw ms ps/\iO K H ps.length y /\
 ∀t q H',H' t=some (.tup [.str "tie",.ref q,.bl true])->av H H'->Q (.ref t) H'
theorem PV{f:Addr}{fd:FuncData}(F:aX K "_law_told" "_law_told" ou f fd)(DI:Df K mg "is_lean" oq aW iP fi)(GI:ak P w K mg base (bR P w) 8 iP fi aW (Ask K C E1 E4 xT))(DM:Df K mg "made_lean" qK aW j6 hZ)(GM:ak P w K mg base (bR P w) 7 j6 hZ aW (Ask K C E1 E4 (xU E5))):ak P w K mg base aD 9 f fd lB (NG C):=by
 refine F.ok fj (λvs H Q E h=>?_) (λcdv A outer s H vs Q E hr h=>?_)
 ·obtain⟨x,l,kd,ms,ps,ks,rfl,_⟩:=h;rfl
 ·obtain⟨x,l,kd,ms,ps,ks,rfl,hW,g,hh,hl,rs,k⟩:=h;have h7:=hr.mono (j:=7) (by decide);refine⟨_,aj (aM (i:=3) fj.nd rfl (Or.inl rfl) d6)
   (aj (JT (ai (ba (aS fF (pv 2) ax (aU _))
    (ai (aM (i:=3) fj.nd rfl (Or.inl rfl) (aw GI hr rfl DI.aO DI.fn.kp DI.b .nil xF (aa (pv 0) (aa (pv 1) ae)))))
    (ai (aM (i:=3) fj.nd rfl (Or.inl rfl) (aw GM h7 rfl DM.aO DM.fn.kp DM.b .nil xF (aa (pv 0) (aa (pv 1) ae))))))))
   (ai (aB (pv 3)))),?_⟩
  try rw[bu]
  refine⟨_,rfl,rfl,_,rfl,?_⟩;rcases k with⟨rfl,k⟩|⟨n0,fu,k⟩
  ·rw[decide_eq_true rfl];exact bt ⟨_,rfl,_,rfl,x,_,ms,ps,rfl,hW,g,λz=>absurd hh z,λ_=>.inl ⟨l,ks,rfl,hl,rs,λb H' e s'=>⟨_,rfl,k b H' e s'⟩⟩⟩
  ·rw[aaA (by intro z;injection z with z;exact n0 z)];exact aP ⟨_,rfl,_,rfl,x,_,ms,ps,rfl,hW,g,λz=>absurd hh z,λ_=>.inl ⟨l,ks,rfl,hl,rs,λ_ q H' nq hq s'=>⟨_,rfl,k q H' nq hq s'⟩,λz=>absurd fu z⟩⟩
theorem PX{f:Addr}{fd:FuncData}(F:aX K "_law_told" "_law_told" ou f fd)(A5:zJ K mg E5 jg fdNI)(X:sf K mg E0 E1 E4 E5)(DI:Df K mg "is_lean" oq aW iP fi)(DM:Df K mg "made_lean" qK aW j6 hZ)(GM:ak P w K mg base (bR P w) 7 j6 hZ aW (Ask K C E1 E4 (xU E5)))(T:bK mg):ak P w K mg base aD 9 f fd lB (NH C):=by
 have GI:ak P w K mg base (bR P w) 8 iP fi aW (λ_ _ _ _=>False):=⟨λ_ _ _ _ h=>h.elim,λ_ _ _ _ _ _ _ _ _ _ _ _ _ h=>h.elim⟩
 refine F.ok fj (λvs H Q E h=>?_) (λcdv A outer s H vs Q E hr h=>?_)
 ·obtain⟨x,l,kd,ms,ps,ks,rfl,_⟩:=h;rfl
 ·obtain⟨x,l,kd,ms,ps,ks,rfl,hW,g,hh,hl,rs,n0,nf,k⟩:=h;have h7:=hr.mono (j:=7) (by decide);refine⟨_,aj (aM (i:=3) fj.nd rfl (Or.inl rfl) d6)
   (aj (rQ rfl rfl (xO (aS fF (pv 2) ax (aU _))
     (iV (hX GI hr rfl DI.aO DI.fn.kp DI.b .nil (λ_=>aa (pv 0) (aa (pv 1) ae))))
     (iV (hX GM h7 rfl DM.aO DM.fn.kp DM.b .nil (λ_=>aa (pv 0) (aa (pv 1) ae)))))
    (.next rfl X.b4 (by decide) .here) rfl X.b5 fj.nd (i:=4) rfl rfl
    (λ_=>ai (aM (i:=3) fj.nd rfl (Or.inl rfl) (cK (aa dc (aa (xE (K:=K) (pv 4) rfl)
     (aa (eM (ay (r:=pA K) f' (by rfl) T.cf aaM (aa (pv 4) (aa (cq (v:=.ty "ValueError") rfl X.ve sd rfl) ae)))
      (fk (ay (r:=pA K) f' (by rfl) T.cf aaM (aa (pv 4) (aa (g5 (v:=.ref E0) rfl X.b0 rfl) ae))))) ae)))))))
   (ai (aB (pv 3)))),?_⟩
  try rw[bu]
  refine⟨_,rfl,rfl,_,rfl,?_⟩;rw[aaA (by intro z;injection z with z;exact n0 z)];refine aP ⟨_,rfl,_,rfl,x,_,ms,ps,rfl,hW,g,λz=>absurd hh z,λ_=>.inl ⟨l,ks,rfl,hl,rs,λz=>absurd z nf,λ_ zs q dx H1 ck hq hd s1=>⟨λd hd=>by rw[aaf.mp hd];exact X.NA,X.NB,λa ha=>?_⟩⟩⟩;have lC:=af (H:=H1) (a:=a) (o:=fZ a (.ref E5) (some dx));have s2:=ag (o:=fZ a (.ref E5) (some dx)) ha;have nJ:=s2 _ _ hd;have nQ:=s2 _ _ hq;generalize upd H1 a (fZ a (.ref E5) (some dx))=H2 at lC s2 nJ nQ⊢;refine⟨_,rfl,a,E5,dx,_,.ref q,rfl,lC,nJ,A5.x.xc,A5.x.hd,A5.no,rfl,?_⟩;refine⟨_,rfl,a,E5,some dx,_,.type "ValueError",true,rfl,(λu r=>r),lC,A5.x.xc,X.v5,_,rfl,bt ?_⟩;refine⟨_,rfl,a,E5,some dx,_,.ref E0,true,rfl,(λu r=>r),lC,A5.x.xc,X.w5,?_⟩;refine⟨(by show 3<=sizeLine;decide),λt nt=>?_⟩;have s3:=ag (o:=.tup [.str "missed",.ref q,.bl true]) nt;exact⟨_,rfl,k t q zs _ ck (s3 _ _ nQ) af (s1.trans (s2.trans s3))⟩
theorem PY{f:Addr}{fd:FuncData}(F:aX K "_law_told" "_law_told" ou f fd)(A4:Ap K mg E4 jf fdAI)(X:sf K mg E0 E1 E4 E5)(DI:Df K mg "is_lean" oq aW iP fi)(GI:ak P w K mg base (bR P w) 8 iP fi aW (Ask K C E1 E4 xT))(DM:Df K mg "made_lean" qK aW j6 hZ)(GM:ak P w K mg base (bR P w) 7 j6 hZ aW (Ask K C E1 E4 (xU E5)))(T:bK mg):ak P w K mg base aD 9 f fd lB (NI C):=by
 refine F.ok fj (λvs H Q E h=>?_) (λcdv A outer s H vs Q E hr h=>?_)
 ·obtain⟨x,y,kd,ms,ps,rfl,_⟩:=h;rfl
 ·obtain⟨x,y,kd,ms,ps,rfl,hW,g,nh,k⟩:=h;have h7:=hr.mono (j:=7) (by decide);refine⟨_,aj (aM (i:=3) fj.nd rfl (Or.inl rfl) d6)
   (aj (rQ rfl rfl (xO (aS fF (pv 2) ax (aU _))
     (iV (hX GI hr rfl DI.aO DI.fn.kp DI.b .nil (λ_=>aa (pv 0) (aa (pv 1) ae))))
     (iV (hX GM h7 rfl DM.aO DM.fn.kp DM.b .nil (λ_=>aa (pv 0) (aa (pv 1) ae)))))
    .here rfl X.b4 fj.nd (i:=4) rfl rfl
    (λ_=>ai (aM (i:=3) fj.nd rfl (Or.inl rfl) (cK (aa dc (aa (xE (K:=K) (pv 4) rfl)
     (aa (eM (ay (r:=pA K) f' (by rfl) T.cf aaM (aa (pv 4) (aa (cq (v:=.ty "ValueError") rfl X.ve sd rfl) ae)))
      (eM (ay (r:=pA K) f' (by rfl) T.cf aaM (aa (pv 4) (aa (g5 (v:=.ref E0) rfl X.b0 rfl) ae)))
      (fk (BF (ay (r:=pA K) f' (by rfl) T.cf aaM (aa (pv 4) (aa (g5 (v:=.ref E5) rfl X.b5 rfl) ae))))))) ae)))))))
   (ai (aB (pv 3)))),?_⟩
  try rw[bu]
  have fin:∀(zs:List Str) (q dx:Addr) (H1:Hp),qG ms ps zs->H1 q=some (.tup (zs.map V.str))->H1 dx=some (.xd [("cut",.ref q)])->av H H1->∀a,H1 a=none->∃H2,av H H2/\upd H1 a (fZ a (.ref E4) (some dx))=H2/\H2 a=some (fZ a (.ref E4) (some dx))/\H2 dx=some (.xd [("cut",.ref q)])/\H2 q=some (.tup (zs.map V.str)):=λzs q dx H1 le hq hd s1 a ha=>by have s2:=ag (o:=fZ a (.ref E4) (some dx)) ha;exact⟨_,s1.trans s2,rfl,af,s2 _ _ hd,s2 _ _ hq⟩
  refine⟨_,rfl,rfl,_,rfl,?_⟩;refine cS (λ_=>?c1) (λ_=>?c2);all_goals
   refine⟨_,rfl,_,rfl,x,_,ms,ps,rfl,hW,g,λ_ zs q dx H1 le hq hd s1=>⟨(λd hd=>nomatch hd),X.Nz,λa ha=>?_⟩,λz=>absurd z nh⟩;obtain⟨H2,s2,e2,lC,nJ,nQ⟩:=fin zs q dx H1 le hq hd s1 a ha;rw[e2];refine⟨_,rfl,a,E4,dx,_,.ref q,rfl,lC,nJ,A4.x.xc,A4.x.hd,A4.no,rfl,?_⟩;refine⟨_,rfl,a,E4,some dx,_,.type "ValueError",true,rfl,(λu r=>r),lC,A4.x.xc,X.v4,_,rfl,bt ?_⟩;refine⟨_,rfl,a,E4,some dx,_,.ref E0,true,rfl,(λu r=>r),lC,A4.x.xc,X.w4,_,rfl,bt ?_⟩;refine⟨_,rfl,a,E4,some dx,_,.ref E5,false,rfl,(λu r=>r),lC,A4.x.xc,X.n4,_,rfl,?_⟩;refine⟨(by show 3<=sizeLine;decide),λt nt=>?_⟩;have s3:=ag (o:=.tup [.str "apart",.ref q,.bl true]) nt;exact⟨_,rfl,k t q zs _ (le.pc g nh) (s3 _ _ nQ) af (s2.trans s3)⟩
theorem PZ{f:Addr}{fd:FuncData}(F:aX K "_law_told" "_law_told" ou f fd)(X:sf K mg E0 E1 E4 E5)(DI:Df K mg "is_lean" oq aW iP fi)(GI:ak P w K mg base (bR P w) 8 iP fi aW (Ask K C E1 E4 xT))(DM:Df K mg "made_lean" qK aW j6 hZ)(GM:ak P w K mg base (bR P w) 7 j6 hZ aW (Ask K C E1 E4 (xU E5)))(T:bK mg):ak P w K mg base aD 9 f fd lB (NJ K C):=by
 refine F.ok fj (λvs H Q E h=>?_) (λcdv A outer s H vs Q E hr h=>?_)
 ·obtain⟨x,y,kd,ms,ps,rfl,_⟩:=h;rfl
 ·obtain⟨x,y,kd,ms,ps,rfl,hW,g,hh,od,k⟩:=h;have h7:=hr.mono (j:=7) (by decide);refine⟨_,aj (aM (i:=3) fj.nd rfl (Or.inl rfl) d6)
   (aj (rQ rfl rfl (xO (aS fF (pv 2) ax (aU _))
     (iV (hX GI hr rfl DI.aO DI.fn.kp DI.b .nil (λ_=>aa (pv 0) (aa (pv 1) ae))))
     (iV (hX GM h7 rfl DM.aO DM.fn.kp DM.b .nil (λ_=>aa (pv 0) (aa (pv 1) ae)))))
    (.next rfl X.b4 (by decide) (.next rfl X.b5 (by decide) .here)) rfl X.b1 fj.nd (i:=4) rfl rfl
    (λ_=>ai (aM (i:=3) fj.nd rfl (Or.inl rfl) (cK (aa dc (aa (cK ae)
     (aa (eM (ay (r:=pA K) f' (by rfl) T.cf aaM (aa (pv 4) (aa (cq (v:=.ty "ValueError") rfl X.ve sd rfl) ae)))
      (fk (ay (r:=pA K) f' (by rfl) T.cf aaM (aa (pv 4) (aa (g5 (v:=.ref E0) rfl X.b0 rfl) ae))))) ae)))))))
   (ai (aB (pv 3)))),?_⟩
  try rw[bu]
  refine⟨_,rfl,rfl,_,rfl,?_⟩;refine cS (λ_=>?c1) (λ_=>?c2);all_goals
   refine⟨_,rfl,_,rfl,x,_,ms,ps,rfl,hW,g,λz=>absurd hh z,λ_=>.inr ⟨od,λdx H1 s1=>⟨λd hd=>?_,X.NF,λa ha=>?_⟩⟩⟩
   ·rcases aah.mp hd with rfl|hd
    ·exact X.NC
    ·rw[aaf.mp hd];exact X.ND
   have lC:=af (H:=H1) (a:=a) (o:=fZ a (.ref E1) dx);have s2:=s1.trans (ag (o:=fZ a (.ref E1) dx) ha);generalize upd H1 a (fZ a (.ref E1) dx)=H2 at lC s2⊢;refine⟨(by decide),λq nq=>?_⟩;have s3:=ag (o:=.tup []) nq;have NK:=s3 _ _ lC;generalize upd H2 q (.tup [])=H3 at s3 NK⊢;refine⟨_,rfl,a,E1,dx,_,.type "ValueError",true,rfl,(λu r=>r),NK,X.x1,X.v1,_,rfl,bt ?_⟩;refine⟨_,rfl,a,E1,dx,_,.ref E0,true,rfl,(λu r=>r),NK,X.x1,X.w1,?_⟩;refine⟨(by show 3<=sizeLine;decide),λt nt=>?_⟩;exact⟨_,rfl,k t q _ af (s2.trans (s3.trans (ag nt)))⟩
def si(K:PySem.W.Frag)(C:Addr):Sp:=λvs H Q E=>((NG C vs H Q E\/NH C vs H Q E)\/NI C vs H Q E)\/NJ K C vs H Q E
theorem P0{f:Addr}{fd:FuncData}(F:aX K "_law_told" "_law_told" ou f fd)(A4:Ap K mg E4 jf fdAI)(A5:zJ K mg E5 jg fdNI)(X:sf K mg E0 E1 E4 E5)(DI:Df K mg "is_lean" oq aW iP fi)(GI:ak P w K mg base (bR P w) 8 iP fi aW (Ask K C E1 E4 xT))(DM:Df K mg "made_lean" qK aW j6 hZ)(GM:ak P w K mg base (bR P w) 7 j6 hZ aW (Ask K C E1 E4 (xU E5)))(T:bK mg):ak P w K mg base aD 9 f fd lB (si K C):=
 (((PV F DI GI DM GM).or (PX F A5 X DI DM GM T)).or (PY F A4 X DI GI DM GM T)).or (PZ F X DI GI DM GM T)
end
end dO
namespace L2
open PySem PySem.Spec PyProof.Rows
def qM(ns:List Nat):PyData:=.list (ns.map λ(n:Nat)=>.int n)
theorem qN(h:Heap):∀{ns:List Nat} {us:List Value},Vals (ns.map λ(n:Nat)=>V.int n) us->ReadsAll h us (ns.map λ(n:Nat)=>.int n) []
 |[],_,.nil=>.nil
 |n::ns,_,.cons r t=>by obtain⟨k,rfl⟩:=(show ∃k,_=Value.int n k from r);exact .cons (as:=[]) (bs:=[]) (.int n k) (qN h t)
theorem x5:∀ns:List Nat,PyData.hasDictAll (ns.map λ(n:Nat)=>.int n)=false
 |[]=>by simp[PyData.hasDictAll]
 |n::ns=>by simp[PyData.hasDictAll,PyData.hasDict];exact x5 ns
theorem uA:∀{ns:List Nat},(∀n∈ns,n<=1000)->PyData.showableAll (ns.map λ(n:Nat)=>.int n)=true
 |[],_=>by simp[PyData.showableAll]
 |n::ns,h=>by
  have h1:=uA λm hm=>h m (aae _ hm);have h2:=h n aal;have e:((n:Int).natAbs.log2<1920):=by
   rw[aeL];by_cases z:n=0
   ·subst z;decide
   ·exact(af8 z).mpr (abp h2 (aaD (show 1000<2 ^ 10 by decide) (Nat.pow_le_pow_right (by decide) (by decide))))
  show(PyData.showable _&&PyData.showableAll (ns.map λ(n:Nat)=>.int n))=true
  rw[h1,Bool.and_true];exact decide_eq_true e
theorem x6:∀ns:List Nat,PyData.depthAll (ns.map λ(n:Nat)=>.int n)=0
 |[]=>by simp[PyData.depthAll]
 |n::ns=>by simp[PyData.depthAll,PyData.depth];exact x6 ns
theorem NL{l:List Nat}{k:Nat}(h:∀x∈l,x<=k):l.sum<=l.length*k:=by
 induction l with
 |nil=>simp
 |cons x l ih =>have a:=h x aal;have b:=ih λy hy=>h y (aae _ hy);rw[aeq,aaH,Nat.succ_mul];omega
theorem zW:∀(ts:List Str) (k:Nat) (acc:Str),(textFrom k acc ts).length<=acc.length+(ts.map (·.length)).sum+2*ts.length
 |[],k,acc=>by show acc.length<=_;omega
 |t::ts,k,acc=>by
  show(textFrom (k+1) (acc++(if k > 0 then ", " else "" : String)++t) ts).length<=_
  refine aam (zW ts (k+1) _) ?_;rw[adA,adA,aaE,aeq,aaH];have e:((if k > 0 then ", " else "" : String):Str).length<=2:=by split<;>decide +kernel
  omega
theorem qO:∀ns:List Nat,PyData.shownAll (ns.map λ(n:Nat)=>.int n)=ns.map λ(n:Nat)=>Str.ofString (toString (n:Int))
 |[]=>by simp[PyData.shownAll]
 |n::ns=>by simp only[aaE,PyData.shownAll,PyData.shown];rw[qO ns]
theorem Gd{ns:List Nat}(h:∀n∈ns,n<=1000)(l:ns.length<=100):(qM ns).shown.length<=sizeLine:=by
 show(PyData.shown (.list _)).length<=_
 rw[PyData.shown,qO];unfold listText;rw[adA];have a:=zW (ns.map λ(n:Nat)=>Str.ofString (toString (n:Int))) 0 "[";have b:((ns.map λ(n:Nat)=>Str.ofString (toString (n:Int))).map (·.length)).sum<=100*5:=by
  refine aam (NL (k:=5) λx hx=>?_) ?_
  ·obtain⟨y,hy,rfl⟩:=aaK.mp hx;obtain⟨n,hn,rfl⟩:=aaK.mp hy;rw[PySem.ofString_length];exact int_text_length_le10 (k:=4) (by decide) (by rw[aeL];have:=h n hn;omega)
  ·rw[aaa,aaa];exact Nat.mul_le_mul_right _ l
 have c:("[" : Str).length=1:=by decide +kernel
 have d:("]" : Str).length=1:=by decide +kernel
 have f:20000<=sizeLine:=by decide
 rw[c,aaa] at a;rw[d];omega
section
variable {X:Cx}
theorem j7{K:PySem.W.Frag}(hg:X.A.guards=some [])(hu:X.A.units+64<cLine)(hK:X.K=K:=by rfl):bV X (.builtin "repr") (λxs H Q=>∃(a:Addr) (ns:List Nat),xs=[.ref a]/\ar K H a (ns.map λ(n:Nat)=>V.int n)/\(∀n∈ns,n<=1000)/\(qM ns).shown.length<=sizeLine/\Q (.str (qM ns).shown) H):=by
 subst hK;rintro pins s σ H xs us Q I r ⟨a,ns,rfl,hq,hn,hz,q⟩;obtain⟨u,rfl,ru⟩:=vals1 r;cases ru;obtain⟨its,rv,pl,_⟩:=I.list hq;obtain⟨o,ho,hc,n,hd⟩:=pl.isList;have dp:(qM ns).depth=1:=by show PyData.depth (.list _)=1;rw[PyData.depth,x6]
 refine repr_of_reads' (h₀:=s.heap) (d:=qM ns) (.list ho hc hd (by simpa using qN s.heap rv)) (by show PyData.showable (.list _)=true;rw[PyData.showable,uA hn]) (PyData.noDict_hsm (by show PyData.hasDict (.list _)=false;rw[PyData.hasDict,x5])) hg (by rw[dp];omega) (λ_ _ e=>e) (λh' u tk hk=>⟨.str _,H,I.kept hk,⟨u,rfl⟩,q⟩) hz
end
end L2
namespace dO
open PySem PySem.Spec PyProof.Rows L2 L3 L6
abbrev Eb:Stmt:=top 60 -- Ge
abbrev Ec:Stmt:=top 61 -- HV
abbrev uB:Stmt:=top 62 -- P'
theorem Gf{X:Cx}:cJ X (compareOp .Is) (λx y H Q=>∃i j,x=.bl i/\y=.bl j/\Q (.bl (i==j)) H):=by rintro pins s σ H x y v u Q I rx ry ⟨i,j,rfl,rfl,q⟩;cases rx;cases ry;refine wpAny_is_plain (by rfl) ⟨.bl _,H,I,rfl,?_⟩;cases i<;>cases j<;>exact q
theorem nE(n:Nat):iJ n=nV (List.range n):=rfl
theorem Ed(ps:List (Str×Str)):Rs ps (List.range ps.length):=⟨aca,λk hk=>abg.mp hk⟩
theorem Pc.Vg{ms:List Str}{ps:List (Str×Str)}{zs:List Str}(p:Pc ms ps zs)(ks:List Nat):pf ms ps ks zs:=⟨p.nd,p.up,p.sub,p.ne,p.lt,λq hq=>(p.RN q hq).mp,λk _ q e=>(p.RN q (aak e)).mpr⟩
section
variable {P:Program}{w:World}{K:PySem.W.Frag}{mg:Str->Option Value}{base:Heap}
variable {C E1 E4 x8 Bl HW ux Ia iP:Addr}{pC uX Bm mS Bo fi:FuncData}
def NM(K:PySem.W.Frag)(C:Addr):Sp:=λvs H Q _=>∃(x:Addr) (y:V) (ap:Bool) (ms:List Str) (ps:List (Str×Str)),vs=[.ref x,y,.bl ap]/\bq C H x ms ps/\GoodW ms ps/\(ap=true ↔ ¬ cw ms ps)/\(ap=false->iO K H ps.length y)/\∀H',av H H'->Q (.bl true) H'
abbrev Yi:List Str:=["_law_web","_law_thing","_law_is_apart","_law_word","_law_kind","_law_told_here"]
abbrev Ee:List Str:=["_law_web","_law_thing","_law_is_apart"]
theorem Bp:aF Yi Ee (ao Eb):=⟨rfl,rfl,rfl,by decide +kernel,rfl,by decide +kernel,by decide +kernel⟩
theorem Qa{f:Addr}{fd:FuncData}(F:aX K "_law_odd_refused" "_law_odd_refused" Eb f fd)(DT:Df K mg "_law_told" ou lB x8 pC)(GT:ak P w K mg base aD 9 x8 pC lB (si K C))(T:bK mg):ak P w K mg base aD 10 f fd Ee (NM K C):=by
 refine F.ok Bp (λvs H Q E h=>?_) (λcdv A outer s H vs Q E hr h=>?_)
 ·obtain⟨x,y,ap,ms,ps,rfl,_⟩:=h;rfl
 ·obtain⟨x,y,ap,ms,ps,rfl,hW,g,ea,od,k⟩:=h;refine⟨_,aj (aM (i:=3) Bp.nd rfl (Or.inl rfl) (aY bj (br (aa dc (aa dc ae))) (bD sQ (by rfl) T.int acV (aa (pv 2) ae)) (λ_ _=>rfl)))
   (aj (cI aaX rfl (dB rfl T.range (aa ax ae)) (aI (i:=4) Bp.nd rfl (Or.inl rfl))
    (aj (aM (i:=5) Bp.nd rfl (Or.inl rfl) (aw GT hr rfl DT.aO DT.fn.kp DT.b .nil aA (aa (pv 0) (aa (pv 1) (aa (pv 4) ae)))))
    (ai (ba (PW.pt (dA (bp (bg (ay (bO (T:="tuple")) (by rfl) T.cf aaM (aa (pv 5) (aa (cq (v:=.ty "tuple") rfl T.tuple aa4 rfl) ae))) (λ_=>rfl)))
     (dA (aS kc (aY cL (pv 5) ax (λ_ _=>rfl)) (pv 3) (aU _)) (de (bp (bg (aY cL (pv 5) ax (λ_ _=>rfl)) (λ_=>rfl))))))) (ai (aB bS)) aR))))
   (ai (aB bS))),?_⟩
  try rw[bu]
  refine⟨(by show 2<=sizeLine;decide),λl0 n0=>?_⟩;have s0:=ag (o:=.lst [.str "tie",.str "apart"]) n0;have h0:=af (H:=H) (a:=l0) (o:=.lst [.str "tie",.str "apart"]);generalize upd H l0 (.lst [.str "tie",.str "apart"])=H0 at s0 h0⊢;obtain⟨wd,ew,tell⟩:∃wd,iM [V.str "tie",V.str "apart"] (if ap=true then 1 else 0)=some (.str wd)/\∀(HH:Hp) (kd:Int) (Q':VK) (E':XK),av H HH->(∀t q H',H' t=some (.tup [.str wd,.ref q,.bl true])->av HH H'->Q' (.ref t) H')->si K C [.ref x,y,.int kd] HH Q' E':=by
   cases ap with
   |true=>exact⟨_,rfl,λHH kd Q' E' sH k'=>.inl (.inr ⟨x,y,kd,ms,ps,rfl,hW.same sH,g,ea.mp rfl,λt q zs H' _ _ ht s'=>k' t q H' ht s'⟩)⟩
   |false=>exact⟨_,rfl,λHH kd Q' E' sH k'=>.inr ⟨x,y,kd,ms,ps,rfl,hW.same sH,g,(aaF λnh=>nomatch (ea.mpr nh)),(od rfl).same sH,k'⟩⟩
  refine⟨_,rfl,.inr ⟨ap,rfl,l0,_,_,_,rfl,rfl,ar.of h0,ew,?_⟩⟩;refine⟨_,rfl,by decide,by decide,?_⟩;refine dR (λi σ HH=>∃v4 v5,σ=[some (.ref x),some y,some (.bl ap),some (.str wd),v4,v5]/\av H HH) ⟨_,_,rfl,s0⟩ ?_ ?_
  ·rintro i σ HH hi ⟨v4,v5,rfl,sH⟩;refine⟨_,rfl,_,rfl,_,rfl,tell HH _ _ _ sH λt q H' ht s'=>?_⟩;refine⟨_,rfl,_,_,true,rfl,.tup ht,rfl,_,rfl,aP ?_⟩;refine⟨_,rfl,t,_,_,_,rfl,rfl,aZ.of ht,aQ (j:=0) rfl,_,rfl,rfl,_,rfl,?_⟩;rw[decide_eq_true rfl];refine aP ⟨_,rfl,t,_,_,_,rfl,rfl,aZ.of ht,aQ (j:=2) rfl,_,rfl,aP ?_⟩;exact⟨_,_,rfl,sH.trans s'⟩
  ·rintro σ HH ⟨v4,v5,rfl,sH⟩;exact k _ sH
def NN:Sp:=λvs H Q _=>∃(t a b l q:Addr) (wd:Str) (ms:List Str) (ps:List (Str×Str)) (ts:List Addr) (ks:List Nat) (zs:List Str),vs=[.ref t,.str wd,.ref a,.ref b,.ref l]/\Lists H a b ms ps ts/\H l=some (.lst (nV ks))/\H t=some (.tup [.str wd,.ref q,.bl true])/\H q=some (.tup (zs.map V.str))/\pf ms ps ks zs/\∀H',av H H'->Q (.bl true) H'
abbrev zX:List Str:=["_law_told_here","_law_word","_law_places_here","_law_pairs_here","_law_some_here"]
theorem Vh:aF zX zX (ao Ec):=⟨rfl,rfl,rfl,by decide +kernel,rfl,by decide +kernel,by decide +kernel⟩
theorem Qb{f:Addr}{fd:FuncData}(F:aX K "_law_is_refused" "_law_is_refused" Ec f fd)(DM:Df K mg "_law_missed" rW xZ Bl uX)(en:mg "enumerate" = none)(T:bK mg):ak P w K mg base aD 2 f fd zX NN:=by
 have GM:ak P w K mg base aD 1 Bl uX xZ HS:=Ny DM.fn en T;refine F.ok Vh (λvs H Q E h=>?_) (λcdv A outer s H vs Q E hr h=>?_)
 ·obtain⟨t,a,b,l,q,wd,ms,ps,ts,ks,zs,rfl,_⟩:=h;rfl
 ·obtain⟨t,a,b,l,q,wd,ms,ps,ts,ks,zs,rfl,L,hl,ht,hq,ck,k⟩:=h;refine⟨_,aj (ba (PW.pt (dA (bp (bg (ay (bO (T:="tuple")) (by rfl) T.cf aaM (aa (pv 0) (aa (cq (v:=.ty "tuple") rfl T.tuple aa4 rfl) ae))) (λ_=>rfl)))
     (dA (aS kc (aY cL (pv 0) ax (λ_ _=>rfl)) (pv 1) (aU _)) (de (bp (bg (aY cL (pv 0) ax (λ_ _=>rfl)) (λ_=>rfl))))))) (ai (aB bS)) aR)
   (ai (aB (aw GM hr rfl DM.aO DM.fn.kp DM.b .nil aA (aa (pv 2) (aa (pv 3) (aa (pv 4) (aa (aY cL (pv 0) ax (λ_ _=>rfl)) ae))))))),?_⟩
  try rw[bu]
  refine⟨_,rfl,_,_,true,rfl,.tup ht,rfl,_,rfl,aP ?_⟩;refine⟨_,rfl,t,_,_,_,rfl,rfl,aZ.of ht,aQ (j:=0) rfl,_,rfl,rfl,_,rfl,?_⟩;rw[decide_eq_true rfl];refine aP ⟨_,rfl,t,_,_,_,rfl,rfl,aZ.of ht,aQ (j:=2) rfl,_,rfl,aP ?_⟩;refine⟨_,rfl,_,rfl,_,rfl,_,rfl,t,_,_,_,rfl,rfl,aZ.of ht,aQ (j:=1) rfl,?_⟩;exact⟨a,b,l,q,ms,ps,ts,ks,zs,rfl,L,hl,hq,ck,k⟩
def Ef(ms:List Str)(ps:List (Str×Str))(ks:List Nat)(H:Hp)(j:Nat)(v:V):Prop:=(¬ cw ms ps->∃t q zs,v=.ref t/\H t=some (.tup [.str "apart",.ref q,.bl true])/\H q=some (.tup (zs.map V.str))/\Pc ms ps zs) /\
 (cw ms ps->(j=0->∃b,v=.bl b/\(b=true ↔ Ln ms ps ks))/\(j≠0->(Full ms ps ks->∃q,v=.ref q/\H q=some (.lst (nV (mQ ms ps ks))))/\(¬ Full ms ps ks->∃t q zs,v=.ref t/\H t=some (.tup [.str "missed",.ref q,.bl true])/\H q=some (.tup (zs.map V.str))/\pf ms ps ks zs)))
theorem Ef.same{ms:List Str}{ps:List (Str×Str)}{ks:List Nat}{H H':Hp}{j:Nat}{v:V}(h:Ef ms ps ks H j v)(s:av H H'):Ef ms ps ks H' j v:=by
 refine⟨λnh=>?_,λhh=>⟨(h.2 hh).1,λn0=>⟨λfu=>?_,λnf=>?_⟩⟩⟩
 ·obtain⟨t,q,zs,e,ht,hq,r⟩:=h.1 nh;exact⟨t,q,zs,e,s _ _ ht,s _ _ hq,r⟩
 ·obtain⟨q,e,hq⟩:=((h.2 hh).2 n0).1 fu;exact⟨q,e,s _ _ hq⟩
 ·obtain⟨t,q,zs,e,ht,hq,r⟩:=((h.2 hh).2 n0).2 nf;exact⟨t,q,zs,e,s _ _ ht,s _ _ hq,r⟩
theorem NO{H:Hp}{x l:Addr}{ms:List Str}{ps:List (Str×Str)}{ks:List Nat}{j:Nat}{Q:VK}{E:XK}(hW:bq C H x ms ps)(g:GoodW ms ps)(hl:H l=some (.lst (nV ks)))(rs:Rs ps ks)(k:∀v H',Ef ms ps ks H' j v->av H H'->Q v H'):si K C [.ref x,.ref l,.int (0+(j:Int))] H Q E:=by
 by_cases hh:cw ms ps
 ·by_cases z:j=0
  ·subst z;exact .inl (.inl (.inl ⟨x,l,_,ms,ps,ks,rfl,hW,g,hh,hl,rs,.inl ⟨rfl,λb H' e s'=>k _ H' ⟨λn=>absurd hh n,λ_=>⟨λ_=>⟨b,rfl,e⟩,λn=>absurd rfl n⟩⟩ s'⟩⟩))
  ·have z':(0+(j:Int))≠0:=by omega
   by_cases fu:Full ms ps ks
   ·exact .inl (.inl (.inl ⟨x,l,_,ms,ps,ks,rfl,hW,g,hh,hl,rs,.inr ⟨z',fu,λq H' _ hq s'=>k _ H' ⟨λn=>absurd hh n,λ_=>⟨λn=>absurd n z,λ_=>⟨λ_=>⟨q,rfl,hq⟩,λn=>absurd fu n⟩⟩⟩ s'⟩⟩))
   ·exact .inl (.inl (.inr ⟨x,l,_,ms,ps,ks,rfl,hW,g,hh,hl,rs,z',fu,λt q zs H' ck hq ht s'=>k _ H' ⟨λn=>absurd hh n,λ_=>⟨λn=>absurd n z,λ_=>⟨λn=>absurd n fu,λ_=>⟨t,q,zs,rfl,ht,hq,ck⟩⟩⟩⟩ s'⟩))
 ·exact .inl (.inr ⟨x,_,_,ms,ps,rfl,hW,g,hh,λt q zs H' pc hq ht s'=>k _ H' ⟨λ_=>⟨t,q,zs,rfl,ht,hq,pc⟩,λn=>absurd n hh⟩ s'⟩)
def Bq(C:Addr):Sp:=λvs H Q _=>∃(x a b l:Addr) (ap:Bool) (ms:List Str) (ps:List (Str×Str)) (ts:List Addr) (ks:List Nat),vs=[.ref x,.ref a,.ref b,.ref l,.bl ap]/\bq C H x ms ps/\Lists H a b ms ps ts/\H l=some (.lst (nV ks))/\Rs ps ks/\(ap=true ↔ ¬ cw ms ps)/\∀H',av H H'->Q (.bl true) H'
abbrev NP:List Str:=["_law_web","_law_places_here","_law_pairs_here","_law_some_here","_law_is_apart","_law_told_here","_law_every","_law_meets_here","_law_lean"]
abbrev uC:List Str:=["_law_web","_law_places_here","_law_pairs_here","_law_some_here","_law_is_apart"]
theorem x9:aF NP uC (ao uB):=⟨rfl,rfl,rfl,by decide +kernel,rfl,by decide +kernel,by decide +kernel⟩
theorem Qc{f:Addr}{fd:FuncData}(F:aX K "_law_right" "_law_right" uB f fd)(DT:Df K mg "_law_told" ou lB x8 pC)(GT:ak P w K mg base aD 9 x8 pC lB (si K C))(DR:Df K mg "_law_is_refused" Ec zX HW Bm)(GR:ak P w K mg base aD 2 HW Bm zX NN)(DE:Df K mg "_law_meets" xW jj ux mS)(GE:ak P w K mg base aD 3 ux mS jj Bk)
  (DL:Df K mg "_law_made_lean" zT jj Ia Bo) (GL:ak P w K mg base aD 4 Ia Bo jj Nw) (DI:Df K mg "is_lean" oq aW iP fi) (GI:ak P w K mg base (bR P w) 8 iP fi aW (Ask K C E1 E4 xT)) (rp:mg "repr" = none) (T:bK mg):ak P w K mg base aD 10 f fd uC (Bq C):=by
 refine F.ok x9 (λvs H Q E h=>?_) (λcdv A outer s H vs Q E hr h=>?_)
 ·obtain⟨x,a,b,l,ap,ms,ps,ts,ks,rfl,_⟩:=h;rfl
 ·obtain⟨x,a,b,l,ap,ms,ps,ts,ks,rfl,hW,L,hl,rs,ea,k⟩:=h;have h2:=hr.mono (j:=2) (by decide);have h3:=hr.mono (j:=3) (by decide);have h4:=hr.mono (j:=4) (by decide);have h8:=hr.mono (j:=8) (by decide);have gd:=hr.gd;have un:=hr.units;refine⟨_,aj (qX (i:=5) ["_law_kind"] [0,3] x9.nd rfl rfl rfl (bQ (osc:=(ao uB).names) (N:=NP) rfl rfl (by decide +kernel)) (bJ (by decide)) (dB rfl T.range (aa ax ae))
     (λ_ _ _=>aI (i:=0) (show(["_law_kind","_law_web","_law_some_here"]:List Str).Nodup by decide +kernel) rfl (Or.inl rfl)) (λ_ _ _=>bT) (λ_ _ _=>aw GT hr rfl DT.aO DT.fn.kp DT.b .nil aA (aa (pv 1) (aa (pv 2) (aa (pv 0) ae)))))
   (aj (ba (bg (pv 4) (λ_=>rfl))
    (aj (aM (i:=6) x9.nd rfl (Or.inr rfl) (dz rfl rfl T.list rfl T.range (aa (ay aE (by rfl) T.len aav (aa (pv 2) ae)) ae)))
    (ai (aB (ay (fU rfl) (by rfl) T.all adg (aa (cV ["_law_one"] [1,2,6] rfl (bQ (osc:=(ao uB).names) (N:=NP) rfl rfl (by decide +kernel)) (bJ (by decide)) (bh (pv 5))
     (λ_ _ _=>aI (i:=0) (show(["_law_one","_law_places_here","_law_pairs_here","_law_every"]:List Str).Nodup by decide +kernel) rfl (Or.inl rfl)) (λ_ _ _=>bT) (λ_ _ _=>aw GR h2 rfl DR.aO DR.fn.kp DR.b .nil aA (aa (pv 0) (aa dc (aa (pv 1) (aa (pv 2) (aa (pv 3) ae))))))) ae))))) aR)
   (aj (aM (i:=7) x9.nd rfl (Or.inl rfl) (aw GE h3 rfl DE.aO DE.fn.kp DE.b .nil aA (aa (pv 1) (aa (pv 2) (aa (pv 3) ae)))))
   (aj (aM (i:=8) x9.nd rfl (Or.inl rfl) (aw GL h4 rfl DL.aO DL.fn.kp DL.b .nil aA (aa (pv 1) (aa (pv 2) (aa (pv 3) ae)))))
   (aj (ba (PW.pt (dA (bp (bg (ay (bO (T:="bool")) (by rfl) T.cf aaM (aa (aY bj (pv 5) ax (λ_ _=>rfl)) (aa (cq (v:=.ty "bool") rfl T.bool adZ rfl) ae))) (λ_=>rfl)))
    (de (aS kc (aY bj (pv 5) ax (λ_ _=>rfl)) (eM (pv 7) (fk (cP (kB (low 0 hr)) (pv 8) (pv 3) (aU _)))) (aU _))))) (ai (aB bS)) aR)
   (aj (ba (bp (bg (pv 7) (λ_=>rfl))) (ai (aB (aw GR h2 rfl DR.aO DR.fn.kp DR.b .nil aA (aa (aY bj (pv 5) ax (λ_ _=>rfl)) (aa dc (aa (pv 1) (aa (pv 2) (aa (pv 3) ae)))))))) aR)
   (aj (ba (aS kc (ay (j7 (K:=K) gd un) (by rfl) rp ad3 (aa (aY bj (pv 5) ax (λ_ _=>rfl)) ae)) (ay (j7 (K:=K) gd un) (by rfl) rp ad3 (aa (pv 8) ae)) (aU _)) (ai (aB bS)) aR)
   (ai (aB (cP Gf (aw GI h8 rfl DI.aO DI.fn.kp DI.b .nil xF (aa (pv 0) (aa (pv 8) ae))) bS (aU _)))))))))),?_⟩
  try rw[bu]
  have g:GoodW ms ps:=⟨L.good,L.ins,L.aJ⟩
  have fE:=g.aJ;have zx:ts.length=ps.length:=L.hT.len;have big:1000<=sizeLine:=by decide
  refine⟨_,rfl,by decide,by decide,oP (λi ys HH=>av H HH/\ys.length=i/\∀j v,ys[j]?=some v->Ef ms ps ks HH j v) ⟨av.refl _,rfl,(λj v e=>by simp at e)⟩ ?_ ?_ ?_⟩
  ·rintro i ys HH hi ⟨_,e,_⟩;rw[e];exact aam hi (by decide)
  ·rintro i ys HH R hi ⟨sH,el,al⟩ kR;simp only[bF,dN,aa3];refine⟨_,rfl,_,rfl,_,rfl,NO (hW.same sH) g (sH _ _ hl) rs λv H' tp s'=>kR _ _ ⟨sH.trans s',by simp[el],λj u e=>?_⟩⟩;by_cases z:j<ys.length
   ·rw[aa6 z] at e;exact(al j u e).same s'
   ·have zj:j=i:=by
     have:=(aaB.mp e).1
     rw[aay,abH] at this;omega
    rw[abn (by omega)] at e
    have:j-ys.length=0:=by omega
    rw[this] at e;cases e;rw[zj];exact tp
  rintro ys HH ⟨sH,el,al⟩ D nD;obtain⟨v0,v1,rfl⟩:∃v0 v1,ys=[v0,v1]:=by
   match ys,el with
   |[v0,v1],_=>exact⟨v0,v1,rfl⟩
  have s1:=sH.trans (ag (o:=.lst [v0,v1]) nD);have hD:=af (H:=HH) (a:=D) (o:=.lst [v0,v1]);have t0:=(al 0 v0 rfl).same (ag (o:=.lst [v0,v1]) nD);have t1:=(al 1 v1 rfl).same (ag (o:=.lst [v0,v1]) nD);generalize upd HH D (.lst [v0,v1])=H1 at s1 hD t0 t1⊢;refine⟨_,rfl,_,rfl,?_⟩;cases ap with
  |true=>
   have nh:=ea.mp rfl;refine bt ⟨_,rfl,b,_,rfl,.inl (ar.of (s1 _ _ L.hb)),ps.length,by rw[aaa,zx],by omega,λl5 n5=>?_⟩;rw[nE];have s2:=ag (o:=.lst (nV (List.range ps.length))) n5;have hl5:=af (H:=H1) (a:=l5) (o:=.lst (nV (List.range ps.length)));generalize upd H1 l5 (.lst (nV (List.range ps.length)))=H2 at s2 hl5⊢;have s12:=s1.trans s2;have t0:=t0.same s2;have t1:=t1.same s2;have tt:∀v∈[v0,v1],∃t q zs,v=.ref t/\H2 t=some (.tup [.str "apart",.ref q,.bl true])/\H2 q=some (.tup (zs.map V.str))/\Pc ms ps zs:=λv hv=>by
    rcases aah.mp hv with rfl|hv
    ·exact t0.1 nh
    ·rw[aaf.mp hv];exact t1.1 nh
   have Sx:=s2 _ _ hD;refine⟨_,rfl,D,rfl,⟨_,ar.of Sx⟩,cu (K:=K) (xs:=[v0,v1]) (λi ys H4=>av H2 H4/\∃bs:List Bool,ys=bs.map V.bl/\bs.length=i/\bs.all id=true) ⟨av.refl _,[],rfl,rfl,rfl⟩ ?_ ?_ ?_ ?_⟩
   ·rintro i ys H4 hi ⟨_,bs,rfl,e,_⟩;rw[aaa,e];exact aam hi (by show 2<=sizeLine;decide)
   ·rintro i ys H4 _ ⟨s4,_⟩;exact ar.of (s4 _ _ Sx)
   ·rintro i v ys H4 R hv ⟨s4,bs,rfl,el,eb⟩ kR;obtain⟨t,q,zs,rfl,ht,hq,pc⟩:=tt v (aak hv);simp only[dN,bF,aa3];refine⟨_,rfl,_,rfl,_,rfl,_,rfl,t,a,b,l5,q,"apart",ms,ps,ts,_,zs,rfl,L.same (s12.trans s4),s4 _ _ hl5,s4 _ _ ht,s4 _ _ hq,pc.Vg _,λH5 s5=>kR _ _ ⟨s4.trans s5,bs++[true],by simp,by simp[el],?_⟩⟩;rw[afu,eb];rfl
   rintro ys H4 ⟨s4,bs,rfl,el,eb⟩ D4 n4;refine⟨D4,bs,rfl,ar.of af,?_⟩;rw[eb];exact k _ (s12.trans (s4.trans (ag n4)))
  |false=>
   have hh:cw ms ps:=aaF λnh=>nomatch (ea.mpr nh);obtain⟨b0,rfl,e0⟩:=(t0.2 hh).1 rfl;have e1:=(t1.2 hh).2 (by decide);refine aP ?_;refine⟨_,rfl,_,rfl,_,rfl,a,b,l,ms,ps,ts,ks,rfl,L.same s1,s1 _ _ hl,rs,λme H2 em s2=>?_⟩;have s12:=s1.trans s2;refine⟨_,rfl,_,rfl,_,rfl,a,b,l,ms,ps,ts,ks,rfl,L.same s12,s12 _ _ hl,rs,λq H3 nq hq s3=>?_⟩;have s13:=s12.trans s3;have s23:=s2.trans s3;have k8:=s23 _ _ hD;refine⟨_,rfl,D,_,_,_,rfl,rfl,ar.of k8,aQ (j:=0) rfl,_,_,true,rfl,.bl _,rfl,_,rfl,aP ?_⟩;refine⟨_,rfl,D,_,_,_,rfl,rfl,ar.of k8,aQ (j:=0) rfl,_,rfl,_,rfl,?_⟩;cases me with
   |false=>
    have nf:¬ Full ms ps ks:=λfu=>nomatch (em.mpr fu);have bf:b0=false:=by
     cases b0 with
     |false=>rfl
     |true=>exact absurd (e0.mp rfl).1 nf
    subst bf;refine aP ⟨rfl,_,rfl,?_⟩;rw[decide_eq_true rfl];refine aP ⟨_,rfl,_,rfl,bt ?_⟩;obtain⟨t,q2,zs,rfl,ht,gW,ck⟩:=e1.2 nf;exact⟨_,rfl,D,_,_,_,rfl,rfl,ar.of k8,aQ (j:=1) rfl,_,rfl,_,rfl,_,rfl,t,a,b,l,q2,"missed",ms,ps,ts,ks,zs,rfl,L.same s13,s13 _ _ hl,s23 _ _ ht,s23 _ _ gW,ck,λH4 s4=>k _ (s13.trans s4)⟩
   |true=>
    have fu:=em.mp rfl;obtain⟨q1,rfl,Yj⟩:=e1.1 fu;refine bt ⟨_,rfl,_,rfl,q,l,_,_,rfl,rfl,.inl ⟨ar.of hq,ar.of (s13 _ _ hl)⟩,mO _,mO _,?_⟩;rw[D6,if_neg (by simp)];have eb:b0=decide (mQ ms ps ks=ks):=by rw[abz,e0,aaL,F9 fu]
    refine⟨rfl,_,rfl,?_⟩;rw[<-eb,decide_eq_true rfl];refine aP ⟨_,rfl,_,rfl,aP ?_⟩;have rm:=Np (ms:=ms) rs;have lm:=rm.len;have f1:∀n∈mQ ms ps ks,n<=1000:=λn hn=>by have:=rm.lt n hn;omega
    have f2:=Gd f1 (by omega);refine⟨_,rfl,D,_,_,_,rfl,rfl,ar.of k8,aQ (j:=1) rfl,q1,mQ ms ps ks,rfl,ar.of (s23 _ _ Yj),f1,f2,?_⟩;refine⟨_,rfl,q,mQ ms ps ks,rfl,ar.of hq,f1,f2,rfl,_,rfl,?_⟩;rw[decide_eq_true rfl];refine aP ?_;refine⟨_,rfl,_,rfl,x,_,ms,ps,rfl,hW.same s13,g,λz=>absurd hh z,λ_=>.inl ⟨q,_,rfl,hq,rm,λbl H4 e4 s4=>?_⟩⟩;refine⟨_,_,rfl,rfl,?_⟩;rw[e4.mpr (xS fu)];exact k _ (s13.trans s4)
end
open PySem PySem.Spec PyProof.Rows L2 L3
abbrev Eg:Stmt:=top 63 -- Sy
theorem Vi(x:V)(l:List V):eE (x::l) (some 1) none=l:=by unfold eE;simp[HT.iL]
def Br(ps:List (Str×Str))(z0:Str)(zs:List Str):Prop:=∀z∈zs,(z0,z)∈ps\/(z,z0)∈ps
theorem Br.hangs{ps:List (Str×Str)}{z0:Str}{zs:List Str}(h:Br ps z0 zs):cw (z0::zs) ps:=by
 have al:∀z∈z0::zs,bP (cF ps) z0 z:=λz hz=>by
  rcases aah.mp hz with rfl|hz
  ·exact .here _
  ·rcases h z hz with q|q
   ·exact(bP.here z0).on (show(z0,z)∈cF ps from aax _ q)
   ·exact(bP.here z0).on (show(z0,z)∈cF ps from aaj _ (cC.mpr q))
 exact λa ha b hb=>(o8 (al a ha)).trans (al b hb)
section
variable {P:Program}{w:World}{K:PySem.W.Frag}{mg:Str->Option Value}{base:Heap}
variable {qP Ib xK:Addr}{kZ Bs pq:FuncData}
def NQ:Sp:=λvs H Q _=>∃(p:Addr),vs=[.ref p]/\Row H p/\∀(t a b:Addr) (ms:List Str) (ps:List (Str×Str)) (ts:List Addr) (H':Hp),Lists H' a b ms ps ts->cw ms ps->H' t=some (.tup [.ref a,.ref b])->a≠p->b≠p->Row H' p->bM p H H'->Q (.ref t) H'
abbrev Yk:List Str:=["_law_pot_here","_law_places_here","_law_k","_law_pairs_here","_law_place","_law_pair","_law_turn"]
abbrev oz:List Str:=["_law_pot_here"]
theorem pE:aF Yk oz (ao Eg):=⟨rfl,rfl,rfl,by decide +kernel,rfl,by decide +kernel,by decide +kernel⟩
theorem Qd{f:Addr}{fd:FuncData}(F:aX K "_law_star" "_law_star" Eg f fd)(DT:Df K mg "_law_draw" fJ ["_law_pot_here","_law_many"] qP kZ)(DN:Df K mg "_law_drawn" jI jx xK pq)(DM:Df K mg "_law_name" tR wa Ib Bs)(T:bK mg):ak P w K mg base aD 4 f fd oz NQ:=by
 have GT:ak P w K mg base aD 1 qP kZ ["_law_pot_here","_law_many"] gM:=gw DT.fn T;have GN:ak P w K mg base aD 3 Ib Bs wa E8:=Hf DM.fn DT DN T;refine F.ok pE (λvs H Q E h=>?_) (λcdv A outer s H vs Q E hr h=>?_)
 ·obtain⟨p,rfl,_⟩:=h;rfl
 ·obtain⟨p,rfl,hp,k⟩:=h;have h1:=hr.mono (j:=1) (by decide);refine⟨_,aj (aM (i:=1) pE.nd rfl (Or.inl rfl) (br ae))
   (aj (cI aaX rfl (dB rfl T.range (aa ax ae)) (aI (i:=2) pE.nd rfl (Or.inl rfl))
    (ai (cb (ik aa5 abr abt gn (pv 1) (aa (aw GN hr rfl DM.aO DM.fn.kp DM.b .nil aA (aa (pv 0) (aa (pv 1) ae))) ae)))))
   (aj (aM (i:=3) pE.nd rfl (Or.inl rfl) (br ae))
   (aj (cI aaX rfl (bh (kh yP (pv 1) (jO ax) mW)) (aI (i:=4) pE.nd rfl (Or.inl rfl))
    (aj (aM (i:=5) pE.nd rfl (Or.inl rfl) (aY bj (br (aa (cK (aa (aY bj (pv 1) ax (λ_ _=>rfl)) (aa (pv 4) ae))) (aa (cK (aa (pv 4) (aa (aY bj (pv 1) ax (λ_ _=>rfl)) ae))) ae)))
     (bD sQ (by rfl) T.int acV (aa (cP fF (aw GT h1 rfl DT.aO DT.fn.kp DT.b .nil aA (aa (pv 0) (aa ax ae))) ax (aU _)) ae)) (λ_ _=>rfl)))
    (ai (cI aaX rfl (dB rfl T.range (aa (bo eO ax (aw GT h1 rfl DT.aO DT.fn.kp DT.b .nil aA (aa (pv 0) (aa ax ae)))) ae)) (aI (i:=6) pE.nd rfl (Or.inl rfl))
     (ai (cb (ik aa5 acA acB mJ (pv 3) (aa (aw GT h1 rfl DT.aO DT.fn.kp DT.b .nil aA (aa (pv 0) (aa (bo eO (ay aE (by rfl) T.len aav (aa (pv 3) ae)) ax) ae)))
      (aa (pv 5) ae)))))))))
   (ai (aB (cK (aa (pv 1) (aa (pv 3) ae)))))))),?_⟩
  try rw[bu]
  have big:1000<=sizeLine:=by decide
  have cp:∀{HH:Hp} {q:Addr},Row HH p->HH q=none->q≠p:=λr n e=>by obtain⟨x,y,z⟩:=r;rw[e,z] at n;cases n
  refine⟨(by decide),λla uw=>?_⟩;have Eh:p≠la:=au hp.lst.choose_spec uw;refine⟨_,rfl,by decide,by decide,?_⟩;have Lk:bM p H (upd H la (.lst [])):=λc o e n=>by rw[L2.aq (au e uw)];exact e
  refine dR (λi σ H2=>∃(v2:Option V) (ns:List Str),σ=[some (V.ref p),some (V.ref la),v2,none,none,none,none]/\Row H2 p/\bM p H H2/\H2 la=some (.lst (ns.map V.str))/\ns.length=i/\(∀z∈ns,nm z=true)/\ns.Nodup) ⟨_,[],rfl,hp.aq Eh,Lk,af,rfl,(λ_ z=>nomatch z),acg⟩ ?_ ?_
  ·rintro i σ H2 hi ⟨v3,ns,rfl,jt,b2,gW,hl,hn,nd⟩;have hi:i<12:=hi;refine⟨_,rfl,.inl ⟨rfl,_,ar.of gW⟩,_,rfl,_,rfl,p,la,ns,rfl,jt,aaI Eh,gW,by omega,λz H3 hz gK nX b3=>?_⟩;have wg:=b3 _ _ gW (aaI Eh);refine⟨la,_,_,rfl,rfl,wg,(by rw[aaa];exact eT (by omega)),?_⟩;refine⟨_,ns++[z],rfl,nX.aq Eh,(b2.trans b3).cR uw,?_,by simp[hl],?_,g7 nd gK⟩
   ·rw[af];simp
   ·intro y hy;rcases aas.mp hy with h|h
    ·exact hn y h
    ·rw[aaf.mp h];exact hz
  rintro σ H2 ⟨v2,ms,rfl,jt,b2,Dk,hl,hn,nd⟩;have hl:ms.length=12:=hl;have good:nj ms:=⟨by omega,by omega,hn,nd⟩
  have dH:=aaI Eh;obtain⟨z0,zs,rfl⟩:∃z0 zs,ms=z0::zs:=by
   cases ms with
   |nil=>simp at hl
   |cons z0 zs=>exact⟨z0,zs,rfl⟩
  have lz:zs.length=11:=by simpa using hl
  refine⟨(by decide),λb nb=>?_⟩;have dq:=cp jt nb;have uh:la≠b:=au Dk nb;have W0:WI p la b (z0::zs) H2 0 [] [] (upd H2 b (.lst [])):=⟨jt.aq (aaI dq),λc o e n=>by rw[L2.aq (au e nb)];exact e,by rw[L2.aq uh];exact Dk,af,.nil,(λ_ z=>nomatch z),rfl⟩
  generalize upd H2 b (.lst [])=H3 at W0⊢;refine⟨_,rfl,_,rfl,la,_,rfl,ar.of W0.ha,λlc ff=>?_⟩;rw[show eE ((z0::zs).map V.str) (some 1) none=zs.map V.str from Vi _ _];have W1:=W0.new (o:=.lst (zs.map V.str)) ff;have hc:=af (H:=H3) (a:=lc) (o:=.lst (zs.map V.str));have NR:=cp W0.row ff;have Yl:lc≠b:=aaI (au W0.hb ff);generalize upd H3 lc (.lst (zs.map V.str))=H4 at W1 hc⊢;refine⟨lc,rfl,⟨_,ar.of hc⟩,dY (K:=K) (xs:=zs.map V.str) (λi σ HH=>∃v4 v5 v6 n ps ts,σ=[some (.ref p),some (.ref la),v2,some (.ref b),v4,v5,v6]/\WI p la b (z0::zs) H2 n ps ts HH/\n<=2*i/\Br ps z0 (zs.take i)/\HH lc=some (.lst (zs.map V.str))) ⟨_,_,_,0,[],[],rfl,W1,aac _,(λz hz=>by simp at hz),hc⟩ ?_ ?_ ?_⟩
  ·rintro i σ HH _ ⟨_,_,_,_,_,_,rfl,_,_,_,h⟩;exact ar.of h
  ·rintro i v σ HH hv ⟨v4,v5,v6,n,ps,ts,rfl,WH,n2,td,cH⟩;rw[aan] at hv;obtain⟨z,ez,rfl⟩:=aap.mp hv;have hz:=aak ez;have ZQ:i<11:=by have:=(aaB.mp ez).1;omega
   have a0:iM ((z0::zs).map V.str) 0=some (V.str z0):=aQ (j:=0) rfl;refine⟨_,rfl,la,_,_,_,rfl,rfl,ar.of WH.ha,a0,_,rfl,(by show 2<=sizeLine;decide),λt nt=>?_⟩;have W5:=WH.new (o:=.tup [.str z0,.str z]) nt;have Sz:=af (H:=HH) (a:=t) (o:=.tup [.str z0,.str z]);have c5:=ag (o:=.tup [.str z0,.str z]) nt _ _ cH;have Dt:=cp WH.row nt;generalize upd HH t (.tup [.str z0,.str z])=H5 at W5 Sz c5⊢;refine⟨_,rfl,_,rfl,la,_,_,_,rfl,rfl,ar.of W5.ha,a0,(by show 2<=sizeLine;decide),λt2 qA=>?_⟩;have s6:=ag (o:=.tup [.str z,.str z0]) qA;have W6:=W5.new (o:=.tup [.str z,.str z0]) qA;have SA:=s6 _ _ Sz;have SD:=af (H:=H5) (a:=t2) (o:=.tup [.str z,.str z0]);have c6:=s6 _ _ c5;have A8:=cp W5.row qA;generalize upd H5 t2 (.tup [.str z,.str z0])=H6 at W6 SA SD c6⊢;refine⟨(by show 2<=sizeLine;decide),λl2 mK=>?_⟩;have s7:=ag (o:=.lst [.ref t,.ref t2]) mK;have W7:=W6.new (o:=.lst [.ref t,.ref t2]) mK;have Ea:=s7 _ _ SA;have SE:=s7 _ _ SD;have c7:=s7 _ _ c6;have hl7:=af (H:=H6) (a:=l2) (o:=.lst [.ref t,.ref t2]);have FN:=cp W6.row mK;generalize upd H6 l2 (.lst [.ref t,.ref t2])=H7 at W7 Ea SE hl7 c7⊢;refine⟨_,rfl,p,4,rfl,W7.row,by decide,by decide,λd H8 d0 d4 r8 b8=>⟨rfl,.inr ⟨_,rfl,?_⟩⟩⟩;have W8:=W7.drawn b8 r8 dH dq;have c8:=b8 _ _ c7 NR;have hl8:=b8 _ _ hl7 FN;obtain⟨u,e,eu,Ym,SG,HU,Yn,het⟩:∃(u:Addr) (e:Str×Str),iM [V.ref t,V.ref t2] (if decide (V.int d=V.int 3)=true then 1 else 0)=some (.ref u)/\H8 u=some (.tup [.str e.1,.str e.2])/\u≠p/\e.1∈z0::zs/\e.2∈z0::zs/\(e=(z0,z)\/e=(z,z0)):=by
    by_cases c:V.int d=V.int 3
    ·exact⟨t2,(z,z0),by rw[decide_eq_true c];rfl,b8 _ _ SE A8,A8,aae _ hz,aal,.inr rfl⟩
    ·exact⟨t,(z0,z),by rw[aaA c];rfl,b8 _ _ Ea Dt,Dt,aal,aae _ hz,.inl rfl⟩
   refine⟨l2,_,_,_,rfl,rfl,ar.of hl8,eu,?_⟩;refine⟨_,rfl,p,2,rfl,W8.row,by decide,by decide,λd2 H9 RC Xs r9 b9=>?_⟩;have W9:=W8.drawn b9 r9 dH dq;have c9:=b9 _ _ c8 NR;have zy:=b9 _ _ Ym SG;refine⟨_,_,rfl,rfl,_,rfl,by omega,by omega,?_⟩;refine dR (λj σ HH=>∃v6 m zY Ei,σ=[some (.ref p),some (.ref la),v2,some (.ref b),some (.str z),some (.ref u),v6]/\WI p la b (z0::zs) H2 m zY Ei HH/\m<=2*i+j/\Br zY z0 (zs.take i)/\(0<j->e∈zY)/\HH lc=some (.lst (zs.map V.str))/\HH u=some (.tup [.str e.1,.str e.2])) ⟨_,n,ps,ts,rfl,W9,n2,td,(λh=>absurd h (by decide)),c9,zy⟩ ?_ ?_
   ·rintro j σ HA hj ⟨v6,m,zY,Ei,rfl,WA,m2,td2,y',cA,SH⟩;have hj:j<(1+d2).toNat:=hj;have ZR:Ei.length=m:=by rw[WA.iF.len,WA.len]
    refine⟨_,rfl,.inl ⟨rfl,_,ar.of WA.hb⟩,_,rfl,_,rfl,b,_,rfl,.inl (ar.of WA.hb),_,_,rfl,rfl,p,_,rfl,WA.row,by rw[aaa];omega,by rw[aaa];omega,λd3 HB zt zw rB bB=>?_⟩;rw[aaa] at zw;have WB:=WA.drawn bB rB dH dq;have cB:=bB _ _ cA NR;have Ic:=bB _ _ SH SG;obtain⟨uk,rfl⟩:=abe zt;have WE:=WB.put uk Ic HU Yn (by omega) dq uh nb;have Yo:u≠b:=λz=>by rw[z,WB.hb] at Ic;cases Ic
    refine⟨_,rfl,b,_,uk,_,rfl,rfl,WB.hb,by rw[aaa];omega,by rw[aaa];omega,_,m+1,_,_,rfl,WE,by omega,λy hy=>?_,λ_=>nk.mpr (.inr rfl),by rw[L2.aq Yl];exact cB,by rw[L2.aq Yo];exact Ic⟩;exact(td2 y hy).imp (λq=>nk.mpr (.inl q)) λq=>nk.mpr (.inl q)
   ·rintro σ HA ⟨v6,m,zY,Ei,rfl,WA,m2,td2,y',cA,SH⟩;refine⟨_,_,_,m,zY,Ei,rfl,WA,by omega,λy hy=>?_,cA⟩;rw[aaC,ez] at hy;rcases aas.mp hy with q|q
    ·exact td2 y q
    ·have:y=z:=by simpa using q
     subst this
     have:=y' (by omega)
     rcases het with q|q
     ·rw[q] at this;exact .inl this
     ·rw[q] at this;exact .inr this
  ·rintro σ HA ⟨v4,v5,v6,n,ps,ts,rfl,WA,n2,td,cA⟩;rw[aaa] at n2 td;rw[abb] at td;refine⟨_,rfl,_,rfl,(by show 2<=sizeLine;decide),λt nt=>?_⟩;have WB:=WA.new (o:=.tup [.ref la,.ref b]) nt;exact k t la b (z0::zs) ps ts _ ⟨WB.ha,WB.hb,WB.iF,good,WB.ins,by rw[WB.len];omega⟩ td.hangs af dH dq WB.row (b2.trans WB.but)
end
abbrev Ej:Stmt:=top 64 -- Ie
section
variable {P:Program}{w:World}{K:PySem.W.Frag}{mg:Str->Option Value}{base:Heap}
variable {C Ig oA oB mT:Addr}{Bt jM jN jo:FuncData}
def NS:Sp:=λvs H Q _=>∃(p:Addr),vs=[.ref p]/\Row H p/\∀H',Row H' p->bM p H H'->Q (.bl true) H'
abbrev Yp:List Str:=["_law_pot_here","_law_places_here","_law_pairs_here","_law_web","_law_some_here","_law_handed"]
theorem sj:aF Yp oz (ao Ej):=⟨rfl,rfl,rfl,by decide +kernel,rfl,by decide +kernel,by decide +kernel⟩
theorem Qe{f:Addr}{fd:FuncData}(F:aX K "_law_star_right" "_law_star_right" Ej f fd)(wc:WC K mg C)(NT:Mk K C mT)(bi:Binds K jo ["self","places","ties"] [])(GI:ak P w K mg base aD 4 mT jo ["self","places","ties"] (p7 C))(DT:Df K mg "_law_star" Eg oz Ig Bt)(GT:ak P w K mg base aD 4 Ig Bt oz NQ)
  (DO:Df K mg "_law_some" kN uq oA jM) (GO:ak P w K mg base aD 2 oA jM uq qB) (DR:Df K mg "_law_right" uB uC oB jN) (GR:ak P w K mg base aD 10 oB jN uC (Bq C)) (T:bK mg):ak P w K mg base aD 11 f fd oz NS:=by
 refine F.ok sj (λvs H Q E h=>?_) (λcdv A outer s H vs Q E hr h=>?_)
 ·obtain⟨p,rfl,_⟩:=h;rfl
 ·obtain⟨p,rfl,hp,k⟩:=h;have h2:=hr.mono (j:=2) (by decide);have h4:=hr.mono (j:=4) (by decide);have h5:=hr.mono (j:=5) (by decide);refine⟨_,aj (vc (aw GT h4 rfl DT.aO DT.fn.kp DT.b .nil aA (aa (pv 0) ae)) (ir rfl (bU (aI (i:=1) sj.nd rfl (Or.inl rfl)) (bU (aI (i:=2) sj.nd rfl (Or.inl rfl)) gf))))
   (aj (aM (i:=3) sj.nd rfl (Or.inl rfl) (yN NT GI h5 rfl wc.QZ bi .nil aA (aa (pv 1) (aa (pv 2) ae))))
   (aj (cI aaX rfl (bh (br (aa (dz rfl rfl T.list rfl T.range (aa (ay aE (by rfl) T.len aav (aa (pv 2) ae)) ae)) (aa (aw GO h2 rfl DO.aO DO.fn.kp DO.b .nil aA (aa (pv 0) (aa (ay aE (by rfl) T.len aav (aa (pv 2) ae)) ae))) ae)))) (aI (i:=4) sj.nd rfl (Or.inl rfl))
    (aj (aM (i:=5) sj.nd rfl (Or.inl rfl) (bD di (by rfl) T.list aaS (aa (pv 4) ae)))
    (ai (ba (PW.pt (dA (bp (bg (aw GR hr rfl DR.aO DR.fn.kp DR.b .nil aA (aa (pv 3) (aa (pv 1) (aa (pv 2) (aa (pv 5) (aa bS ae)))))) (λ_=>rfl))) (de (aS (vP 0 (low 0 hr)) (pv 5) (pv 4) (aU _))))) (ai (aB bS)) aR))))
   (ai (aB bS)))),?_⟩
  try rw[bu]
  have big:1000<=sizeLine:=by decide
  refine⟨_,rfl,p,rfl,hp,λt a b ms ps ts H1 L1 hh ht dH dq r1 b1=>?_⟩;refine⟨t,_,rfl,aZ.of ht,rfl,_,_,rfl,_,_,rfl,rfl,?_⟩;refine⟨_,rfl,_,rfl,?_⟩;intro x dx nx NU Yq;have sx:av H1 (upd (upd H1 dx (.own x)) x (.ins C dx [])):=av.cR (ag NU) nx;refine⟨x,a,b,ms,ps,ts,rfl,⟨dx,af⟩,L1.same sx,λH2 W2 b2=>⟨rfl,?_⟩⟩;have s12:av H1 H2:=av.but sx b2 nx;have L2:=L1.same s12;have r2:=aL r1 s12;have B2:bM p H H2:=b1.trans λc o e _=>s12 c o e;have fE:=L2.aJ;have zx:ts.length=ps.length:=L2.hT.len;have k6:(((ts.map V.ref).length:Nat):Int)=((ps.length:Nat):Int):=by rw[aaa,zx]
  refine⟨_,rfl,b,_,rfl,.inl (ar.of L2.hb),ps.length,by rw[k6],by omega,λl1 n1=>?_⟩;rw[nE];have s3:=ag (o:=.lst (nV (List.range ps.length))) n1;have xg:=af (H:=H2) (a:=l1) (o:=.lst (nV (List.range ps.length)));have Yr:l1≠p:=λe=>by obtain⟨u,v,q⟩:=r2;rw[e,q] at n1;cases n1
  generalize upd H2 l1 (.lst (nV (List.range ps.length)))=H3 at s3 xg⊢;have L3:=L2.same s3;have W3:=W2.same s3;have r3:=aL r2 s3;refine⟨_,rfl,_,rfl,b,_,rfl,.inl (ar.of L3.hb),?_⟩;rw[k6];refine⟨p,ps.length,rfl,r3,fE,λl2 ks H4 n2 hl2 up lt r4 b4=>?_⟩;have rs:Rs ps ks:=⟨up,lt⟩
  have L4:=bM.lists L3 b4 r3.lst dH dq;have W4:=W3.but b4 r3.lst.choose_spec;have Vj:=b4 _ _ xg Yr;have B4:bM p H H4:=(B2.trans λc o e _=>s3 c o e).trans b4;refine⟨(by show 2<=sizeLine;decide),λl0 n0=>?_⟩;have s5:=ag (o:=.lst [.ref l1,.ref l2]) n0;have wI:=af (H:=H4) (a:=l0) (o:=.lst [.ref l1,.ref l2]);generalize upd H4 l0 (.lst [.ref l1,.ref l2])=H5 at s5 wI⊢;have its:∀v∈[V.ref l1,V.ref l2],∃l ks,v=.ref l/\H5 l=some (.lst (nV ks))/\Rs ps ks:=λv hv=>by
   rcases aah.mp hv with rfl|hv
   ·exact⟨l1,_,rfl,s5 _ _ Vj,Ed ps⟩
   ·rw[aaf.mp hv];exact⟨l2,ks,rfl,s5 _ _ hl2,rs⟩
  have L5:=L4.same s5;have W5:=W4.same s5;have r5:=aL r4 s5;have B5:bM p H H5:=B4.trans λc o e _=>s5 c o e;refine⟨l0,rfl,⟨_,ar.of wI⟩,dY (K:=K) (xs:=[.ref l1,.ref l2]) (λi σ HH=>∃v4 v5,σ=[some (.ref p),some (.ref a),some (.ref b),some (.ref x),v4,v5]/\av H5 HH) ⟨_,_,rfl,av.refl _⟩ ?_ ?_ ?_⟩
  ·rintro i σ HH _ ⟨_,_,rfl,sH⟩;exact ar.of (sH _ _ wI)
  ·rintro i v σ HH hv ⟨v4,v5,rfl,sH⟩;obtain⟨l,ls,rfl,hl,rl⟩:=its v (aak hv);refine⟨_,rfl,l,_,rfl,.inl (ar.of (sH _ _ hl)),λlh NV=>?_⟩;have sh:=ag (o:=.lst (nV ls)) NV;have ya:=af (H:=HH) (a:=lh) (o:=.lst (nV ls));generalize upd HH lh (.lst (nV ls))=H6 at sh ya⊢;have s6:=sH.trans sh;refine⟨_,rfl,_,rfl,_,rfl,_,rfl,x,a,b,lh,false,ms,ps,ts,ls,rfl,W5.same s6,L5.same s6,ya,rl,⟨(λz=>nomatch z),λz=>absurd hh z⟩,λH7 s7=>⟨_,rfl,aP ?_⟩⟩;refine⟨_,rfl,_,rfl,A7 (s7 _ _ ya) ((s6.trans s7) _ _ hl),_,rfl,aP ?_⟩;exact⟨_,_,rfl,s6.trans s7⟩
  ·rintro σ HH ⟨v4,v5,rfl,sH⟩;exact k _ (aL r5 sH) (B5.trans λc o e _=>sH c o e)
end
theorem Gg{K:PySem.W.Frag}{H:Hp}{a:Addr}{n:Nat}(h:H a=some (.lst (nV (List.range n)).reverse))(l:n<=30)(two:1<n):iO K H n (.ref a):=by
 have e:(nV (List.range n)).reverse=nV (List.range n).reverse:=by unfold nV;rw[List.map_reverse]
 rw[e] at h;refine .inr ⟨a,_,rfl,h,by rw[bN,abQ,abo];omega,kW,λ_ _=>⟨_,rfl,λpw=>?_⟩⟩
 have:=ab3.mp (List.pairwise_reverse.mp pw) 0 1 (by rw[abo];omega) (by rw[abo];omega) (by decide)
 rw[aeM,aeM] at this;omega
theorem Ek{ps:List (Str×Str)}{p:Str×Str}:p∈bw ps (List.range ps.length) ↔ p∈cF ps:=by
 have e:∀q,q∈sel ps (List.range ps.length) ↔ q∈ps:=λq=>by
  rw[hV];constructor
  ·rintro⟨k,_,h⟩;exact aak h
  ·intro h;obtain⟨j,hj,e⟩:=abC h;exact⟨j,abg.mpr hj,by rw[<-e];exact aad hj⟩
 obtain⟨x,y⟩:=p;unfold bw cF;rw[aas,aas,cC,cC,e,e]
theorem Bu{ms:List Str}{ps:List (Str×Str)}{z0:Str}(h0:z0∈ms):(∀b∈ms,bP (bw ps (List.range ps.length)) z0 b) ↔ cw ms ps:=by
 constructor
 ·intro h;have h':∀b∈ms,bP (cF ps) z0 b:=λb hb=>(h b hb).mono λp hp=>Ek.mp hp;exact λa ha b hb=>(o8 (h' a ha)).trans (h' b hb)
 ·intro h b hb;exact(h z0 h0 b hb).mono λp hp=>Ek.mpr hp
structure Tells(P:Program)(w:World)(K:PySem.W.Frag)(mg:Str->Option Value)(base:Heap)(C zZ qP z4 z5 mT oA qL z6 oB yb z7 z9:Addr)(fdPo kZ sk so jo jM kX su jN pG sA sE:FuncData):Prop where
 NW:Df K mg "_law_pot" vX lW zZ fdPo
 Ys:ak P w K mg base aD 2 zZ fdPo lW (Ha (K:=K))
 Aa:Df K mg "_law_draw" fJ ["_law_pot_here","_law_many"] qP kZ
 Yt:ak P w K mg base aD 1 qP kZ ["_law_pot_here","_law_many"] gM
 NX:Df K mg "_law_places" vY we z4 sk
 Yu:ak P w K mg base aD 4 z4 sk we Hg
 NY:Df K mg "_law_pairs" xr xt z5 so
 Yv:ak P w K mg base aD 3 z5 so xt Hu
 wc:WC K mg C
 NT:Mk K C mT
 bi:Binds K jo ["self","places","ties"] []
 gi:ak P w K mg base aD 4 mT jo ["self","places","ties"] (p7 C)
 NZ:Df K mg "_law_some" kN uq oA jM
 Yw:ak P w K mg base aD 2 oA jM uq qB
 N0:Df K mg "_law_reach" rV ["_law_ties","_law_place"] qL kX
 Yx:ak P w K mg base aD 1 qL kX ["_law_ties","_law_place"] Bj
 N1:Df K mg "_law_both_ways" xV uy z6 su
 Yy:ak P w K mg base aD 1 z6 su uy Nu
 N2:Df K mg "_law_right" uB uC oB jN
 Yz:ak P w K mg base aD 10 oB jN uC (Bq C)
 N3:Df K mg "_law_odd" xJ zE yb pG
 YA:ak P w K mg base aD 3 yb pG zE (Bd (K:=K))
 Ab:Df K mg "_law_odd_refused" Eb Ee z7 sA
 YB:ak P w K mg base aD 10 z7 sA Ee (NM K C)
 N4:Df K mg "_law_star_right" Ej oz z9 sE
 YC:ak P w K mg base aD 11 z9 sE oz NS
section
variable {P:Program}{w:World}{K:PySem.W.Frag}{mg:Str->Option Value}{base:Heap}
def qQ(K:PySem.W.Frag):Sp:=λvs H Q _=>∃(a:Addr) (ns:List Int),vs=[.ref a]/\ar K H a (ns.map V.int)/\ns.length<=63/\∀H',Q (.bl true) H'
abbrev nL:List Str:=["_law_script","_law_k","_law_pot_here","_law_places_here","_law_pairs_here","_law_web","_law_near","_law_is_apart","_law_some_here","_law_handed"]
theorem oC:aF nL ["_law_script"] (ao AD):=⟨rfl,rfl,rfl,by decide +kernel,rfl,by decide +kernel,by decide +kernel⟩
theorem N5{C f zZ qP z4 z5 mT oA qL z6 oB yb z7 z9:Addr}{fd fdPo kZ sk so jo jM kX su jN pG sA sE:FuncData}(F:aX K "law" "law" AD f fd)(B:Tells P w K mg base C zZ qP z4 z5 mT oA qL z6 oB yb z7 z9 fdPo kZ sk so jo jM kX su jN pG sA sE)(T:bK mg):ak P w K mg base aD 12 f fd ["_law_script"] (qQ K):=by
 have YD:=B.Ys;have SI:=B.Yt;have YE:=B.Yu;have YF:=B.Yv;have GI:=B.gi;have Ih:=B.Yw;have YG:=B.Yx;have YH:=B.Yy;have Ii:=B.Yz;have N6:=B.YA;have SJ:=B.YB;have YI:=B.YC;refine F.ok oC (λvs H Q E h=>?_) (λcdv A outer s H vs Q E hr h=>?_)
 ·obtain⟨a,ns,rfl,_⟩:=h;rfl
 ·obtain⟨a,ns,rfl,hS,hlen,k⟩:=h;have Ij:=hr.mono (j:=1) (by decide);have SK:=hr.mono (j:=2) (by decide);have SM:=hr.mono (j:=3) (by decide);have YJ:=hr.mono (j:=4) (by decide);have YK:=hr.mono (j:=5) (by decide);have Gi:=hr.mono (j:=10) (by decide);refine⟨_,aj (cI aaX rfl (dB rfl T.range (aa (ay (sP rfl) (by rfl) T.max boot_max (aa ax (aa (ay (BP rfl) (by rfl) T.min boot_min (aa (ay aE (by rfl) T.len aav (aa (pv 0) ae)) (aa ax ae))) ae))) ae)) (aI (i:=1) oC.nd rfl (Or.inl rfl))
    (aj (aM (i:=2) oC.nd rfl (Or.inl rfl) (aw YD SK rfl B.NW.aO B.NW.fn.kp B.NW.b .nil aA (aa (pv 0) (aa (pv 1) ae))))
    (aj (aM (i:=3) oC.nd rfl (Or.inl rfl) (aw YE YJ rfl B.NX.aO B.NX.fn.kp B.NX.b .nil aA (aa (pv 2) (aa ax ae))))
    (aj (aM (i:=4) oC.nd rfl (Or.inl rfl) (aw YF SM rfl B.NY.aO B.NY.fn.kp B.NY.b .nil aA (aa (pv 2) (aa (pv 3) (aa ax (aa (cP mV (aw SI Ij rfl B.Aa.aO B.Aa.fn.kp B.Aa.b .nil aA (aa (pv 2) (aa ax ae))) ax (aU _)) ae))))))
    (aj (aM (i:=5) oC.nd rfl (Or.inl rfl) (yN B.NT GI YK rfl B.wc.QZ B.bi .nil aA (aa (pv 3) (aa (pv 4) ae))))
    (aj (aM (i:=6) oC.nd rfl (Or.inl rfl) (aw YH Ij rfl B.N1.aO B.N1.fn.kp B.N1.b .nil aA (aa (pv 4) (aa (dz rfl rfl T.list rfl T.range (aa (ay aE (by rfl) T.len aav (aa (pv 4) ae)) ae)) ae))))
    (aj (aM (i:=7) oC.nd rfl (Or.inl rfl) (cP ic (ay aE (by rfl) T.len aav (aa (aw YG Ij rfl B.N0.aO B.N0.fn.kp B.N0.b .nil aA (aa (pv 6) (aa (aY bj (pv 3) ax (λ_ _=>rfl)) ae))) ae)) (ay aE (by rfl) T.len aav (aa (pv 3) ae)) (aU _)))
    (aj (cI aaX rfl (bh (br (aa (aw Ih SK rfl B.NZ.aO B.NZ.fn.kp B.NZ.b .nil aA (aa (pv 2) (aa (ay aE (by rfl) T.len aav (aa (pv 4) ae)) ae))) (aa (dz rfl rfl T.list rfl T.range (aa (ay aE (by rfl) T.len aav (aa (pv 4) ae)) ae)) (aa (br ae) ae))))) (aI (i:=8) oC.nd rfl (Or.inl rfl))
     (aj (aM (i:=9) oC.nd rfl (Or.inl rfl) (bD di (by rfl) T.list aaS (aa (pv 8) ae)))
     (aj (ba (PW.pt (dA (bp (bg (aw Ii Gi rfl B.N2.aO B.N2.fn.kp B.N2.b .nil aA (aa (pv 5) (aa (pv 3) (aa (pv 4) (aa (pv 9) (aa (pv 7) ae)))))) (λ_=>rfl))) (de (aS (vP 0 (low 0 hr)) (pv 9) (pv 8) (aU _))))) (ai (aB bS)) aR)
     (ai (ba (bp (bg (aw SJ Gi rfl B.Ab.aO B.Ab.fn.kp B.Ab.b .nil aA (aa (pv 5) (aa (aw N6 SM rfl B.N3.aO B.N3.fn.kp B.N3.b .nil aA (aa (pv 2) (aa (pv 8) (aa (ay aE (by rfl) T.len aav (aa (pv 4) ae)) ae)))) (aa (pv 7) ae)))) (λ_=>rfl))) (ai (aB bS)) aR)))))
    (aj (ba (PW.pt (iW (aS mV (ay aE (by rfl) T.len aav (aa (pv 4) ae)) ax (aU _)) (iT (bp (bg (aw SJ Gi rfl B.Ab.aO B.Ab.fn.kp B.Ab.b .nil aA (aa (pv 5) (aa (JK (dz rfl rfl T.list rfl T.range (aa (ay aE (by rfl) T.len aav (aa (pv 4) ae)) ae)) (jO (Ak vk ax))) (aa (pv 7) ae)))) (λ_=>rfl)))))) (ai (aB bS)) aR)
    (ai (ba (PW.pt (iW (aS fF (aw SI Ij rfl B.Aa.aO B.Aa.fn.kp B.Aa.b .nil aA (aa (pv 2) (aa ax ae))) ax (aU _)) (iT (bp (bg (aw YI hr rfl B.N4.aO B.N4.fn.kp B.N4.b .nil aA (aa (pv 2) ae)) (λ_=>rfl)))))) (ai (aB bS)) aR)))))))))))
   (ai (aB bS)),?_⟩
  try rw[bu]
  have big:1000<=sizeLine:=by decide
  refine⟨_,rfl,a,_,rfl,.inl hS,_,_,rfl,_,_,rfl,_,rfl,?_,?_,?_⟩
  ·split<;>(try split)<;>omega
  ·rw[aaa];split<;>(try split)<;>omega
  refine dR (λi σ H2=>i<=3/\∃v1 v2 v3 v4 v5 v6 v7 v8 v9,σ=[some (V.ref a),v1,v2,v3,v4,v5,v6,v7,v8,v9]/\av H H2) ⟨by decide,_,_,_,_,_,_,_,_,_,rfl,av.refl H⟩ ?_ ?_
  ·rintro i σ H2 hi ⟨_,v1,v2,v3,v4,v5,v6,v7,v8,v9,rfl,s2⟩;have i3:i<3:=by
    revert hi
    split<;>(try split)<;>omega
   refine⟨_,rfl,_,rfl,a,ns,i,(by simp),s2.seq hS,by omega,λp H3 np N7 s3=>?_⟩;refine⟨_,rfl,p,7,rfl,by decide,by decide,N7,λla ms H4 good m7 uw YL Vk b4=>?_⟩;have dH:la≠p:=aaI (au N7.lst.choose_spec uw);have s4:av H2 H4:=av.but s3 b4 np;refine⟨_,rfl,_,rfl,_,rfl,p,5,rfl,Vk,by decide,by decide,λd H5 d0 d3 Vl b5=>?_⟩;have s5:av H2 H5:=av.but s4 b5 np;have Vm:=b5 _ _ YL dH;refine⟨_,_,rfl,rfl,p,la,ms,9,_,rfl,Vl,dH,Vm,good,by omega,λlb ps ts H6 L6 dq M1 Vn b6=>?_⟩;have s6:av H2 H6:=av.but s5 b6 np;refine⟨_,rfl,_,rfl,?_⟩;intro x dx nx NU Yq;have sx:av H6 (upd (upd H6 dx (.own x)) x (.ins C dx [])):=av.cR (ag NU) nx;refine⟨x,la,lb,ms,ps,ts,rfl,⟨dx,af⟩,L6.same sx,λH7 W7 b7=>⟨rfl,?_⟩⟩;have N8:av H6 H7:=av.but sx b7 nx;have L7:=L6.same N8;have Vo:Row H7 p:=aL Vn N8;have s7:=s6.trans N8;have g:GoodW ms ps:=⟨L7.good,L7.ins,L7.aJ⟩
   have fE:=g.aJ;have one:=g.good.one;have zx:ts.length=ps.length:=L7.hT.len;have k6:(((ts.map V.ref).length:Nat):Int)=((ps.length:Nat):Int):=by rw[aaa,zx]
   have ra:=Ed ps;refine⟨_,rfl,_,rfl,lb,_,rfl,.inl (ar.of L7.hb),ps.length,by rw[k6],by omega,λl5 n5=>?_⟩;rw[nE];have t8:=ag (o:=.lst (nV (List.range ps.length))) n5;have hl5:=af (H:=H7) (a:=l5) (o:=.lst (nV (List.range ps.length)));generalize upd H7 l5 (.lst (nV (List.range ps.length)))=H8 at t8 hl5⊢;have L8:=L7.same t8;refine⟨lb,l5,ts,ps,_,rfl,L8.hb,L8.hT,hl5,ra.lt,by rw[abo];exact fE,λln us H9 ZS YM KR t9=>?_⟩;have SN:=t8.trans t9;have L9:=L7.same SN;have m0:ms[0]?=some ms[0]:=by simp
   have z0:ms[0]∈ms:=abu _;have inb:fb ms (bw ps (List.range ps.length)):=λq hq=>by unfold bw at hq;exact(aas.mp hq).elim (xw g.ins _ q) (rG (xw g.ins _) q)
   refine⟨_,rfl,_,rfl,la,_,_,_,rfl,rfl,ar.of L9.ha,aQ (j:=0) (v:=.str ms[0]) (by rw[aan,m0];rfl),?_⟩;refine⟨ln,ms[0],ms,us,_,rfl,YM,KR,g.good.aJ,inb,z0,λlq zs Hv ZT nz sub al hq HD=>?_⟩;have s710:=SN.trans HD;refine⟨lq,_,rfl,.inl (ar.of hq),_,rfl,la,_,rfl,.inl (ar.of (s710 _ _ L7.ha)),_,_,rfl,rfl,?_⟩;rw[aaa,aaa];have eH:decide ((zs.length:Int)<(ms.length:Int))=true ↔ ¬ cw ms ps:=by
    rw[aaL,<-Bu z0,<-zU g.good.nd nz sub al]
    have:=iR nz sub
    omega
   obtain⟨ap,SO⟩:∃ap,decide ((zs.length:Int)<(ms.length:Int))=ap:=⟨_,rfl⟩
   rw[SO] at eH;have Du:=W7.same s710;have SQ:=L7.same s710;have uY:=aL Vo s710;have YN:=s7.trans s710;refine⟨_,rfl,_,rfl,lb,_,rfl,.inl (ar.of SQ.hb),?_⟩;rw[k6];refine⟨p,ps.length,rfl,uY,fE,λls ks xu SR qI up lt uZ uo=>?_⟩;have rs:Rs ps ks:=⟨up,lt⟩
   have RP:ls≠p:=λe=>by obtain⟨u,v,q⟩:=uY;rw[e,q] at SR;cases SR
   have YO:av H2 xu:=av.but YN uo np;have SS:=bM.lists SQ uo uY.lst dH dq;have zz:=Du.but uo uY.lst.choose_spec;refine⟨_,rfl,lb,_,rfl,.inl (ar.of SS.hb),ps.length,by rw[k6],by omega,λcX zq=>?_⟩;rw[nE];have t12:=ag (o:=.lst (nV (List.range ps.length))) zq;have h12:=af (H:=xu) (a:=cX) (o:=.lst (nV (List.range ps.length)));have Vp:cX≠p:=λe=>by obtain⟨u,v,q⟩:=uZ;rw[e,q] at zq;cases zq
   generalize upd xu cX (.lst (nV (List.range ps.length)))=DH at t12 h12⊢;refine⟨(by decide),λcY N9=>?_⟩;have t13:=ag (o:=.lst []) N9;have h13:upd DH cY (.lst []) cY=some (.lst (nV [])):=af;have Vq:cY≠p:=λe=>by obtain⟨u,v,q⟩:=aL uZ t12;rw[e,q] at N9;cases N9
   generalize upd DH cY (.lst [])=zF at t13 h13⊢;refine⟨(by show 3<=sizeLine;decide),λoo N'=>?_⟩;have xM:=ag (o:=.lst [.ref ls,.ref cX,.ref cY]) N';have h14:=af (H:=zF) (a:=oo) (o:=.lst [.ref ls,.ref cX,.ref cY]);have nF:=t12.trans (t13.trans xM);have nG:=aL uZ nF;have Vr:oo≠p:=λe=>by obtain⟨u,v,q⟩:=aL uZ (t12.trans t13);rw[e,q] at N';cases N'
   have its:∀v∈[V.ref ls,V.ref cX,V.ref cY],∃l ks,v=.ref l/\l≠p/\upd zF oo (.lst [.ref ls,.ref cX,.ref cY]) l=some (.lst (nV ks))/\Rs ps ks:=λv hv=>by
    rcases aah.mp hv with rfl|hv
    ·exact⟨ls,ks,rfl,RP,nF _ _ qI,rs⟩
    rcases aah.mp hv with rfl|hv
    ·exact⟨cX,_,rfl,Vp,(t13.trans xM) _ _ h12,ra⟩
    ·rw[aaf.mp hv];exact⟨cY,[],rfl,Vq,xM _ _ h13,.nil,λ_ h=>nomatch h⟩
   generalize upd zF oo (.lst [.ref ls,.ref cX,.ref cY])=HE at nF xM h14 nG its⊢;have SU:=SS.same nF;have SV:=zz.same nF;have YQ:=YO.trans nF;refine⟨oo,rfl,⟨_,ar.of h14⟩,dY (K:=K) (xs:=[.ref ls,.ref cX,.ref cY]) (λj σ HH=>∃v8 v9,σ=[some (.ref a),some (.int (0+(i:Int))),some (.ref p),some (.ref la),some (.ref lb),some (.ref x),some (.ref ln),some (.bl ap),v8,v9]/\Row HH p/\bM p HE HH) ⟨_,_,by rw[<-SO];rfl,nG,bM.refl _ _⟩ ?_ ?_ ?_⟩
   ·rintro j σ HH _ ⟨_,_,rfl,_,bH⟩;exact ar.of (bH _ _ h14 Vr)
   ·rintro j v σ HH hv ⟨v8,v9,rfl,rH,bH⟩;obtain⟨l,El,rfl,tS,hl,rl⟩:=its v (aak hv);have Oa:=bH _ _ hl tS;have LH:=bM.lists SU bH nG.lst dH dq;have WH:=SV.but bH nG.lst.choose_spec;refine⟨_,rfl,l,_,rfl,.inl (ar.of Oa),λlh NV=>?_⟩;have sh:=ag (o:=.lst (nV El)) NV;have ya:=af (H:=HH) (a:=lh) (o:=.lst (nV El));generalize upd HH lh (.lst (nV El))=MK at sh ya⊢;refine⟨_,rfl,_,rfl,_,rfl,_,rfl,_,rfl,x,la,lb,lh,ap,ms,ps,ts,El,rfl,WH.same sh,LH.same sh,ya,rl,eH,λMM s16=>⟨_,rfl,aP ?_⟩⟩;have sH16:=sh.trans s16;refine⟨_,rfl,_,rfl,A7 (s16 _ _ ya) (sH16 _ _ Oa),_,rfl,aP ?_⟩;have YR:=LH.same sH16;have YS:=WH.same sH16;have zG:=aL rH sH16;have ll:=rl.len;refine⟨_,rfl,_,rfl,_,rfl,_,rfl,lb,_,rfl,.inl (ar.of YR.hb),?_⟩;rw[k6];refine⟨p,l,El,ps.length,rfl,zG,tS,sH16 _ _ Oa,by omega,λy MO od ZU DJ SW=>?_⟩;have YT:=YS.but SW zG.lst.choose_spec;refine⟨_,rfl,x,y,ap,ms,ps,rfl,YT,g,eH,λ_=>od,λMR s18=>⟨_,rfl,aP ?_⟩⟩;exact⟨_,_,rfl,aL DJ s18,((bH.trans λc o e _=>sH16 c o e).trans SW).trans λc o e _=>s18 c o e⟩
   ·rintro σ HH ⟨v8,v9,rfl,rH,bH⟩;have LH:=bM.lists SU bH nG.lst dH dq;have WH:=SV.but bH nG.lst.choose_spec;have sH:av H2 HH:=av.but YQ bH np;have star:∀{HX:Hp},av HH HX->Row HX p:=λsX=>aL rH sX;refine⟨_,rfl,lb,_,rfl,.inl (ar.of LH.hb),_,_,rfl,rfl,_,rfl,?_⟩;rw[k6];refine cS (λc=>?c1) (λ_=>aP ?c2);case' c1=>
     have c':1<ps.length:=by have:=of_decide_eq_true c;omega
     refine⟨_,rfl,_,rfl,lb,_,rfl,.inl (ar.of LH.hb),ps.length,by rw[k6],by omega,λgY xN=>?_⟩;have t20:=ag (o:=.lst (iJ ps.length)) xN;have h20:=af (H:=HH) (a:=gY) (o:=.lst (iJ ps.length));generalize upd HH gY (.lst (iJ ps.length))=DP at t20 h20⊢;refine⟨_,rfl,_,rfl,gY,_,rfl,rfl,ar.of h20,λEm Vs=>?_⟩;have t21:=ag (o:=.lst (iJ ps.length).reverse) Vs;have h21:upd DP Em (.lst (iJ ps.length).reverse) Em=some (.lst (nV (List.range ps.length)).reverse):=af;generalize upd DP Em (.lst (iJ ps.length).reverse)=HJ at t21 h21⊢;have od2:iO K HJ ps.length (.ref Em):=Gg h21 fE c';refine⟨_,rfl,x,.ref Em,ap,ms,ps,rfl,WH.same (t20.trans t21),g,eH,λ_=>od2,λHX YU=>⟨_,rfl,aP ?_⟩⟩;have sX:av HH HX:=t20.trans (t21.trans YU)
    case' c2 =>have sX:av HH HH:=av.refl _
    all_goals
     have rX:=star sX;refine⟨_,rfl,p,8,rfl,rX,by decide,by decide,λd5 HY _ _ rY bY=>⟨rfl,_,rfl,?_⟩⟩;have sY:av H2 HY:=av.but (sH.trans sX) bY np;refine cS (λ_=>⟨_,rfl,p,rfl,rY,λHZ rZ bZ=>⟨_,rfl,aP ?_⟩⟩) (λ_=>aP ?_)
     ·exact⟨by omega,_,_,_,_,_,_,_,_,_,rfl,s2.trans (av.but sY bZ np)⟩
     ·exact⟨by omega,_,_,_,_,_,_,_,_,_,rfl,s2.trans sY⟩
  ·rintro σ H2 ⟨_,v1,v2,v3,v4,v5,v6,v7,v8,v9,rfl,s2⟩;exact k _
end
open PySem PySem.Spec PyProof.Rows L2 L3 L6
section
variable {P:Program}{w:World}{K:PySem.W.Frag}{mg:Str->Option Value}{base:Heap}
variable {C E0 E1 E4 E5 jf jg fP fM fT fS iN mT fN fA YV f1 f2 fL mC jW Dj qr xb mL DG lA qC jD xy zI o6 rS xP DZ zO iP j6:Addr}{fdAI fdNI fdP gx fc e6 fh jo jv tP Vt G6 G7 mD jb hJ xf kL oX fdCh xH iK kS gO o7 rR kT nv pz xQ rT fi hZ:FuncData}
variable {f YW zZ qP xK Ib z4 z5 oA qL z6 D9 ux Ia Bl x8 yb z7 HW oB Ig z9:Addr}{fd Vu fdPo kZ pq Bs sk so jM kX su xX mS Bo uX pC pG sA Bm jN Bt sE:FuncData}
theorem JU(F:aX K "law" "law" AD f fd)(FI:aX K "__init__" "Web.__init__" p6 mT jo)(SX:Mk K C mT)(bI:Binds K jo ["self","places","ties"] [])(DN:Df K mg "is_name" ku ["thing"] fN jv)(DA:Df K mg "is_among" i7 ["places","thing"] fA tP)(YX:Df K mg "is_tie" rh ["places","thing"] YV Vt)(D1:Df K mg "check_places" m6 ["places"] f1 G6)(D2:Df K mg "check_ties" m8 ["places","ties"] f2 G7)
  (M:Mh K mg C E1 fP fM fT fS iN fdP gx fc e6 fh) (A4:Ap K mg E4 jf fdAI) (A5:zJ K mg E5 jg fdNI) (X:sf K mg E0 E1 E4 E5)
  (DL:Df K mg "leads" iy ["places","ties"] fL mD) (xA:Df K mg "turned_pairs" gA ["ties"] mC jb) (Ob:Df K mg "spread" gy ["steps","start"] jW hJ) (zo:Df K mg "pieces_among" xa ["web","among"] Dj xf) (mP:Df K mg "pieces" iU ["web"] qr kL) (zM:Df K mg "hangs" mz ["web"] xb oX) (SY:Df K mg "check_hangs" qq ["web"] mL fdCh)
  (YY:Df K mg "are_ties" mG qy DG xH) (S0:Df K mg "check_list" qv aW lA iK) (Oc:Df K mg "freed" jc aW qC kS) (Od:Df K mg "missed_by" jX aW jD gO) (S1:Df K mg "missed" jY aW xy o7) (S5:Df K mg "is_meeter" qx aW zI rR) (Oe:Df K mg "check_meets" mH aW o6 kT) (Of:Df K mg "check_meeter" mI aW rS nv)
  (S6:Df K mg "without" xq qJ xP pz) (S7:Df K mg "least_tight" DY zP DZ xQ) (S8:Df K mg "wanted_of" zN aW zO rT) (Og:Df K mg "is_lean" oq aW iP fi) (S9:Df K mg "made_lean" qK aW j6 hZ)
  (YZ:Df K mg "_law_cell" p9 lW YW Vu) (Ta:Df K mg "_law_pot" vX lW zZ fdPo) (yc:Df K mg "_law_draw" fJ ["_law_pot_here","_law_many"] qP kZ) (En:Df K mg "_law_drawn" jI jx xK pq) (Tb:Df K mg "_law_name" tR wa Ib Bs) (Tc:Df K mg "_law_places" vY we z4 sk) (Td:Df K mg "_law_pairs" xr xt z5 so) (Oh:Df K mg "_law_some" kN uq oA jM)
  (Oi:Df K mg "_law_reach" rV ["_law_ties","_law_place"] qL kX) (Te:Df K mg "_law_both_ways" xV uy z6 su) (Tf:Df K mg "_law_all_reach" zS uz D9 xX) (Oj:Df K mg "_law_meets" xW jj ux mS) (Tg:Df K mg "_law_made_lean" zT jj Ia Bo) (Vv:Df K mg "_law_missed" rW xZ Bl uX)
  (Ol:Df K mg "_law_told" ou lB x8 pC) (Th:Df K mg "_law_odd" xJ zE yb pG) (Ti:Df K mg "_law_odd_refused" Eb Ee z7 sA) (Tj:Df K mg "_law_is_refused" Ec zX HW Bm) (Om:Df K mg "_law_right" uB uC oB jN) (Tn:Df K mg "_law_star" Eg oz Ig Bt) (To:Df K mg "_law_star_right" Ej oz z9 sE)
  (ab:mg "abs" = none) (en:mg "enumerate" = none) (rv:mg "reversed" = none) (rp:mg "repr" = none) (T:bK mg):ak P w K mg base aD 12 f fd ["_law_script"] (qQ K):=by
 have GI:ak P w K mg base aD 4 mT jo ["self","places","ties"] (p7 C):=IS FI M.m.wc DN DA YX D1 D2 T;have Tp:ak P w K mg base aD 3 qr kL ["web"] (A0 C):=Dm mP.fn zo M.m DL Ob xA T;have Y0:ak P w K mg base aD 4 xb oX ["web"] (Bf C):=DV zM.fn mP Tp T;have Tq:ak P w K mg base aD 3 qC kS aW (nu C):=FO Oc.fn M DL xA T;have B:Me P w K mg base C E1 E4 mL lA jD fdCh iK gO:=⟨SY,F0 SY.fn zM Y0 mP Tp A4 T,S0,JM S0.fn YY M T,Od,Pw Od.fn M Oc Tq Ob T⟩
 have Y1:ak P w K mg base (bR P w) 6 xy o7 aW (Ask K C E1 E4 Nc):=Pz S1.fn B;have Y2:ak P w K mg base (bR P w) 7 zI rR aW (Ask K C E1 E4 F1):=Nd S5.fn S1 Y1;have Y3:ak P w K mg base (bR P w) 5 o6 kT aW (F2 C E5):=Nf Oe.fn B A5;have Y4:ak P w K mg base (bR P w) 6 rS nv aW (Ask K C E1 E4 (F3 E5)):=Ng Of.fn B Oe Y3;have Y5:ak P w K mg base aD 4 DZ xQ zP (F7 C):=PD S7.fn M Oc Tq Ob S6 T;have Y6:ak P w K mg base aD 5 zO rT aW (F8 C):=PF S8.fn S7 Y5 T;have Tr:ak P w K mg base (bR P w) 8 iP fi aW (Ask K C E1 E4 xT):=PH Og.fn S5 Y2 S8 Y6;have Y7:ak P w K mg base (bR P w) 7 j6 hZ aW (Ask K C E1 E4 (xU E5)):=PJ S9.fn Of Y4 Od B.gb S6 T;have Ts:ak P w K mg base aD 9 x8 pC lB (si K C):=P0 Ol.fn A4 A5 X Og Tr S9 Y7 T;have Y8:ak P w K mg base aD 2 xK pq jx uQ:=CF En.fn yc T;have N6:ak P w K mg base aD 3 yb pG zE (Bd (K:=K)):=MD Th.fn En Y8 rv T;have Y9:ak P w K mg base aD 2 D9 xX uz Ga:=PQ Tf.fn Oi T;have Tt:ak P w K mg base aD 3 ux mS jj Bk:=PR Oj.fn Tf Y9 T;have Ii:ak P w K mg base aD 10 oB jN uC (Bq C):=Qc Om.fn Ol Ts Tj (Qb Tj.fn Vv en T) Oj Tt Tg (PU Tg.fn Oj Tt T) Og Tr rp T;have Ih:ak P w K mg base aD 2 oA jM uq qB:=Ju Oh.fn yc T;exact N5 F ⟨Ta,Lf Ta.fn YZ T ab,yc,gw yc.fn T,Tc,Lj Tc.fn yc En Tb T,Td,Mg Td.fn yc En T,M.m.wc,SX,bI,GI,Oh,Ih,Oi,D8 Oi.fn T,Te,PM Te.fn T,Om,Ii,Th,N6,Ti,Qa Ti.fn Ol Ts T,To,Qe To.fn M.m.wc SX bI GI Tn (Qd Tn.fn yc En Tb T) Oh Ih Om Ii T⟩ T
end
open PySem PySem.Spec PyProof.Rows L2
def FA(K:PySem.W.Frag)(x q:Str)(sS:Stmt)(f:Addr):Prop:=∃fd,aX K x q sS f fd
def DA(K:PySem.W.Frag)(x:Str)(sS:Stmt)(f:Addr):Prop:=PySem.W.nsIn K mainGlobals x=some (some (.ref f))/\FA K x x sS f
def MA(K:PySem.W.Frag)(C:Addr)(x q:Str)(sS:Stmt)(f:Addr):Prop:=PySem.W.findIn K (.ref C) x=some (some (.ref f))/\PySem.W.isFn K (.ref f)=true/\FA K x q sS f
def BO(x q:Str)(sS:Stmt)(ps:List Str):Prop:=∀(kV doc pm:Value) (an:Option Addr) (cdv ct:Value) (us:List Value),us.length=ps.length->bindArgs (PySem.W.fnOf x q (dw sS) (cx sS) (ao sS) .none kV doc pm an cdv ct) ⟨us,[]⟩=pure (ps.zip us)
theorem Tu(h:∀(kV doc pm:Value) (an:Option Addr) (cdv ct u0:Value),bindArgs (PySem.W.fnOf x q (dw sS) (cx sS) (ao sS) .none kV doc pm an cdv ct) ⟨[u0],[]⟩=pure [(p0,u0)]):BO x q sS [p0]:=λkV doc pm an cdv ct us hl=>match us,hl with | [u0],_=>h kV doc pm an cdv ct u0
theorem Tv(h:∀(kV doc pm:Value) (an:Option Addr) (cdv ct u0 u1:Value),bindArgs (PySem.W.fnOf x q (dw sS) (cx sS) (ao sS) .none kV doc pm an cdv ct) ⟨[u0,u1],[]⟩=pure [(p0,u0),(p1,u1)]):BO x q sS [p0,p1]:=λkV doc pm an cdv ct us hl=>match us,hl with | [u0,u1],_=>h kV doc pm an cdv ct u0 u1
theorem Tw(h:∀(kV doc pm:Value) (an:Option Addr) (cdv ct u0 u1 u2:Value),bindArgs (PySem.W.fnOf x q (dw sS) (cx sS) (ao sS) .none kV doc pm an cdv ct) ⟨[u0,u1,u2],[]⟩=pure [(p0,u0),(p1,u1),(p2,u2)]):BO x q sS [p0,p1,p2]:=λkV doc pm an cdv ct us hl=>match us,hl with | [u0,u1,u2],_=>h kV doc pm an cdv ct u0 u1 u2
theorem Tx(h:∀(kV doc pm:Value) (an:Option Addr) (cdv ct u0 u1 u2 u3:Value),bindArgs (PySem.W.fnOf x q (dw sS) (cx sS) (ao sS) .none kV doc pm an cdv ct) ⟨[u0,u1,u2,u3],[]⟩=pure [(p0,u0),(p1,u1),(p2,u2),(p3,u3)]):BO x q sS [p0,p1,p2,p3]:=λkV doc pm an cdv ct us hl=>match us,hl with | [u0,u1,u2,u3],_=>h kV doc pm an cdv ct u0 u1 u2 u3
theorem Tz(h:∀(kV doc pm:Value) (an:Option Addr) (cdv ct u0 u1 u2 u3 u4:Value),bindArgs (PySem.W.fnOf x q (dw sS) (cx sS) (ao sS) .none kV doc pm an cdv ct) ⟨[u0,u1,u2,u3,u4],[]⟩=pure [(p0,u0),(p1,u1),(p2,u2),(p3,u3),(p4,u4)]):BO x q sS [p0,p1,p2,p3,p4]:=λkV doc pm an cdv ct us hl=>match us,hl with | [u0,u1,u2,u3,u4],_=>h kV doc pm an cdv ct u0 u1 u2 u3 u4
theorem da{K:PySem.W.Frag}(a:PySem.W.nsIn K mainGlobals x=some (some (.ref f)))(l:K.lookup f=some ⟨oc,od,.func (PySem.W.fnOf x x (dw sS) (cx sS) (ao sS) .none kY doc pm an cdv ct),osl⟩)(c:PySem.W.codeIn K cdv x=true)(k:PySem.W.keepIn K (.ref f)=true):DA K x sS f:=⟨a,_,B0 l c k⟩
theorem ma{K:PySem.W.Frag}(a:PySem.W.findIn K (.ref C) x=some (some (.ref f)))(i:PySem.W.isFn K (.ref f)=true)(l:K.lookup f=some ⟨oc,od,.func (PySem.W.fnOf x q (dw sS) (cx sS) (ao sS) .none kY doc pm an cdv ct),osl⟩)(c:PySem.W.codeIn K cdv q=true)(k:PySem.W.keepIn K (.ref f)=true):MA K C x q sS f:=⟨a,i,_,B0 l c k⟩
theorem DA.d{K:PySem.W.Frag}(ps:List Str)(a:DA K x sS f)(X:K.In h)(G:h.Ns mainGlobals mg)(b:BO x x sS ps:=by first|exact Tu λ_ _ _ _ _ _ _=>rfl|exact Tv λ_ _ _ _ _ _ _ _=>rfl|exact Tw λ_ _ _ _ _ _ _ _ _=>rfl|exact Tx λ_ _ _ _ _ _ _ _ _ _=>rfl|exact Tz λ_ _ _ _ _ _ _ _ _ _ _=>rfl):∃fd,Df K mg x sS ps f fd:=
 let ⟨fd,F⟩:=a.2
 ⟨fd,F,abE X G a.1,F.binds b⟩
theorem MA.m{K:PySem.W.Frag}(ps:List Str)(a:MA K C x q sS f)(b:BO x q sS ps:=by first|exact Tu λ_ _ _ _ _ _ _=>rfl|exact Tv λ_ _ _ _ _ _ _ _=>rfl|exact Tw λ_ _ _ _ _ _ _ _ _=>rfl|exact Tx λ_ _ _ _ _ _ _ _ _ _=>rfl|exact Tz λ_ _ _ _ _ _ _ _ _ _ _=>rfl):∃fd,aX K x q sS f fd/\Binds K fd ps []/\Meth K C x f:=
 let ⟨fd,F⟩:=a.2.2
 ⟨fd,F,F.binds b,a.1,a.2.1,F.kp⟩
theorem all_mk{l:PySem.W.OpenLaw}{w:World}{K:PySem.W.Frag}{h:Heap}{mg:Str->Option Value}{fa:Addr}(X:K.In h)(G:h.Ns mainGlobals mg)(hfa:mg "law" = some (.ref fa))
  (aC:W.nsIn K mainGlobals "Web" = some (some (.ref C)))
  (h1:MA K C "__init__" "Web.__init__" p6 f1)
  (h2:MA K C "places" "Web.places" m9 f2)
  (h3:MA K C "ties" "Web.ties" uP f3)
  (h4:MA K C "many" "Web.many" uN f4)
  (h5:MA K C "tie" "Web.tie" uO f5)
  (pgC:W.plainGet K C Str.empty=true)
  (hdC:W.hasDictIn K C=true)
  (poC:W.plainOver K C=true)
  (saC:W.findIn K (.ref C) "__setattr__" = some (some (.builtin "object.__setattr__")))
  (mkC:W.makesIn K C=true)
  (kcC:W.keepIn K (.ref C)=true)
  (nAC0:W.findIn K (.ref C) "kept_places" = some none)
  (nAC1:W.findIn K (.ref C) "kept_ties" = some none)
  (h6:DA K "is_whole" lV f6)
  (h7:DA K "is_name" ku f7)
  (h8:DA K "check_places" m6 f8)
  (h9:DA K "is_among" i7 f9)
  (h10:DA K "is_tie" rh ZV)
  (h11:DA K "check_ties" m8 ZW)
  (h12:DA K "leads" iy ZX)
  (h13:DA K "turned_pairs" gA ZY)
  (h14:DA K "spread" gy ZZ)
  (h15:DA K "pieces_among" xa Z0)
  (h16:DA K "pieces" iU Z1)
  (h17:DA K "hangs" mz Z2)
  (h18:DA K "check_hangs" qq Z3)
  (h19:DA K "are_ties" mG Z4)
  (h20:DA K "check_list" qv Z5)
  (h21:DA K "freed" jc Z6)
  (h22:DA K "missed_by" jX Z7)
  (h23:DA K "missed" jY Z8)
  (h24:DA K "is_meeter" qx Z9)
  (h25:DA K "check_meets" mH Z')
  (h26:DA K "check_meeter" mI f26)
  (h27:DA K "without" xq f27)
  (h28:DA K "least_tight" DY f28)
  (h29:DA K "wanted_of" zN f29)
  (h30:DA K "is_lean" oq f30)
  (h31:DA K "made_lean" qK f31)
  (h32:DA K "_law_cell" p9 f32)
  (h33:DA K "_law_pot" vX f33)
  (h34:DA K "_law_draw" fJ f34)
  (h35:DA K "_law_drawn" jI f35)
  (h36:DA K "_law_name" tR f36)
  (h37:DA K "_law_places" vY f37)
  (h38:DA K "_law_pairs" xr f38)
  (h39:DA K "_law_some" kN f39)
  (h40:DA K "_law_reach" rV f40)
  (h41:DA K "_law_both_ways" xV f41)
  (h42:DA K "_law_all_reach" zS f42)
  (h43:DA K "_law_meets" xW f43)
  (h44:DA K "_law_made_lean" zT f44)
  (h45:DA K "_law_missed" rW f45)
  (h46:DA K "_law_told" ou f46)
  (h47:DA K "_law_odd" xJ f47)
  (h48:DA K "_law_odd_refused" Eb f48)
  (h49:DA K "_law_is_refused" Ec f49)
  (h50:DA K "_law_right" uB f50)
  (h51:DA K "_law_star" Eg f51)
  (h52:DA K "_law_star_right" Ej f52)
  (h53:DA K "law" AD f53)
  (xE1:W.nsIn K mainGlobals "NoTie" = some (some (.ref E1)))
  (yE1:W.excIn K E1 [.type "ValueError",.type "Exception",.type "BaseException",.type "object"] "ValueError.__new__" = true)
  (zE1_0:W.isClsIn K E1=true)
  (zE1_1:W.mroIn K E1 (.type "object")=some true)
  (zE1_2:W.mroIn K E1 (.type "BaseException")=some true)
  (zE1_3:W.findIn K (.ref E1) "__getattribute__" = some (some (.builtin "BaseException.__getattribute__")))
  (zE1_4:W.findIn K (.ref E1) "__getattr__" = some none)
  (zE1_5:W.findIn K (.ref E1) "__class__" = some (some (.builtin "object.__class__")))
  (xEW:W.nsIn K mainGlobals "WebError" = some (some (.ref EW)))
  (xE4:W.nsIn K mainGlobals "Apart" = some (some (.ref E4)))
  (h54:MA K E4 "__init__" "Apart.__init__" Na TB)
  (hdE4:W.hasDictIn K E4=true)
  (saE4:W.findIn K (.ref E4) "__setattr__" = some (some (.builtin "object.__setattr__")))
  (xiE4:L6.pd K E4 L6.FT "ValueError.__new__" TB=true)
  (nAE40:W.findIn K (.ref E4) "cut" = some none)
  (zE4_0:W.isClsIn K E4=true)
  (zE4_1:W.mroIn K E4 (.type "object")=some true)
  (zE4_2:W.mroIn K E4 (.type "BaseException")=some true)
  (zE4_3:W.findIn K (.ref E4) "__getattribute__" = some (some (.builtin "BaseException.__getattribute__")))
  (zE4_4:W.findIn K (.ref E4) "__getattr__" = some none)
  (zE4_5:W.findIn K (.ref E4) "__class__" = some (some (.builtin "object.__class__")))
  (xE5:W.nsIn K mainGlobals "NoMeeter" = some (some (.ref E5)))
  (h55:MA K E5 "__init__" "NoMeeter.__init__" Nb TC)
  (hdE5:W.hasDictIn K E5=true)
  (saE5:W.findIn K (.ref E5) "__setattr__" = some (some (.builtin "object.__setattr__")))
  (xiE5:L6.pd K E5 L6.FT "ValueError.__new__" TC=true)
  (nAE50:W.findIn K (.ref E5) "cut" = some none)
  (zE5_0:W.isClsIn K E5=true)
  (zE5_1:W.mroIn K E5 (.type "object")=some true)
  (zE5_2:W.mroIn K E5 (.type "BaseException")=some true)
  (zE5_3:W.findIn K (.ref E5) "__getattribute__" = some (some (.builtin "BaseException.__getattribute__")))
  (zE5_4:W.findIn K (.ref E5) "__getattr__" = some none)
  (zE5_5:W.findIn K (.ref E5) "__class__" = some (some (.builtin "object.__class__")))
  (g_divmod:W.nsIn K mainGlobals "divmod" = some none)
  (g_len:W.nsIn K mainGlobals "len" = some none)
  (g_all:W.nsIn K mainGlobals "all" = some none)
  (g_isinstance:W.nsIn K mainGlobals "isinstance" = some none)
  (g_str:W.nsIn K mainGlobals "str" = some none)
  (g_range:W.nsIn K mainGlobals "range" = some none)
  (g_max:W.nsIn K mainGlobals "max" = some none)
  (g_min:W.nsIn K mainGlobals "min" = some none)
  (g_bool:W.nsIn K mainGlobals "bool" = some none)
  (g_list:W.nsIn K mainGlobals "list" = some none)
  (g_int:W.nsIn K mainGlobals "int" = some none)
  (g_tuple:W.nsIn K mainGlobals "tuple" = some none)
  (g_set:W.nsIn K mainGlobals "set" = some none)
  (g_sorted:W.nsIn K mainGlobals "sorted" = some none)
  (g_abs:W.nsIn K mainGlobals "abs" = some none)
  (g_enumerate:W.nsIn K mainGlobals "enumerate" = some none)
  (g_ValueError:W.nsIn K mainGlobals "ValueError" = some none)
  (g_reversed:W.nsIn K mainGlobals "reversed" = some none)
  (g_repr:W.nsIn K mainGlobals "repr" = some none)
  (g_LONGEST:W.nsIn K mainGlobals "LONGEST" = some (some (.int 8 TF)))
  (g_MOST_PLACES:W.nsIn K mainGlobals "MOST_PLACES" = some (some (.int 12 Kc)))
  (g_MOST_TIES:W.nsIn K mainGlobals "MOST_TIES" = some (some (.int 30 OR)))
  (Nz:W.exmOne K (.ref E4) (.ref E4)=some true)
  (NA:W.exmOne K (.ref E5) (.ref E4)=some false)
  (NB:W.exmOne K (.ref E5) (.ref E5)=some true)
  (NC:W.exmOne K (.ref E1) (.ref E4)=some false)
  (ND:W.exmOne K (.ref E1) (.ref E5)=some false)
  (NF:W.exmOne K (.ref E1) (.ref E1)=some true)
  (kv1:W.kitOne K (.ref E1) (.type "ValueError")=some true)
  (kv4:W.kitOne K (.ref E4) (.type "ValueError")=some true)
  (kv5:W.kitOne K (.ref E5) (.type "ValueError")=some true)
  (kw1:W.kitOne K (.ref E1) (.ref EW)=some true)
  (kw4:W.kitOne K (.ref E4) (.ref EW)=some true)
  (kw5:W.kitOne K (.ref E5) (.ref EW)=some true)
  (kn4:W.kitOne K (.ref E4) (.ref E5)=some false)
  : ∃fd:FuncData,(∀(s:Shared) (v:Value),BindsTo s fd ⟨[v],[]⟩ [("_law_script",v)])/\∀base:Heap,K.In base->base.Ns mainGlobals mg->ak l.prog w K mg base aD 12 fa fd ["_law_script"] (qQ K):=by
 have e:=hfa.symm.trans (abE X G h53.1);cases e;obtain⟨_,Ik⟩:=h53.2;have yd:=(h1.m ["self","places","ties"]).choose_spec;have Oo:=yd.1;have Oq:=yd.2.1;have VW:=yd.2.2;have pH:=(h2.m ["self"]).choose_spec;have Gj:=pH.1;have Gk:=pH.2.1;have Eo:=pH.2.2;have ye:=(h3.m ["self"]).choose_spec;have Ot:=ye.1;have Ou:=ye.2.1;have JV:=ye.2.2;have yf:=(h4.m ["self"]).choose_spec;have Ov:=yf.1;have Ow:=yf.2.1;have JW:=yf.2.2;have yg:=(h5.m ["self","k"]).choose_spec;have Ox:=yg.1;have Oy:=yg.2.1;have JX:=yg.2.2;have W:WC K mg C:=⟨⟨pgC,hdC,poC,saC⟩,nAC0,nAC1,abE X G aC⟩
 have Y':Mk K C f1:=⟨mkC,h1.1,h1.2.1,kcC⟩
 have JY:=(h6.d ["thing"] X G).choose_spec;have Oz:=(h7.d ["thing"] X G).choose_spec;have OA:=(h8.d ["places"] X G).choose_spec;have JZ:=(h9.d ["places","thing"] X G).choose_spec;have Qf:=(h10.d ["places","thing"] X G).choose_spec;have OB:=(h11.d ["places","ties"] X G).choose_spec;have J2:=(h12.d ["places","ties"] X G).choose_spec;have Gm:=(h13.d ["ties"] X G).choose_spec;have Gn:=(h14.d ["steps","start"] X G).choose_spec;have Vw:=(h15.d ["web","among"] X G).choose_spec;have Gp:=(h16.d ["web"] X G).choose_spec;have J3:=(h17.d ["web"] X G).choose_spec;have OC:=(h18.d ["web"] X G).choose_spec;have Qg:=(h19.d ["web","thing"] X G).choose_spec;have OD:=(h20.d ["web","ties"] X G).choose_spec;have J':=(h21.d ["web","ties"] X G).choose_spec;have Vx:=(h22.d ["web","ties"] X G).choose_spec;have Vy:=(h23.d ["web","ties"] X G).choose_spec;have Qh:=(h24.d ["web","ties"] X G).choose_spec;have Qi:=(h25.d ["web","ties"] X G).choose_spec;have Qj:=(h26.d ["web","ties"] X G).choose_spec;have Vz:=(h27.d ["ties","k"] X G).choose_spec;have VA:=(h28.d ["web","ties","k"] X G).choose_spec;have VB:=(h29.d ["web","ties"] X G).choose_spec;have VC:=(h30.d ["web","ties"] X G).choose_spec;have VD:=(h31.d ["web","ties"] X G).choose_spec;have OE:=(h32.d ["_law_script","_law_k"] X G).choose_spec;have Qk:=(h33.d ["_law_script","_law_k"] X G).choose_spec;have OF:=(h34.d ["_law_pot_here","_law_many"] X G).choose_spec;have Ql:=(h35.d ["_law_pot_here","_law_some_here"] X G).choose_spec;have VE:=(h36.d ["_law_pot_here","_law_taken"] X G).choose_spec;have Qm:=(h37.d ["_law_pot_here","_law_most"] X G).choose_spec;have Qn:=(h38.d ["_law_pot_here","_law_places_here","_law_most","_law_is_hung"] X G).choose_spec;have OG:=(h39.d ["_law_pot_here","_law_many"] X G).choose_spec;have Qo:=(h40.d ["_law_ties","_law_place"] X G).choose_spec;have VF:=(h41.d ["_law_pairs_here","_law_some_here"] X G).choose_spec;have VG:=(h42.d ["_law_places_here","_law_ties"] X G).choose_spec;have VH:=(h43.d ["_law_places_here","_law_pairs_here","_law_some_here"] X G).choose_spec;have VI:=(h44.d ["_law_places_here","_law_pairs_here","_law_some_here"] X G).choose_spec;have Qp:=(h45.d ["_law_places_here","_law_pairs_here","_law_some_here","_law_cut"] X G).choose_spec;have VJ:=(h46.d ["_law_web","_law_some_here","_law_kind"] X G).choose_spec;have Qq:=(h47.d ["_law_pot_here","_law_some_here","_law_many"] X G).choose_spec;have VL:=(h48.d ["_law_web","_law_thing","_law_is_apart"] X G).choose_spec;have VM:=(h49.d ["_law_told_here","_law_word","_law_places_here","_law_pairs_here","_law_some_here"] X G).choose_spec;have VN:=(h50.d ["_law_web","_law_places_here","_law_pairs_here","_law_some_here","_law_is_apart"] X G).choose_spec;have VO:=(h51.d ["_law_pot_here"] X G).choose_spec;have VP:=(h52.d ["_law_pot_here"] X G).choose_spec;have Il:=abE X G xE1;have Qr:Ex K mg "NoTie" E1:=⟨Il,_,_,_,_,yE1,adu⟩
 have Qs:gL K E1:=⟨zE1_0,zE1_1,zE1_2,zE1_3,zE1_4,zE1_5⟩
 have Qt:=abE X G xEW;have Im:=abE X G xE4;have OH:=(h54.m ["self","cut"]).choose_spec;have VQ:=OH.1;have VR:=OH.2.1;have Qu:gL K E4:=⟨zE4_0,zE4_1,zE4_2,zE4_3,zE4_4,zE4_5⟩
 have Qv:L6.ur K E4 TB:=⟨Qu,saE4,hdE4,xiE4,h54.2.1⟩
 have Io:=abE X G xE5;have OI:=(h55.m ["self","cut"]).choose_spec;have VS:=OI.1;have VT:=OI.2.1;have Qw:gL K E5:=⟨zE5_0,zE5_1,zE5_2,zE5_3,zE5_4,zE5_5⟩
 have Qx:L6.ur K E5 TC:=⟨Qw,saE5,hdE5,xiE5,h55.2.1⟩
 have Gq:=aaJ X G g_divmod;have Qy:=aaJ X G g_len;have Qz:=aaJ X G g_all;have yh:=aaJ X G g_isinstance;have QA:=aaJ X G g_str;have Ka:=aaJ X G g_range;have QB:=aaJ X G g_max;have QC:=aaJ X G g_min;have OJ:=aaJ X G g_bool;have OK:=aaJ X G g_list;have QD:=aaJ X G g_int;have Kb:=aaJ X G g_tuple;have QE:=aaJ X G g_set;have Gr:=aaJ X G g_sorted;have QF:=aaJ X G g_abs;have yB:=aaJ X G g_enumerate;have yi:=aaJ X G g_ValueError;have Bv:=aaJ X G g_reversed;have OL:=aaJ X G g_repr;have Ep:=abE X G g_LONGEST;have uI:=abE X G g_MOST_PLACES;have yC:=abE X G g_MOST_TIES;have T:bK mg:=⟨Gq,Qy,Qz,yh,QA,Ka,QB,QC,OJ,OK,QD,Kb,QE,Gr,⟨_,Ep⟩,⟨_,uI⟩,⟨_,yC⟩⟩
 have M0:=Mt.mk W Gj Eo Gk Ot JV Ou;have M:=Mh.mk M0 Ov JW Ow Ox JX Oy JY Qr;have A4:=Ap.mk Im Qv nAE40 VQ VR;have A5:=zJ.mk Io Qx nAE50 VS VT;have XX:sf K mg EW E1 E4 E5:=⟨Qt,Il,Im,Io,yi,Qs,Nz,NA,NB,NC,ND,NF,kv1,kv4,kv5,kw1,kw4,kw5,kn4⟩
 refine⟨_,λs v=>?_,λbase _ _=>JU Ik Oo Y' Oq Oz JZ Qf OA OB M A4 A5 XX J2 Gm Gn Vw Gp J3 OC Qg OD J' Vx Vy Qh Qi Qj Vz VA VB VC VD OE Qk OF Ql VE Qm Qn OG Qo VF VG VH VI Qp VJ Qq VL VM VN VO VP QF yB Bv OL T⟩;obtain⟨oc,od,kV,doc,pm,an,cdv,ct,osl,rfl,lk,hcd⟩:=Ik.ex;exact .of_eq rfl
theorem walk{l:PySem.W.OpenLaw}{q:Program}{loose:List Str}{XP:(Str->Option Value)->Heap->Prop}{YP:World->Heap->Prop}{d:DefRec}{K:Params->PySem.W.Frag}(hn:l.most=some 63)(hdf:d.params.defaults=[])
  (hY:∀(w:World) (h:Heap),YP w h->(K w.params).In h)
  (F:∀(w:World) (mg:Str->Option Value) (fa:Addr) (h:Heap),(K w.params).In h->h.Ns mainGlobals mg->mg d.name=some (.ref fa) ->
   ∃fd:FuncData,(∀(s:Shared) (u:Value),BindsTo s fd ⟨[u],[]⟩ [("_law_script",u)])/\∀base:Heap,(K w.params).In base->base.Ns mainGlobals mg->ak l.prog w (K w.params) mg base aD 12 fa fd ["_law_script"] (qQ (K w.params))) :
  PySem.W.WalkO q loose XP YP l.row.toRowW d [] (λf vs=>PySem.call f vs):=
 L2.Iz (n:=63) (k:=12) (x:="_law_script") (CX:=λ_=>aD) (sp:=λw=>qQ (K w.params)) hn (by decide) hdf ⟨rfl,by decide,by decide,rfl⟩ hY F (λ_ _ a ns hl _ hS=>⟨a,ns,rfl,hS,hl,λ_=>rfl⟩) λ_ _ _ _ _ z=>z
end dO
namespace PySem.W.Fast
def tw6594770169613436513:Unit:=()
def tw15853723149435847006:Unit:=()
def tw2926438096732900457:Unit:=()
def tw5901069158442229875:Unit:=()
def tw10160479240409901529:Unit:=()
def tw17862945460373230272:Unit:=()
def tw10841559064124196003:Unit:=()
def tw6345004363375815333:Unit:=()
def tw16934713976085078839:Unit:=()
def tw17232764708614884628:Unit:=()
def tw17813041941987421480:Unit:=()
def tw12500108162576529315:Unit:=()
def tw13583654642341505133:Unit:=()
def tw2537720737897708297:Unit:=()
def tw4238811307631503583:Unit:=()
def tw15122205393388956029:Unit:=()
def tw7215156189450427536:Unit:=()
def tw13779190096466118295:Unit:=()
def tw12399293175062324536:Unit:=()
def tw9462964693579865646:Unit:=()
def tw8937354828274756055:Unit:=()
def tw14510219325051662454:Unit:=()
def tw8052767602322739086:Unit:=()
def tw865737388208712334:Unit:=()
def tw14334431617947222437:Unit:=()
def tw18240057783501865421:Unit:=()
def tw15580772746626278380:Unit:=()
def tw12633628626059060313:Unit:=()
def tw3881881039133443674:Unit:=()
def tw3602110101951929447:Unit:=()
def tw17257096962436311815:Unit:=()
def tw14150831681978176365:Unit:=()
def tw14319841214181724535:Unit:=()
def tw10514812632704278916:Unit:=()
def tw203464651494866597:Unit:=()
def tw5973962977597592917:Unit:=()
def tw8436864454174850991:Unit:=()
def tw4227273260763060001:Unit:=()
def tw6228612702255804012:Unit:=()
def tw6853003372161460967:Unit:=()
def tw9362295797147847667:Unit:=()
def tw17933039522014650208:Unit:=()
def tw13448670912895305635:Unit:=()
def tw15832866753280096795:Unit:=()
def tw15752039377107180370:Unit:=()
def tw6377301952060930204:Unit:=()
def tw12523227728274412016:Unit:=()
def tw7388395447608074134:Unit:=()
def tw12647888069053427201:Unit:=()
def tw13773709119210423397:Unit:=()
def tw10804691874560792052:Unit:=()
def tw13688871338982444264:Unit:=()
def tw14750561351597460321:Unit:=()
def tw17064039028136678317:Unit:=()
def tw306601169285648790:Unit:=()
def tw15380444550066161247:Unit:=()
def tw17113330980884090898:Unit:=()
def tw334315058681216709:Unit:=()
def tw8788114941498045791:Unit:=()
def tw6391070974030021727:Unit:=()
def tw13172765591609085568:Unit:=()
def tw4831269357416503598:Unit:=()
def tw10643821057717199018:Unit:=()
def tw8838709845042867868:Unit:=()
def tw702161446534598352:Unit:=()
def tw18162345765536427442:Unit:=()
def tw16591504747872867287:Unit:=()
def tw9940955173691805099:Unit:=()
def tw7816954840947942385:Unit:=()
def tw5153424268708070769:Unit:=()
def tw10984519473164007734:Unit:=()
def tw16802836209268117695:Unit:=()
def tw10284939469714019725:Unit:=()
def tw14759211498462203930:Unit:=()
def tw13525894717105316066:Unit:=()
def tw3478240043581855089:Unit:=()
def tw5943867176462219141:Unit:=()
def tw385483494350024955:Unit:=()
def tw3700653875658486012:Unit:=()
def tw1215967348702797577:Unit:=()
def tw7294628102101916776:Unit:=()
def tw13158499846395772172:Unit:=()
def tw3359961581517650798:Unit:=()
def tw12013934522520112554:Unit:=()
def tw8445995132964146521:Unit:=()
def tw7485490157575502779:Unit:=()
def tw16000271305072530203:Unit:=()
def tw5573850089536112451:Unit:=()
def tw8484924906630344487:Unit:=()
def tw10391085787256663997:Unit:=()
def tw8695247311886211806:Unit:=()
def tw13084695258150535398:Unit:=()
def tw7990649575255091084:Unit:=()
def tw16517160693010521349:Unit:=()
def tw10942692901088008064:Unit:=()
def tw5376774694767900311:Unit:=()
def tw413429290745542005:Unit:=()
def tw8643168556190465289:Unit:=()
def tw14408927110704617434:Unit:=()
def tw16133239156346174790:Unit:=()
def tw8151670724492952350:Unit:=()
def tw9190450986971988725:Unit:=()
def tw5545356225112154916:Unit:=()
def tw14254270463103579012:Unit:=()
def tw1779545708910070859:Unit:=()
def tw18258632135029444990:Unit:=()
def tw16919328722681586963:Unit:=()
def tw14878934099275810349:Unit:=()
def tw5529527371245984972:Unit:=()
def tw16524563783843115195:Unit:=()
def tw16164368965441796576:Unit:=()
def tw14889537304570951903:Unit:=()
def tw7876030369644005042:Unit:=()
def tw11243664787627514938:Unit:=()
def tw14969793350340509428:Unit:=()
def tw885002559585389613:Unit:=()
def tw9408381981733603194:Unit:=()
def tw9941901739832998722:Unit:=()
def tw12714930370988920070:Unit:=()
def tw9198403817838389217:Unit:=()
def tw15045246986479955880:Unit:=()
def tw14645092055390891376:Unit:=()
def tw12850521187204996858:Unit:=()
def tw5709644389429029469:Unit:=()
def tw7967718888598662629:Unit:=()
def tw8573492791063444874:Unit:=()
def tw14362581265165708896:Unit:=()
end PySem.W.Fast
open PySem PySem.W PyProof.Rows
set_option maxRecDepth 100000 in
set_option maxHeartbeats 0 in
theorem PySem.Challenge.cw_cutmeet_k84_lean_lists_holds : PySem.Challenge.rw_cutmeet_k84_lean_lists.Holds := by
  w_on; o_law; k_head; (case hw => w_witness2)
  k_fill
  refine dO.walk (l := PySem.Challenge.rw_cutmeet_k84_lean_lists) rfl rfl (λw h Y => PySem.W.kIn_of Y) ?F
  case F=>
    intro w mg fa h KX G BZ;refine' dO.all_mk KX G BZ ?_ ?_ ?_ ?_ ?_ ?_ ?_ ?_ ?_ ?_ ?_ ?_ ?_ ?_ ?_ ?_ ?_ ?_ ?_ ?_ ?_ ?_ ?_ ?_ ?_ ?_ ?_ ?_ ?_ ?_ ?_ ?_ ?_ ?_ ?_ ?_ ?_ ?_ ?_ ?_ ?_ ?_ ?_ ?_ ?_ ?_ ?_ ?_ ?_ ?_ ?_ ?_ ?_ ?_ ?_ ?_ ?_ ?_ ?_ ?_ ?_ ?_ ?_ ?zq63 ?_ ?_ ?_ ?_ ?_ ?_ ?_ ?_ ?_ ?_ ?_ ?zq75 ?_ ?_ ?_ ?_ ?_ ?_ ?_ ?_ ?_ ?_ ?_ ?zq87 ?_ ?_ ?_ ?_ ?_ ?_ ?_ ?_ ?_ ?_ ?_ ?_ ?_ ?_ ?_ ?_ ?_ ?_ ?_ ?_ ?_ ?_ ?_ ?_ ?_ ?_ ?_ ?_ ?_ ?zq117 ?zq118 ?zq119 ?zq120 ?zq121 ?zq122 ?zq123 ?zq124 ?zq125 ?zq126 ?zq127 ?zq128 ?zq129
    all_goals try (refine' dO.da ?_ ?_ ?_ ?_)
    all_goals try (refine' dO.ma ?_ ?_ ?_ ?_ ?_)
    all_goals try k_is
    (case zq63 => k_exc)
    (case zq75 => kernel_rfl)
    (case zq87 => kernel_rfl)
    (case zq117 => kernel_rfl)
    (case zq118 => kernel_rfl)
    (case zq119 => kernel_rfl)
    (case zq120 => kernel_rfl)
    (case zq121 => kernel_rfl)
    (case zq122 => kernel_rfl)
    (case zq123 => kit_is)
    (case zq124 => kit_is)
    (case zq125 => kit_is)
    (case zq126 => kit_is)
    (case zq127 => kit_is)
    (case zq128 => kit_is)
    (case zq129 => kit_is)
