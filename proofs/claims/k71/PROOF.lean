import PyProof.Rows.All
import Wide.All
import OpenK.AllK
import Wide.FinOn
import Lean
import PyProof.EqAt
import PyProof.EqKinds
import PyProof.TupleCall
import PyProof.NeKinds
import PyProof.Rows.FactsN_abs
import KE.KDictSum
import PyProof.DictCompW
import PyProof.DictIter
import PyProof.EnumFor
import PyProof.EnumMake
import PyProof.EnumStmt
import PyProof.Rows.SortShellK
import PyProof.Rows.SortStr
import PyProof.DictKinds
import PyProof.TupleKey
import PyProof.WalkInts
import PyProof.StrOps
import PyProof.ZipIter
import PyProof.Rows.ZipGen
import PyProof.Rows.SortShell
import PyProof.Rows.FactsT3
import PyProof.DictUpdate
import PyProof.DictTruth
import PyProof.Rows.TupIter
import PyProof.ListRange
import PySem.Challenge.RW_cutmeet_k71_flats_told
set_option Elab.async false
set_option linter.all false
set_option maxRecDepth 100000
open List renaming length_map->Zj,getElem?_eq_getElem->Zk,mem_append_right->Zm,getElem?_map->Zo,getElem?_eq_some_iff->Zq,mem_of_getElem?->Zr,mem_cons->Zs,size_toArray->Zt,mem_append->Zv,mem_cons_self->Zy,length_cons->Zz,length_append->ZA,mem_cons_of_mem->ZC,mem_map->ZD,map_cons->ZI,mem_singleton->ZJ,length_take->ZK,mem_flatten->ZL,mem_append_left->ZN,take_add_one->ZO,nodup_append->ZP,nodup_cons->ZT,map_append->ZU,append_assoc->ZV,getElem?_append_left->ZZ,lookup_cons->Z1,length_eq_zero_iff->Z4,take_length->Z6,take_of_length_le->aab,flatten_cons->aaf,getElem_of_mem->aak,getElem?_append_right->aal,getElem?_eq_none->aao,take_append_drop->aap,append_of_mem->aaq,mem_range->aau,not_mem_nil->aay,mem_iff_getElem?->aaz,map_map->aaC,getElem_cons_drop->aaD,getElem?_eq_none_iff->aaE,flatten_append->aaF,length_range->aaG,length_singleton->aaH,mem_filter->aaI,append_nil->aaK,length_nil->aaL,getElem?_replicate->aaO,length_drop->aaP,ext_getElem?->aaU,pairwise_map->aa0,head?_eq_getElem?->aa4,getD_eq_getElem?_getD->aa6,any_eq_true->aa8,length_replicate->aa',length_filter_le->abb,perm_append_comm->abd,pairwise_iff_getElem->abe,find?_cons->abf,getElem_toArray->abg,idxOf_lt_length_iff->abi,all_eq_true->abk,getElem_mem->abl,length_pos_of_mem->abm,pairwise_cons->abn,forIn_cons->abp,nodup_nil->abz,length_pos_iff->abC,all_cons->abE,any_cons->abF,of_mem_zip->abH,zip_cons_cons->abI,forIn_nil->abQ,getElem?_set_ne->abV,replicate_succ'->abY,nodup_range->abZ,perm_ext_iff_of_nodup->ab3,getLast?_eq_getElem?->ab5,map_nil->ab7,all_map->ab8,length_erase_of_mem->ab9,filter_append->acb,getElem?_take->acd,getElem?_cons_succ->acj,getElem_take->acm,mapM_toArray->acn,count_append->aco,reverse_cons->acp,range_succ_eq_map->acs,sum_cons->acy,cons_append->acB,append_inj'->acD,perm_middle->acE,flatten_nil->acG,mem_flatMap->acH,mem_of_mem_head?->acJ,foldl_cons->acQ,mem_erase_of_ne->acR,zipIdx_nil->acV,mem_iff_getElem->acW,eq_nil_of_length_eq_zero->acY,filterMap_cons->acZ,perm_iff_count->ac1,lt_irrefl->ac3,mapM_cons->ac4,mem_filterMap->ac6,getElem?_drop->ac7,length_eraseIdx_of_lt->adf,map_drop->adi,map_take->adk,getElem?_set->adn,reverse_perm->ado,flatMap_cons->adq,append_eq_append_iff->adt,filterMap_cons_some->adB,zipIdx_cons->adC,nil_append->adW,count_cons->adX,getElem?_set_self->adZ,pairwise_lt_range->ad6,not_lt->ad7,filter_eq_nil_iff->ad8,getElem?_toArray->aeh,eq_nil_or_concat->aek,concat_eq_append->ael,pairwise_append->aeq,reverse_reverse->aer,map_congr_left->aeB,zip_nil_right->aeK,ne_nil_of_mem->aeS,getElem_idxOf->aeT,zip_nil_left->aeZ,head?_append->ae5,getElem_inj->afa,le_antisymm->afd,isEmpty_nil->aff,all_toArray->afh,filter_cons->afj,range'_succ->afk,range_succ->aft,count_nil->afu,drop_zero->afv,lt_trans->afA,mapM_nil->afB,any_map->af2,map_id->af'
open PySem.Heap renaming get?_push_of_some->Zl,get?_push_size->Zw,lt_size->Zx,get?_update_other->Z3,size_push->Z',get?_update_self->aad
open Nat renaming le_refl->Zn,le_trans->Zu,zero_le->ZE,ne_of_lt->ZQ,lt_irrefl->ZX,lt_of_le_of_lt->Z2,lt_of_lt_of_le->Z8,le_of_lt->aag,lt_succ_self->aav,le_succ->aaR,lt_or_ge->aa3,le_add_right->aa9,lt_succ_of_lt->abj,lt_trichotomy->abv,zero_add->abA,not_lt_zero->abJ,min_eq_left->abK,add_sub_cancel->aca,sub_self->ace,mod_lt->acf,min_le_right->acz,ne_of_gt->acK,lt_trans->acN,not_lt->acP,le_of_not_lt->adz,succ_pos->adA,le_antisymm->adV,eq_zero_or_pos->aeR,le_of_lt_succ->ae3,lt_of_succ_lt->ae8,mul_add->ae',max_eq_right->afg,zero_lt_one->afr,le_of_eq->af0,sub_zero->af5,succ_mul->af6,log2_lt->af8
open Option renaming map_eq_some_iff->Zp,map_some->aaV,isSome_iff_exists->adw,getD_some->adE,isSome_map->ae0,getD_none->afc
open Array renaming getElem?_eq_getElem->ZF,length_toList->Z9,getElem?_toList->aae,isEmpty_iff_size_eq_zero->abM,toList_inj->abX,getElem?_eq_some_iff->ab2,forIn_toList->ac8,perm_iff_toList_perm->adg,size_map->aej,toList_filter->aeA,toList_push->ae2,getElem_mem->ae4
open PySem.Paired renaming length->ZG,snoc->aa2
open Option.some renaming inj->ZH,injEq->ae6
open Bool renaming false_ne_true->ZM,false_eq_true->ZR,eq_iff_iff->aat,and_eq_true->aa7,and_false->aby,not_true->abG,not_false->abS,true_and->ab1,false_and->ac2,or_false->afx
open PySem.F renaming plainAttrs_list->ZS,slot_list_append->aah,type_list_append->aai,plain_min_loop->aaS,slot_dict_keyiterator_next->abw,slot_list_index->abD,slot_dict_len->abT,slot_zip_next->abU,args_tuple_add_2->ab6,entry_tuple_add->acg,entry_list_sort->aci,type_list_index->ack,slot_tuple_add->acr,slot_list_sort->acu,entry_min_loop->acw,slot_dict_iter->acx,plain_extend_loop->ads,slot_dict_update->adF,slot_list_insert->adG,type_list_insert->adH,plain_list_iadd->adK,args_zip_next_1->adM,slot_list_clear->adN,type_list_clear->adO,entry_zip_next->ad',slot_set_iter->aei,called_set->aeO
open PySem renaming boot_len->ZW,mem_of_lookup->aaj,wpAny_callSpecial?_slot->aar,wpAny_Call_Name_kw->aaN,wpAny_passesOwn->abo,plainId_quiet->abt,size_of_entries->abL,wpAny_forIn_list->abW,sizeLine_eq->acq,call_meets->acM,codeAny_loop->acO,wpAny_pyIter_slot->adm,wpAny_letOwnedTupleGo_zip->adu,noFill_tuple_add->adx,wpAny_getItem_list_slice->ady,wpAny_callSpecial?_none->adL,codeAny_of_tree->adQ,wpAny_ite_split->adS,codeAny_compStart_list->ad3,codeAny_compStart_dict->ad4,wpAny_isTrue_Compare1->aea,exec_Assign_Name_used->aeb,builtinLookup_eq_fast->aee,isSubtype_type->aef,isSubtype_stop->aeg,ofString_length->aem,int_text_length_le10->aes,seq_tuple_add->aeu,evalPart_none->aev,concat_meets->aeL,seqIndex_neg->aeN,wpAny_assign_Name->aeV,wpAny_collect_seq->ae7,seqIndex_of->ae9,wpAny_execs_cons->afb,wpAny_Name->afl,wpAny_call->afm,typeLookup_type->afq,call_list_seq->afy,eval_ListComp->afz,wpAny_notedAt->afC
open Ne renaming symm->Z0
open PySem.W renaming mg_none_of->Z5,kia_one->aaJ,mg_of->abu,plainGet_of->ac0,cellsFrom_some->ad0,kdu_collect->aey,callWith_K->aeI,kitx_list->aeW,kitx_dict->aeX
open PySem.PassesOwn renaming never->aaa
open PySem.Heap.SameBut renaming update->aac,refl->adl
open PyProof.Rows renaming boot_tuple->aan,boot_list->aaw,slot_tuple_getitem->aaA,callWith_type1->aaM,boot_isinstance->aaW,boot_repr->aa5,boot_sorted->abN,pairsOf_size->abR,slot_tupleiter_next->ab4,callWith_builtin1->acL,plain_sorted->acT,entry_sorted->acU,kind_sorted->ac5,units_in1->adR,KK_mirror_equal->adT,get?_update_seq->adU,subscriptTail_builtinR->ad1,boot_str->aec,boot_abs->aed,Subscript_->aen,boot_all->aep,entry_tupleiter_next->aet,lt_int->aew,isTrue_plain->aeG,elem'_eq->afi,oneTypeOnly'_eq->afs,tail_any->af1,boot_divmod->af4,boot_min->af7,boot_bool->af9,boot_int->aga,boot_set->agb
open Int renaming eq_ofNat_of_zero_le->aas,toNat_natCast->aaT,emod_lt_of_pos->ab',emod_nonneg->acS,natAbs_natCast->ac9,fdiv_eq_ediv_of_nonneg->ada,fmod_eq_emod_of_nonneg->adb
open PySem.Obj renaming data_mapFields->aax,isFreed_of_fields->aba,cls_mapFields->abO,data_mapDictKeys->ab0,isFreed_of_dict->aeC
open PySem.Around renaming under_plainId->aaQ
open PySem.Calls renaming call_function_entry->aaX,Name_function_global->ac',callWith_builtin->ad2,spliced_cons->aeH,spliced_nil->aeY
open List.cons renaming injEq->aaY,inj->afD
open PySem.EqBoolInt renaming of_rcne->aaZ
open PySem.Str renaming length_append->aa1
open PyProof.Rows.KeyOrd renaming kle_refl->abh,kle_of_not_klt->abq,kle_of_klt->abP,kle_trans->acC,kle_antisymm->aez
open Classical renaming choose_spec->abr,byContradiction->abx
open List.Pairwise renaming imp_of_mem->abB,imp->adp,and->agr
open PyProof.Rows.F renaming plain_set_update_loop->ach,entry_set_update_loop->adI
open List.Perm renaming append_right->acv,append_left->acI,of_eq->acX,append->adD,nodup_iff->agn
open Prod renaming ext->acA
open PySem.SeqAt.RcNeAt renaming lists_lengths->ade,tuples->aex,lists->aeQ
open Prod.mk renaming injEq->adh
open PySem.SeqAt renaming eq_list_lengthsAt->adJ,eq_tupleAt->afe,in_listAt->afn,eq_listAt->afp
open PySem.SeqAt.EqAt renaming same->adP,int_str->aeE,str_int->aeF,int_int->aeJ,of_refs->aeP,none_bool->agc,bool_none->agd,bool_bool->age,none_int->agf,none_str->agg,bool_int->agh,bool_str->agi,int_none->agj,int_bool->agk,str_none->agl,str_bool->agm,str_str->agp
open Sum.inr renaming inj->adY
open PySem.SetTable renaming insertAt_perm->ad5
open PySem.StrLaws renaming join_length_le->ad9
open PySem.Walks renaming list->aeo
open Std.Legacy.Range renaming forIn_eq_forIn_range'->aeD
open PySem.Heap.IsSliceOf renaming new->aeM
open Iff renaming rfl->aeU
open PySem.SeqAt.RcAt renaming tuples->ae1,lists->agt
open PySem.Heap.DictOf renaming new->afo
open PyProof.Rows.IsTup renaming new->afw
open PySem.EqNone renaming eq_none_none->afE,eq_none_bool->afF,eq_bool_none->afG,ne_none_none->afJ,ne_none_bool->afK,ne_bool_none->afL,eq_none_int->afO,eq_none_str->afP,eq_int_none->afQ,eq_str_none->afS,ne_none_int->afU,ne_none_str->afV,ne_int_none->afW,ne_str_none->afY
open PySem.EqMixed renaming eq_bool_str->afH,eq_str_bool->afI,ne_bool_str->afM,ne_str_bool->afN,eq_int_str->afR,eq_str_int->afT,ne_int_str->afX,ne_str_int->afZ
open PySem.Str.mk renaming injEq->af3
open PySem.W.Looks renaming here->ago
open PySem.Within renaming cons->agq
open PySem.IsL renaming update->ags
open Array.Perm renaming refl->agu
def ZY:=@decide_eq_true_iff
def Z7:=@if_true
def aam:=@if_false
def aaB:=@decide_eq_false_iff_not
namespace L2
open PySem PySem.Spec PyProof.Rows
abbrev Key:=Sum Int Str
def kA:Key->Value->Bool
 |.inl k,v=>Value.isInt k v
 |.inr x,v=>Value.isStrOf x v
def Ro(w:World):Key->Int
 |.inl k=>hashInt k
 |.inr x=>hashStr w x
theorem cn:∀{k:Key} {v:Value},kA k v=true->(∃i t,k=Sum.inl i/\v=Value.int i t)\/(∃x t,k=Sum.inr x/\v=Value.str x t)
 |.inl i,v,h=>by obtain⟨t,e⟩:=Value.isInt_shape (k:=i) (v:=v) h;exact .inl ⟨i,t,rfl,e⟩
 |.inr x,v,h=>by obtain⟨t,e⟩:=Value.isStrOf_shape (x:=x) (v:=v) h;exact .inr ⟨x,t,rfl,e⟩
theorem AD(i:Int)(t:Tok):kA (.inl i) (.int i t)=true:=by simp[kA,Value.isInt]
theorem AE(x:Str)(t:Tok):kA (.inr x) (.str x t)=true:=by simp[kA,Value.isStrOf]
theorem JD(a b:Int):decide ((Sum.inl a:Key)=Sum.inl b)=(a==b):=by
 by_cases e:a=b
 ·subst e;simp
 ·have h:¬ (Sum.inl a:Key)=Sum.inl b:=λq=>e (Sum.inl.inj q);rw[decide_eq_false h];exact(beq_eq_false_iff_ne.mpr e).symm
theorem JE(a b:Str):decide ((Sum.inr a:Key)=Sum.inr b)=decide (a=b):=by
 by_cases e:a=b
 ·subst e;simp
 ·have h:¬ (Sum.inr a:Key)=Sum.inr b:=λq=>e (adY q);rw[decide_eq_false h,decide_eq_false e]
theorem JF(a:Int)(b:Str):decide ((Sum.inl a:Key)=Sum.inr b)=false:=decide_eq_false (λq=>nomatch q)
theorem JG(a:Str)(b:Int):decide ((Sum.inr a:Key)=Sum.inl b)=false:=decide_eq_false (λq=>nomatch q)
def aW(prog:Program)(w:World):PySem.KeyKind prog w Key where
 is:=kA
 hash:=Ro w
 inj:=λv a b ha hb=>by
  rcases cn ha with⟨i,t,rfl,rfl⟩|⟨x,t,rfl,rfl⟩
  ·rcases cn hb with⟨j,u,rfl,e⟩|⟨y,u,rfl,e⟩
   ·injection e with e1 _;rw[e1]
   ·exact nomatch e
  ·rcases cn hb with⟨j,u,rfl,e⟩|⟨y,u,rfl,e⟩
   ·exact nomatch e
   ·injection e with e1 _;rw[e1]
 byValue:=λk v h=>by rcases cn h with⟨i,t,rfl,rfl⟩|⟨x,t,rfl,rfl⟩<;>rfl
 pyHash:=λhv h=>by
  rcases cn hv with⟨i,t,rfl,rfl⟩|⟨x,t,rfl,rfl⟩
  ·exact wpAny_pyHash_int h
  ·exact wpAny_pyHash_str h
 eqBool:=λhu hv h=>by
  rcases cn hu with⟨i,t,rfl,rfl⟩|⟨x,t,rfl,rfl⟩
  ·rcases cn hv with⟨j,u,rfl,rfl⟩|⟨y,u,rfl,rfl⟩
   ·rw[JD] at h;exact wpAny_eqBool_int h
   ·rw[JF] at h;exact aeE i t y u _ _ _ _ h
  ·rcases cn hv with⟨j,u,rfl,rfl⟩|⟨y,u,rfl,rfl⟩
   ·rw[JG] at h;exact aeF x t j u _ _ _ _ h
   ·rw[JE] at h;exact wpAny_eqBool_str h
 «strs»:=λk x t v h=>by
  rcases cn h with⟨i,u,rfl,e⟩|⟨y,u,rfl,e⟩
  ·exact nomatch e
  ·injection e with e1 _;subst e1;cases v<;>rfl
theorem xj(prog:Program)(w:World)(i:Int)(t:Tok):(aW prog w).is (.inl i) (.int i t)=true:=AD i t
theorem xm(prog:Program)(w:World)(x:Str)(t:Tok):(aW prog w).is (.inr x) (.str x t)=true:=AE x t
inductive V where
 |a8|bl (b:Bool)|int (i:Int)|str (x:Str)|ju (b:Array UInt8)|fR (b:UInt64)|ref (a:Addr)|ty (n:String)
 deriving DecidableEq
def RelV:V->Value->Prop
 |.a8,u=>u=Value.none
 |.bl b,u=>u=Value.bool b
 |.int i,u=>∃t,u=Value.int i t
 |.str x,u=>∃t,u=Value.str x t
 |.ju b,u=>∃t,u=Value.bytes b t
 |.fR b,u=>∃t,u=Value.float b t
 |.ref a,u=>u=Value.ref a
 |.ty n,u=>u=Value.type n
abbrev Vals:List V->List Value->Prop:=Paired RelV
theorem Vals.length(r:Vals xs us):xs.length=us.length:=ZG r
theorem Vals.get:∀{xs:List V} {us:List Value} {i:Nat} {x:V},Vals xs us->xs[i]?=some x->∃u,us[i]?=some u/\RelV x u
 |_,_,_,_,.nil,e=>by simp at e
 |_,_,0,_,.cons r _,e=>by simp at e;subst e;exact⟨_,rfl,r⟩
 |_,_,i+1,x,.cons _ t,e=>by obtain⟨u,h1,h2⟩:=Vals.get (i:=i) (x:=x) t (by simpa using e);exact⟨u,by simpa using h1,h2⟩
theorem Vals.set(r:RelV x u):∀{xs:List V} {us:List Value} (i:Nat),Vals xs us->Vals (xs.set i x) (us.set i u)
 |_,_,_,.nil=>.nil
 |_,_,0,.cons _ t=>.cons r t
 |_,_,i+1,.cons q t=>.cons q (Vals.set r i t)
theorem Vals.append:∀{xs ys:List V} {us ws:List Value},Vals xs us->Vals ys ws->Vals (xs++ys) (us++ws)
 |_,_,_,_,.nil,s=>s
 |_,_,_,_,.cons r t,s=>.cons r (Vals.append t s)
theorem Vals.take:∀{xs:List V} {us:List Value} (n:Nat),Vals xs us->Vals (xs.take n) (us.take n)
 |_,_,0,_=>.nil
 |_,_,_+1,.nil=>.nil
 |_,_,n+1,.cons r t=>.cons r (Vals.take n t)
theorem Vals.drop:∀{xs:List V} {us:List Value} (n:Nat),Vals xs us->Vals (xs.drop n) (us.drop n)
 |_,_,0,r=>r
 |_,_,_+1,.nil=>.nil
 |_,_,n+1,.cons _ t=>Vals.drop n t
def eR:Option V->Option Value->Prop
 |some v,some u=>RelV v u
 |none,none=>True
 |_,_=>False
def KV{κ:Type}:List (κ×V)->List (κ×Value)->Prop:=Paired λ(p:κ×V) (q:κ×Value)=>p.1=q.1/\RelV p.2 q.2
def kV:Key->V
 |.inl i=>.int i
 |.inr x=>.str x
inductive HO where
  |lst (xs:List V)
  |tup (xs:List V)
  |dK (kvs:List (Key×V))|dT (kvs:List (List Key×V))
  |set (S:Int->Bool) (n:Nat)
  |ins (C dx:Addr) (fs:List (Str×V))
  |own (x:Addr)
  |xd (fs:List (Str×V))
  |met (f x:Addr)
  |FQ (lo hi:Int)
  |iR (o:Obj) (u:HO)
  |rR (ps:Array Value)
  |ext (φ:Heap->Prop)
abbrev Hp:=Addr->Option HO
def upd(H:Hp)(a:Addr)(o:HO):Hp:=λb=>if b=a then some o else H b
theorem ai:upd H a o a=some o:=by unfold upd;rw[if_pos rfl]
theorem ak(h:b≠a):upd H a o b=H b:=by unfold upd;rw[if_neg h]
theorem xD:upd (upd H a o) a u=upd H a u:=by funext b;unfold upd;split<;>rfl
theorem cg{H:Hp}{a b:Addr}{o u:HO}(h:H a=some o)(h':H b=some u)(d:o≠u):a≠b:=by intro e;subst e;rw[h] at h';exact d (ZH h')
theorem aw{H:Hp}{a b:Addr}{o:HO}(h:H a=some o)(h':H b=none):a≠b:=by intro e;subst e;rw[h] at h';cases h'
section
variable (P:Program)(w:World)
def bg(H:Hp)(h:Heap)(a:Addr):HO->Prop
 |.lst xs=>xs.length<=sizeLine/\∃(its:List Value) (n:Nat),Vals xs its/\h.get? a=some {cls:=.type "list",data:=.seq its.toArray n}
 |.tup xs=>xs.length<=sizeLine/\∃its:List Value,Vals xs its/\IsTup h a its.toArray
 |.dK kvs=>kvs.length<=sizeLine/\(a==sysModules)=false/\∃vs,KV kvs vs/\h.DictOf (aW P w) a vs
 |.dT kvs=>kvs.length<=sizeLine/\(a==sysModules)=false/\∃xs:List (List Key×Addr×Value),
   Paired (λ(p:List Key×V) (q:List Key×Addr×Value)=>p.1=q.1/\H q.2.1=some (.tup (p.1.map kV))/\RelV p.2 q.2.2) kvs xs /\
   ∃o es ep,h.get? a=some o/\o.ExactDict/\o.data=.dict es ep/\es.toList=xs.map (entryOfKey (tupleKind (aW P w)))/\(xs.map (·.1)).Nodup
 |.set S n=>h.SetOf (intKind P w) a S n
 |.ins C dx fs=>H dx=some (.own a)/\fs.length<=1000/\dx≠a/\h.get? a=some (PySem.W.instObj C dx) /\
   ∃mA,h.Ns1 dx mA/\(∀f,eR (fs.lookup f) (mA f))/\PySem.Within mA (fs.map (·.1))
 |.own _=>∃o,h.get? a=some o
 |.xd fs=>∃mA,h.Ns1 a mA/\∀f,eR (fs.lookup f) (mA f)
 |.FQ lo hi=>∃t u v,h.get? a=some {cls:=.type "range",data:=.fields #[.int lo t,.int hi u,.int 1 v]}
 |.iR o u=>h.get? a=some o/\bg H h a u
 |.rR ps=>h.get? a=some {cls:=.none,data:=.fields ps}
 |.met f x=>h.get? a=some (PySem.W.methodObj (.ref f) (.ref x))
 |.ext φ=>φ h/\(∃o,h.get? a=some o)/\∀h1 h2:Heap,φ h1->(∀o,h1.get? a=some o->h2.get? a=some o)->φ h2
def de(H:Hp)(h:Heap):Prop:=∀a o,H a=some o->bg P w H h a o
end
section
variable {P:Program}{w:World}{H H':Hp}{h h':Heap}{a:Addr}{o:HO}
theorem bg.lt(x:bg P w H h a o):a<h.objs.size:=by
 cases o with
 |lst xs=>obtain⟨_,_,_,_,e⟩:=x;exact Zx e
 |tup xs=>obtain⟨_,_,_,p⟩:=x;exact p.lt
 |dK kvs=>obtain⟨_,_,_,_,o,_,_,e,_⟩:=x;exact Zx e
 |dT kvs=>obtain⟨_,_,_,_,o,_,_,e,_⟩:=x;exact Zx e
 |set S n=>obtain⟨o,_,_,_,e,_⟩:=x;exact Zx e
 |ins C dx fs=>obtain⟨_,_,_,e,_⟩:=x;exact Zx e
 |own y=>obtain⟨_,e⟩:=x;exact Zx e
 |xd fs=>obtain⟨_,⟨_,_,_,e,_⟩,_⟩:=x;exact Zx e
 |FQ lo hi=>obtain⟨_,_,_,e⟩:=x;exact Zx e
 |iR ob u=>obtain⟨e,_⟩:=x;exact Zx e
 |rR ps=>exact Zx (show h.get? a=some _ from x)
 |met f y=>exact Zx (show h.get? a=some _ from x)
 |ext φ=>obtain⟨_,⟨_,e⟩,_⟩:=x;exact Zx e
theorem Paired.gp:∀{l₁:List α} {l₂:List β},Paired F l₁ l₂->(∀a b,F a b->G a b)->Paired G l₁ l₂
 |_,_,.nil,_=>.nil
 |_,_,.cons r t,f=>.cons (f _ _ r) (Paired.gp t f)
theorem bg.iw(x:bg P w H h a o)(k:∀b u,(b=a\/H b=some (.own a))->h.get? b=some u->h'.get? b=some u)
  (ho:∀b,H b=some (.own a)->H' b=some (.own a)) (ht:∀b xs,H b=some (.tup xs)->H' b=some (.tup xs)):bg P w H' h' a o:=by
 induction o with
 |lst xs=>obtain⟨z,its,n,r,e⟩:=x;exact⟨z,its,n,r,k _ _ (.inl rfl) e⟩
 |tup xs=>obtain⟨z,its,r,ob,e,c⟩:=x;exact⟨z,its,r,ob,k _ _ (.inl rfl) e,c⟩
 |dK kvs=>obtain⟨z,y,vs,r,ob,es,ep,e,c⟩:=x;exact⟨z,y,vs,r,ob,es,ep,k _ _ (.inl rfl) e,c⟩
 |dT kvs =>obtain⟨z,y,xs,r,ob,es,ep,e,c⟩:=x;exact⟨z,y,xs,Paired.gp r λp q z=>⟨z.1,ht _ _ z.2.1,z.2.2⟩,ob,es,ep,k _ _ (.inl rfl) e,c⟩
 |set S n=>obtain⟨ob,es,ep,t,e,c⟩:=x;exact⟨ob,es,ep,t,k _ _ (.inl rfl) e,c⟩
 |ins C dx fs =>obtain⟨d,z,ne,e,mA,⟨od,es,ep,e2,c⟩,r⟩:=x;exact⟨ho _ d,z,ne,k _ _ (.inl rfl) e,mA,⟨od,es,ep,k _ _ (.inr d) e2,c⟩,r⟩
 |own y=>obtain⟨ob,e⟩:=x;exact⟨ob,k _ _ (.inl rfl) e⟩
 |xd fs=>obtain⟨mA,⟨od,es,ep,e,c⟩,r⟩:=x;exact⟨mA,⟨od,es,ep,k _ _ (.inl rfl) e,c⟩,r⟩
 |FQ lo hi=>obtain⟨t,u,v,e⟩:=x;exact⟨t,u,v,k _ _ (.inl rfl) e⟩
 |iR ob u ih=>obtain⟨e,q⟩:=x;exact⟨k _ _ (.inl rfl) e,ih q⟩
 |rR ps=>
  have e:h.get? a=some {cls:=.none,data:=.fields ps}:=x;show h'.get? a=some {cls:=.none,data:=.fields ps}
  exact k a _ (.inl rfl) e
 |met f y=>
  have e:h.get? a=some (PySem.W.methodObj (.ref f) (.ref y)):=x;show h'.get? a=some (PySem.W.methodObj (.ref f) (.ref y))
  exact k a _ (.inl rfl) e
 |ext φ=>obtain⟨p,⟨o,e⟩,st⟩:=x;exact⟨st _ _ p λo q=>k _ _ (.inl rfl) q,⟨o,k _ _ (.inl rfl) e⟩,st⟩
theorem de.lt(x:de P w H h)(e:H a=some o):a<h.objs.size:=(x a o e).lt
theorem de.fresh(x:de P w H h)(e:h.objs.size<=a):H a=none:=by
 cases q:H a with
 |none=>rfl
 |some u=>exact absurd (Z8 (x.lt q) e) (ZX _)
theorem de.kept(x:de P w H h)(k:∀b u,h.get? b=some u->h'.get? b=some u):de P w H h':=λa o e =>(x a o e).iw (λb u _ q=>k b u q) (λ_ q=>q) λ_ _ q=>q
theorem de.laid(x:de P w H h)(k:∀b u,h.get? b=some u->h'.get? b=some u)(hp:h.objs.size<=a)(new:bg P w (upd H a o) h' a o):de P w (upd H a o) h':=λb u e=>by
 have hn:=x.fresh hp;by_cases hb:b=a
 ·subst hb;rw[ai] at e;cases e;exact new
 ·rw[ak hb] at e;exact(x b u e).iw (λc v _ q=>k c v q) (λc q=>by rw[ak (aw q hn)];exact q) λc xs q=>by rw[ak (aw q hn)];exact q
end
def Rd(H:Hp)(a:Addr)(u:HO):Prop:=H a=some u\/∃o,H a=some (.iR o u)
theorem Rd.ok(r:Rd H a u)(x:de P w H h):bg P w H h a u:=by
 rcases r with r|⟨o,r⟩
 ·exact x a u r
 ·obtain⟨_,q⟩:=x a _ r;exact q
def AF:Option HO->Prop
 |some (.lst _)=>True
 |some (.dK _)=>True
 |some (.dT _)=>True
 |some (.set _ _)=>True
 |some (.ins _ _ _)=>True
 |some (.ext _)=>True
 |_=>False
section
theorem de.write(ok:de P w H h)(mu:AF (H x))(he:e=x\/H e=some (.own x))(k:∀b u,b≠e->h.get? b=some u->h'.get? b=some u)(heo:∃u,h'.get? e=some u)
  (new:bg P w (upd H x o') h' x o'):de P w (upd H x o') h':=λb u q=>by
 have nown:∀c y,H c=some (.own y)->c≠x:=λc y r z=>by subst z;rw[r] at mu;exact mu
 have ntup:∀c xs,H c=some (.tup xs)->c≠x:=λc xs r z=>by subst z;rw[r] at mu;exact mu
 by_cases hb:b=x
 ·subst hb;rw[ai] at q;cases q;exact new
 ·rw[ak hb] at q;by_cases hbe:b=e
  ·have q':H b=some (.own x):=by
    rcases he with z|z
    ·exact absurd (hbe.trans z) hb
    ·rw[hbe];exact z
   rw[q] at q';cases q';obtain⟨v,hv⟩:=heo;exact⟨v,by rw[hbe];exact hv⟩
  ·refine(ok b u q).iw (λc v hc r=>k c v ?_ r) (λc r=>by rw[ak (nown c b r)];exact r) λc xs r=>by rw[ak (ntup c xs r)];exact r
   rcases hc with rfl|hc
   ·exact hbe
   ·rintro rfl;rcases he with z|z
    ·exact nown c b hc z
    ·rw[hc] at z;cases z;exact hb rfl
end
structure Un(fs ex:List Addr)(H H':Hp)(h h':Heap):Prop where
 keep:∀b o,h.get? b=some o->H b=none->b∉fs->b∉ex->h'.get? b=some o
 slot:∀b o,h.get? b=some o->H b=none->b∈fs->b∉ex->∃sl,h'.get? b=some {o with slots:=sl}
 free:∀b o,h.get? b=some o->H b=none->b∉ex->H' b=none
 there:∀b o,h.get? b=some o->b∉ex->∃o',h'.get? b=some o'
 kB:∀b xs,H b=some (.tup xs)->H' b=some (.tup xs)
 jF:∀b o u,H b=some (.iR o u)->H' b=some (.iR o u)
 kC:∀b ps,H b=some (.rR ps)->∃more,H' b=some (.rR (ps++more))
section
theorem Un.any(u:Un fs ex H H1 h h1)(q:h.get? b=some ob)(n:H b=none)(hx:b∉ex):∃sl,h1.get? b=some {ob with slots:=sl}:=by
 by_cases hb:b∈fs
 ·exact u.slot b ob q n hb hx
 ·exact⟨ob.slots,u.keep b ob q n hb hx⟩
theorem Un.kept(k:∀b u,h.get? b=some u->h'.get? b=some u):Un fs ex H H h h':=
 ⟨λb ob q _ _ _=>k b ob q,λb ob q _ _ _=>⟨ob.slots,k b ob q⟩,λ_ _ _ n _=>n,λb ob q _=>⟨ob,k b ob q⟩,λ_ _ q=>q,λ_ _ _ q=>q,λ_ ps q=>⟨#[],by rw[q];simp⟩⟩
theorem Un.refl:Un fs ex H H h h:=Un.kept λ_ _ q=>q
theorem Un.laid(k:∀b u,h.get? b=some u->h'.get? b=some u)(hp:h.objs.size<=a)(hn:H a=none):Un fs ex H (upd H a o) h h' where
 keep:=λb u q _ _ _=>k b u q
 slot:=λb u q _ _ _=>⟨u.slots,k b u q⟩
 free:=λb u q n _=>by rw[ak (ZQ (Z8 (Zx q) hp))];exact n
 there:=λb u q _=>⟨u,k b u q⟩
 kB:=λb xs q=>by rw[ak (aw q hn)];exact q
 jF:=λb u xs q=>by rw[ak (aw q hn)];exact q
 kC:=λb ps q=>⟨#[],by rw[ak (aw q hn),q];simp⟩
theorem Un.write(mu:AF (H x))(he:e=x\/H e=some (.own x))(k:∀b u,b≠e->h.get? b=some u->h'.get? b=some u)(heo:∃u,h'.get? e=some u):Un fs ex H (upd H x o) h h':=by
 have hx:∀b,H b=none->b≠x:=λb n z=>by subst z;rw[n] at mu;exact mu
 have hb:∀b,H b=none->b≠e:=λb n z=>by
  subst z;rcases he with r|r
  ·exact hx b n r
  ·rw[n] at r;cases r
 have hm:∀b u,H b=some u->¬ AF (some u)->b≠x:=λb u q nm z=>by subst z;rw[q] at mu;exact nm mu
 refine⟨λb u q n _ _=>k b u (hb b n) q,λb u q n _ _=>⟨u.slots,k b u (hb b n) q⟩,λb u q n _=>by rw[ak (hx b n)];exact n,λb u q _=>?_,
  λb xs q=>by rw[ak (hm b _ q λz=>z)];exact q,λb u xs q=>by rw[ak (hm b _ q λz=>z)];exact q,λb ps q=>⟨#[],by rw[ak (hm b _ q λz=>z),q];simp⟩⟩
 by_cases hbe:b=e
 ·subst hbe;exact heo
 ·exact⟨u,k b u hbe q⟩
end
def FR(h:Heap)(H:Hp):List Addr:=(List.range h.objs.size).filter λa=>(H a).isSome
def kD(h:Heap)(H:Hp):Heap:=PySem.W.hideAll h (FR h H)
theorem AG(h:Heap)(H:Hp):(kD h H).objs.size=h.objs.size:=PySem.W.hideAll_size _ _
theorem Dm(e:h.get? b=some o)(n:H b=none):(kD h H).get? b=some o:=
 PySem.W.hideAll_get _ e λhm=>by have q:(H b).isSome=true:=(aaI.mp hm).2;rw[n] at q;simp at q
theorem HA(e:(kD h H).get? b=some o):h.get? b=some o/\H b=none:=by
 have e':h.get? b=some o:=PySem.W.of_hideAll (FR h H) e;refine⟨e',?_⟩;cases q:H b with
 |none=>rfl
 |some x =>have hm:b∈FR h H:=aaI.mpr ⟨aau.mpr (Zx e'),by simp[q]⟩;have z:(kD h H).get? b=none:=PySem.W.hideAll_none (FR h H) hm;rw[z] at e;cases e
def HB(g h:Heap)(L:Addr):List (Addr×Obj):=(List.range h.objs.size).filterMap λa=>if a=L\/(g.get? a).isSome=true then none else (h.get? a).map λo=>(a,o)
def rest(g h:Heap)(L d:Addr):List (Addr×Obj):=(HB g h L).filter λp=>decide (p.1≠d)
structure Mod(K:PySem.W.Frag)(mg:Str->Option Value)(base:Heap):Prop where
 FT:K.In base
 glob:base.Ns mainGlobals mg
 blt:∃mb,base.Ns builtinsNs mb/\∀x:Str,x≠"__name__" -> mb x=bootBuiltins x
 nolimit:base.NoLimit
structure Cx where
 prog:Program
 w:World
 K:PySem.W.Frag
 mg:Str->Option Value
 base:Heap
 A:Around
 N:List Str
 s₀:Shared
 H₀:Hp
 env:Env
 outer:List Env
 stack:List Env
 ex:List Addr
 fn:Str->Bool
 calm:Bool
 pn:List (Addr×Obj)
 xe:Value->Shared->Prop
def lU(l:List Env):List Addr:=l.filterMap (·.frame)
abbrev Cx.fs(X:Cx):List Addr:=lU X.outer
def JH(sc:Scope)(x:Str):Prop:=sc.names.lookup x=some .local\/sc.names.lookup x=some .cell\/sc.names.lookup x=some .free
def Loc(sc:Scope)(x:Str):Prop:=sc.names.lookup x=some .local\/sc.names.lookup x=some .cell
def Look(env:Env)(h:Heap)(m:Str->Option Value)(x:Str)(u:Value):Prop:=
 (env.kindOf x=some .local/\m x=some u)\/((env.kindOf x=some .cell\/env.kindOf x=some .free)/\∃c,env.cells.lookup x=some c/\h.IsCell c (some u))
structure Cx.Ok(X:Cx):Prop where
 mod:Mod X.K X.mg X.base
 kind:X.env.scope.kind=.function
 glob:X.env.globals=mainGlobals
 blt:X.env.builtins=builtinsNs
 above:X.s₀.heap.objs.size<=X.env.locals
 inj:∀x y c,X.env.cells.lookup x=some c->X.env.cells.lookup y=some c->x=y
 has:∀x,(X.env.kindOf x=some .cell\/X.env.kindOf x=some .free)->∃c,X.env.cells.lookup x=some c
 AH:∀x c,X.fn x=true->X.env.cells.lookup x=some c->X.s₀.heap.objs.size<=c
 hd:X.calm=true->X.A.handled=none
 frames:X.A.frames=some X.stack
 FU:X.stack=X.outer\/(X.stack=X.env::X.outer/\X.env.frame=some X.env.locals)
 uu:∀b∈X.ex,b≠X.env.locals/\∀x c,X.env.cells.lookup x=some c->c≠b
 bs:∀b o,X.base.get? b=some o->X.s₀.heap.get? b=some o/\X.H₀ b=none
 pz:X.base.objs.size<=X.s₀.heap.objs.size
 uv:∀b o,X.base.get? b=some o->b∉X.ex
 zb:∀b∈X.ex,b∉X.fs
 iy:X.s₀.heap.FunFrames X.base X.outer
 uw:∀b∈X.fs,X.H₀ b=none
structure Inv(X:Cx)(pins:List (Addr×Obj))(σ:List (Option V))(H:Hp)(s:Shared):Prop where
 ok:X.Ok
 os:s.os=X.s₀.os
 bare:AllBare s.gens
 base:Un X.fs X.ex X.H₀ H X.s₀.heap s.heap
 loc:∃m,s.heap.Ns X.env.locals m/\∀(i:Nat) (x:Str) (v:V),X.N[i]?=some x->σ[i]?=some (some v)->JH X.env.scope x->∃u,RelV v u/\Look X.env s.heap m x u
 cell:∀x c,X.env.cells.lookup x=some c->∃v,s.heap.IsCell c v
 free:H X.env.locals=none
 e9:∀x c,X.env.cells.lookup x=some c->H c=none
 pin:∀p∈X.pn++pins,s.heap.get? p.1=some p.2/\H p.1=none/\p.1≠X.env.locals/\p.1∉X.fs/\∀v,p.2.data≠.cell v
 aL:de X.prog X.w H s.heap
 len:σ.length=X.N.length
section
variable {X:Cx}{pins:List (Addr×Obj)}{σ:List (Option V)}{H H':Hp}{s:Shared}{h':Heap}
theorem Cx.Ok.Rp(ok:X.Ok)(e:X.base.get? b=some o):b∉X.fs:=λhb=>by
 have:=(ok.iy.mem hb).1
 rw[e] at this;cases this
theorem Inv.bs(I:Inv X pins σ H s):∀b o,X.base.get? b=some o->s.heap.get? b=some o/\H b=none:=λb o e =>⟨I.base.keep b o (I.ok.bs b o e).1 (I.ok.bs b o e).2 (I.ok.Rp e) (I.ok.uv b o e),I.base.free b o (I.ok.bs b o e).1 (I.ok.bs b o e).2 (I.ok.uv b o e)⟩
theorem Inv.bk(I:Inv X pins σ H s):∀b o,X.base.get? b=some o->s.heap.get? b=some o:=λb o e=>(I.bs b o e).1
theorem Inv.mod(I:Inv X pins σ H s):Mod X.K X.mg X.base:=I.ok.mod
theorem Inv.dW(I:Inv X pins σ H s):X.K.In s.heap:=I.ok.mod.FT.keeps I.bk
theorem Inv.lt(I:Inv X pins σ H s):X.env.locals<s.heap.objs.size:=let ⟨_,hn,_⟩:=I.loc;hn.lt
theorem Inv.sz(I:Inv X pins σ H s):X.s₀.heap.objs.size<=s.heap.objs.size:=Zu I.ok.above (aag I.lt)
theorem Inv.qI(I:Inv X pins σ H s)(h:s.heap.objs.size<=a):a∉X.fs:=λhb=>by obtain⟨_,o,ho,_⟩:=I.ok.iy.mem hb;exact absurd (Z8 (Zx ho) (Zu I.sz h)) (ZX _)
theorem Inv.ux(I:Inv X pins σ H s):∀x c,X.env.cells.lookup x=some c->c≠X.env.locals:=λx c e z=>by obtain⟨v,o,ho,hd⟩:=I.cell x c e;obtain⟨m,⟨o',es,ep,ho',nE,_⟩,_⟩:=I.loc;rw[z,ho'] at ho;cases ho;rw[nE] at hd;cases hd
theorem Inv.iy(I:Inv X pins σ H s):s.heap.FunFrames X.base X.outer:=by
 have all:∀(l:List Env),(∀b∈lU l,b∈X.fs)->X.s₀.heap.FunFrames X.base l->s.heap.FunFrames X.base l:=by
  intro l;induction l with
  |nil=>intro _ _;trivial
  |cons env r ih =>rintro hs ⟨hk,⟨L,o,hf,hn,ho,hd⟩,hr⟩;have hL:L∈X.fs:=hs L (by unfold lU;rw[acZ,hf];exact Zy);obtain⟨sl,e⟩:=I.base.slot L o ho (I.ok.uw L hL) hL λz=>I.ok.zb L z hL;exact⟨hk,⟨L,_,hf,hn,e,hd⟩,ih (λb hb=>hs b (by unfold lU;rw[acZ,hf];exact ZC _ hb)) hr⟩
 exact all X.outer (λ_ hb=>hb) I.ok.iy
theorem Inv.stack(I:Inv X pins σ H s):s.heap.FunFrames X.base X.stack:=by
 rcases I.ok.FU with e|⟨e,hf⟩
 ·rw[e];exact I.iy
 ·rw[e];obtain⟨m,hn,_⟩:=I.loc;refine .cons (by rw[I.ok.kind];decide) hf hn ?_ I.iy;exact Heap.get?_none_of_le (Zu I.ok.pz I.ok.above)
theorem Inv.dz(I:Inv X pins σ H s):∀b∈lU X.stack,b∈X.env.locals::X.fs:=λb hb=>by
 rcases I.ok.FU with e|⟨e,hf⟩
 ·rw[e] at hb;exact ZC _ hb
 ·rw[e] at hb;unfold lU at hb;rw[acZ,hf] at hb;exact hb
theorem Inv.xE(I:Inv X pins σ H s):∀b∈lU X.stack,H b=none:=λb hb=>by
 rcases Zs.mp (I.dz b hb) with e|hb
 ·rw[e];exact I.free
 ·obtain⟨_,o,ho,_⟩:=I.ok.iy.mem hb;exact I.base.free b o ho (I.ok.uw b hb) λz=>I.ok.zb b z hb
theorem Inv.step{g':Array GenState}{t':Nat}{d':Drawn}{ch:List Addr}(I:Inv X pins σ H s)
  (hch:∀b∈ch,(b∈X.ex\/X.s₀.heap.objs.size<=b)/\b≠X.env.locals/\(∀x c,X.env.cells.lookup x=some c->c≠b)/\∀p∈X.pn++pins,p.1≠b)
  (keep:∀b o,b≠X.env.locals->b∉X.fs->b∉ch->s.heap.get? b=some o->H b=none->h'.get? b=some o)
  (slot:∀b o,b≠X.env.locals->b∈X.fs->b∉ch->s.heap.get? b=some o->H b=none->∃sl,h'.get? b=some {o with slots:=sl}) (free:∀b o,b∉ch->s.heap.get? b=some o->H b=none->H' b=none)
  (there:∀b o,b∉ch->s.heap.get? b=some o->∃o',h'.get? b=some o')
  (kB:∀b xs,H b=some (.tup xs)->H' b=some (.tup xs)) (jF:∀b o u,H b=some (.iR o u)->H' b=some (.iR o u)) (kC:∀b ps,H b=some (.rR ps)->∃more,H' b=some (.rR (ps++more)))
  (ns:∀m,s.heap.Ns X.env.locals m->h'.Ns X.env.locals m) (aL:de X.prog X.w H' h') (hg:AllBare g') :
  Inv X pins σ H' {s with heap:=h',gens:=g',drawn:=d',toks:=t' }:=by
 have neL:∀b o,X.s₀.heap.get? b=some o->b≠X.env.locals:=λb o e=>ZQ (Z8 (Zx e) I.ok.above);have neC:∀b o,X.s₀.heap.get? b=some o->b∉X.ex->b∉ch:=λb o e hx hb=>by
  rcases(hch b hb).1 with z|z
  ·exact hx z
  ·exact absurd (Z8 (Zx e) z) (ZX _)
 have cellK:∀x c,X.env.cells.lookup x=some c->∀v,s.heap.IsCell c v->h'.IsCell c v:=λx c e v ⟨o,ho,hd⟩=>by
  have AI:c∉ch:=λz=>(hch c z).2.2.1 x c e rfl;by_cases hc:c∈X.fs
  ·obtain⟨sl,q⟩:=slot c o (I.ux x c e) hc AI ho (I.e9 x c e);exact⟨_,q,hd⟩
  ·exact⟨o,keep c o (I.ux x c e) hc AI ho (I.e9 x c e),hd⟩
 refine⟨I.ok,I.os,hg,⟨λb o e n hb hx=>?_,λb o e n hb hx=>?_,λb o e n hx=>?_,λb o e hx=>?_,λb xs e=>kB b xs (I.base.kB b xs e),λb o xs e=>jF b o xs (I.base.jF b o xs e),λb ps e=>?_⟩,?_,λx c e=>?_,?_,λx c e=>?_,λp hp=>?_,aL,I.len⟩
 ·exact keep b o (neL b o e) hb (neC b o e hx) (I.base.keep b o e n hb hx) (I.base.free b o e n hx)
 ·obtain⟨sl,e1⟩:=I.base.slot b o e n hb hx;obtain⟨TU,e2⟩:=slot b _ (neL b o e) hb (neC b o e hx) e1 (I.base.free b o e n hx);exact⟨TU,e2⟩
 ·obtain⟨o',e1⟩:=I.base.there b o e hx;exact free b o' (neC b o e hx) e1 (I.base.free b o e n hx)
 ·obtain⟨o',e1⟩:=I.base.there b o e hx;exact there b o' (neC b o e hx) e1
 ·obtain⟨m1,e1⟩:=I.base.kC b ps e;obtain⟨m2,e2⟩:=kC b _ e1;exact⟨m1++m2,by rw[e2,Array.append_assoc]⟩
 ·obtain⟨m,hn,hl⟩:=I.loc;refine⟨m,ns m hn,λi x v e1 e2 e3=>?_⟩;obtain⟨u,r,l⟩:=hl i x v e1 e2 e3;refine⟨u,r,?_⟩;rcases l with l|⟨k,c,e,z⟩
  ·exact .inl l
  ·exact .inr ⟨k,c,e,cellK x c e _ z⟩
 ·obtain⟨v,z⟩:=I.cell x c e;exact⟨v,cellK x c e v z⟩
 ·obtain⟨m,⟨o,_,_,ho,_⟩,_⟩:=I.loc;exact free _ o (λz=>(hch _ z).2.1 rfl) ho I.free
 ·obtain⟨v,o,ho,hd⟩:=I.cell x c e;exact free c o (λz=>(hch c z).2.2.1 x c e rfl) ho (I.e9 x c e)
 ·obtain⟨e,n,ne,nf,d⟩:=I.pin p hp;have AI:p.1∉ch:=λz=>(hch p.1 z).2.2.2 p hp rfl;exact⟨keep p.1 p.2 ne nf AI e n,free p.1 p.2 AI e n,ne,nf,d⟩
theorem Inv.un{t':Nat}(I:Inv X pins σ H s)(u:Un X.fs [] H H' s.heap h')(aL:de X.prog X.w H' h'):Inv X pins σ H' {s with heap:=h',toks:=t' }:=by obtain⟨m,⟨o,es,ep,ho,r⟩,_⟩:=id I.loc;obtain⟨sl,hL⟩:=u.any ho I.free (by simp);exact I.step (g':=s.gens) (d':=s.drawn) (ch:=[]) (λ_ z=>nomatch z) (λb o _ hb _ e n=>u.keep b o e n hb (by simp)) (λb o _ hb _ e n=>u.slot b o e n hb (by simp)) (λb o _ e n=>u.free b o e n (by simp)) (λb o _ e=>u.there b o e (by simp)) u.kB u.jF u.kC (λm' hm=>by obtain⟨o',es',iS,ho',r'⟩:=hm;rw[ho] at ho';cases ho';exact⟨_,es',iS,hL,r'⟩) aL I.bare
theorem Inv.call{g':Array GenState}{t':Nat}{d':Drawn}{ch:List Addr}(I:Inv X pins σ H s)(u:Un (lU X.stack) ch H H' s.heap h')(aL:de X.prog X.w H' h')(hg:AllBare g')
  (hch:∀b∈ch,(b∈X.ex\/X.s₀.heap.objs.size<=b)/\b≠X.env.locals/\(∀x c,X.env.cells.lookup x=some c->c≠b)/\∀p∈X.pn++pins,p.1≠b) :
  Inv X pins σ H' {s with heap:=h',gens:=g',drawn:=d',toks:=t' }:=by
 obtain⟨m,⟨o,es,ep,ho,r⟩,_⟩:=id I.loc;obtain⟨sl,hL⟩:=u.any ho I.free λz=>(hch _ z).2.1 rfl;exact I.step (ch:=ch) hch (λb o hL hb hc e n=>u.keep b o e n (λz=>(Zs.mp (I.dz b z)).elim hL hb) hc) (λb o _ _ hc e n=>u.any e n hc) (λb o hc e n=>u.free b o e n hc) (λb o hc e=>u.there b o e hc) u.kB u.jF u.kC (λm' hm=>by obtain⟨o',es',iS,ho',r'⟩:=hm;rw[ho] at ho';cases ho';exact⟨_,es',iS,hL,r'⟩) aL hg
theorem Inv.turned{t':Nat}{it:Addr}(I:Inv X pins σ H s)(k:∀b o,b≠it->s.heap.get? b=some o->h'.get? b=some o)(hn:H it=none)(hL:it≠X.env.locals)
  (h1:it∈X.ex\/X.s₀.heap.objs.size<=it) (h2:∀x c,X.env.cells.lookup x=some c->c≠it) (h3:∀p∈X.pn++pins,p.1≠it):Inv X pins σ H {s with heap:=h',toks:=t' }:=by
 have Pb:∀b u,H b=some u->b≠it:=λb u e z=>by rw[z,hn] at e;cases e
 refine I.step (g':=s.gens) (d':=s.drawn) (ch:=[it]) (λb hb=>?_) (λb o _ _ hc e _=>k b o (λz=>hc (by simp[z])) e) (λb o _ _ hc e _=>⟨o.slots,k b o (λz=>hc (by simp[z])) e⟩) (λ_ _ _ _ n=>n)
  (λb o hc e=>⟨o,k b o (λz=>hc (by simp[z])) e⟩) (λ_ _ e=>e) (λ_ _ _ e=>e) (λb ps e=>⟨#[],by rw[e];simp⟩) (λm hm=>?_) (λb u e=>?_) I.bare
 ·have e:b=it:=by simpa using hb
  subst e;exact⟨h1,hL,h2,h3⟩
 ·obtain⟨o,es,ep,ho,r⟩:=hm;exact⟨o,es,ep,k _ o (Z0 hL) ho,r⟩
 ·refine(I.aL b u e).iw (λc v hc q=>k c v ?_ q) (λ_ q=>q) λ_ _ q=>q;rcases hc with z|z
  ·rw[z];exact Pb b u e
  ·exact Pb c _ z
theorem Inv.tok(I:Inv X pins σ H s)(t:Nat):Inv X pins σ H {s with toks:=t}:=I.un (h':=s.heap) (t':=t) Un.refl I.aL
theorem Inv.kept(I:Inv X pins σ H s)(k:∀b u,s.heap.get? b=some u->h'.get? b=some u):Inv X pins σ H {s with heap:=h',toks:=t' }:=I.un (Un.kept k) (I.aL.kept k)
theorem Inv.laid(I:Inv X pins σ H s)(k:∀b u,s.heap.get? b=some u->h'.get? b=some u)(hp:s.heap.objs.size<=a)(new:bg X.prog X.w (upd H a o) h' a o) :
  Inv X pins σ (upd H a o) {s with heap:=h',toks:=t' }:=I.un (Un.laid k hp (I.aL.fresh hp)) (I.aL.laid k hp new)
theorem Inv.write(I:Inv X pins σ H s)(mu:AF (H x))(he:e=x\/H e=some (.own x))(k:∀b u,b≠e->s.heap.get? b=some u->h'.get? b=some u)(heo:∃u,h'.get? e=some u)
  (new:bg X.prog X.w (upd H x o) h' x o):Inv X pins σ (upd H x o) {s with heap:=h',toks:=t' }:=I.un (Un.write mu he k heo) (I.aL.write mu he k heo new)
theorem Inv.weak(I:Inv X pins σ H s)(hl:σ'.length=σ.length)(w:∀(i:Nat) v,σ'[i]?=some (some v)->σ[i]?=some (some v)):Inv X pins σ' H s:=
 ⟨I.ok,I.os,I.bare,I.base,let ⟨m,hn,hl'⟩:=I.loc;⟨m,hn,λi x v e1 e2 e3=>hl' i x v e1 (w i v e2) e3⟩,I.cell,I.free,I.e9,I.pin,I.aL,hl.trans I.len⟩
theorem Inv.bG(I:Inv X pins σ H s)(h:∀p∈NO,s.heap.get? p.1=some p.2/\H p.1=none/\p.1≠X.env.locals/\p.1∉X.fs/\∀v,p.2.data≠.cell v):Inv X NO σ H s:=
 ⟨I.ok,I.os,I.bare,I.base,I.loc,I.cell,I.free,I.e9,λp hp=>(Zv.mp hp).elim (λz=>I.pin p (ZN _ z)) (h p),I.aL,I.len⟩
theorem uy{N:List Str}(hN:N.Nodup){i j:Nat}{x:Str}(a:N[i]?=some x)(b:N[j]?=some x):i=j:=by obtain⟨h1,e1⟩:=Zq.mp a;obtain⟨h2,e2⟩:=Zq.mp b;exact(afa hN).mp (e1.trans e2.symm)
theorem rS{M:Model}{A:Around}{E:Value->Shared->Prop}{i:Nat}{x:Str}{v:V}{u:Value}{Q:Unit->Shared->Prop}(I:Inv X pins σ H s)(hN:X.N.Nodup)(hi:X.N[i]?=some x)(hx:Loc X.env.scope x)(r:RelV v u)
  (h:∀s',Inv X pins (σ.set i (some v)) H s'->(∃a,Heap.SameBut a s.heap s'.heap/\(a=X.env.locals\/X.env.cells.lookup x=some a))->Q () s') (hf:X.fn x=true\/X.env.scope.names.lookup x=some .local:=by first|exact .inl rfl|exact .inr rfl|assumption):wpAny M A (storeName X.env x u) Q E s:=by
 obtain⟨m,hn,hl⟩:=id I.loc;have Rq:(X.env.scope.kind==.class||(X.env.scope.kind==.module&&X.env.locals !=X.env.globals))=false:=by rw[I.ok.kind];rfl
 have Pc:i<σ.length:=by rw[I.len];exact(Zq.mp hi).1
 have ux:=I.ux;have tracked:∀{a:Addr} {h':Heap},(∃o,s.heap.get? a=some o/\H a=none)->Heap.SameBut a s.heap h'->de X.prog X.w H h':=λ{a h'} ha hs b ob e=>by
  obtain⟨_,_,FV⟩:=ha;refine(I.aL b ob e).iw (λc w' hc q=>(hs.2 c ?_).trans q) (λ_ q=>q) λ_ _ q=>q;rintro rfl;rcases hc with rfl|hc
  ·rw[FV] at e;cases e
  ·rw[FV] at hc;cases hc
 rcases hx with hk|hk
 ·refine wpAny_storeName_local hk hn (λh' TV hs=>?_) Rq;obtain⟨oL,_,_,TX,_⟩:=id hn;refine h _ ⟨I.ok,I.os,I.bare,⟨λb o e n hb hx=>?_,λb o e n hb hx=>?_,I.base.free,λb o e hx=>?_,I.base.kB,I.base.jF,I.base.kC⟩,⟨_,TV,λj y v' e1 e2 e3=>?_⟩,λy c e=>?_,I.free,I.e9,λp hp=>?_,tracked ⟨oL,TX,I.free⟩ hs,by simpa using I.len⟩ ⟨_,hs,.inl rfl⟩
  ·exact(hs.2 b (ZQ (Z8 (Zx e) I.ok.above))).trans (I.base.keep b o e n hb hx)
  ·obtain⟨sl,e1⟩:=I.base.slot b o e n hb hx;exact⟨sl,(hs.2 b (ZQ (Z8 (Zx e) I.ok.above))).trans e1⟩
  ·obtain⟨o',e1⟩:=I.base.there b o e hx;exact⟨o',(hs.2 b (ZQ (Z8 (Zx e) I.ok.above))).trans e1⟩
  ·by_cases hj:j=i
   ·subst hj;rw[hi] at e1;cases e1;rw[adZ Pc] at e2;cases e2;exact⟨u,r,.inl ⟨hk,by simp⟩⟩
   ·rw[abV (Z0 hj)] at e2;obtain⟨u',r',q⟩:=hl j y v' e1 e2 e3;refine⟨u',r',?_⟩;rcases q with⟨k,e⟩|⟨k,c,e,z⟩
    ·refine .inl ⟨k,?_⟩
     have:y≠x:=λe=>hj (uy hN e1 (e▸hi))
     simp[this,e]
    ·exact .inr ⟨k,c,e,z.sameBut hs (ux y c e)⟩
  ·obtain⟨w',z⟩:=I.cell y c e;exact⟨w',z.sameBut hs (ux y c e)⟩
  ·obtain⟨e,n,ne,nf,d⟩:=I.pin p hp;exact⟨(hs.2 p.1 ne).trans e,n,ne,nf,d⟩
 ·have JI:X.fn x=true:=by
   rcases hf with z|z
   ·exact z
   ·rw[z] at hk;cases hk
  obtain⟨c,hc⟩:=I.ok.has x (.inl hk);obtain⟨w',z⟩:=I.cell x c hc;refine wpAny_storeName_cell I.ok.kind hk hc z (λh' dA hs=>?_);obtain⟨oc,Pd,Rt⟩:=id z;refine h {s with heap:=h' } ⟨I.ok,I.os,I.bare,⟨λb o e n hb hx=>?_,λb o e n hb hx=>?_,I.base.free,λb o e hx=>?_,I.base.kB,I.base.jF,I.base.kC⟩,⟨m,hn.sameBut hs (Z0 (ux x c hc)),λj y v' e1 e2 e3=>?_⟩,λy c' e=>?_,I.free,I.e9,λp hp=>?_,tracked ⟨oc,Pd,I.e9 x c hc⟩ hs,by simpa using I.len⟩ ⟨c,hs,.inr hc⟩
  ·exact(hs.2 b (ZQ (Z8 (Zx e) (I.ok.AH x c JI hc)))).trans (I.base.keep b o e n hb hx)
  ·obtain⟨sl,e1⟩:=I.base.slot b o e n hb hx;exact⟨sl,(hs.2 b (ZQ (Z8 (Zx e) (I.ok.AH x c JI hc)))).trans e1⟩
  ·obtain⟨o',e1⟩:=I.base.there b o e hx;exact⟨o',(hs.2 b (ZQ (Z8 (Zx e) (I.ok.AH x c JI hc)))).trans e1⟩
  ·by_cases hj:j=i
   ·subst hj;rw[hi] at e1;cases e1;rw[adZ Pc] at e2;cases e2;exact⟨u,r,.inr ⟨.inl hk,c,hc,dA⟩⟩
   ·rw[abV (Z0 hj)] at e2;obtain⟨u',r',q⟩:=hl j y v' e1 e2 e3;refine⟨u',r',?_⟩;rcases q with q|⟨k,c',e,z'⟩
    ·exact .inl q
    ·refine .inr ⟨k,c',e,z'.sameBut hs ?_⟩;rintro rfl;exact hj (uy hN e1 (I.ok.inj _ _ _ e hc▸hi))
  ·by_cases Pe:c'=c
   ·subst Pe;exact⟨_,dA⟩
   ·obtain⟨w2,z2⟩:=I.cell y c' e;exact⟨w2,z2.sameBut hs Pe⟩
  ·obtain⟨e,n,ne,nf,d⟩:=I.pin p hp;refine⟨(hs.2 p.1 ?_).trans e,n,ne,nf,d⟩;intro q;rw[q,Pd] at e;have q':oc=p.2:=ZH e;exact d w' (by rw[<-q'];exact Rt)
theorem uz(I:Inv X pins σ H s)(hN:X.N.Nodup)(hi:X.N[i]?=some x)(hx:Loc X.env.scope x)(r:RelV v u)
  (h:∀s',Inv X pins (σ.set i (some v)) H s'->Q () s') (hf:X.fn x=true\/X.env.scope.names.lookup x=some .local:=by first|exact .inl rfl|exact .inr rfl|assumption):wpAny M A (storeName X.env x u) Q E s:=
 rS I hN hi hx r (λs' I' _=>h s' I') hf
theorem Inv.mV(I:Inv X pins σ H s)(ho:s'.os=s.os)(u:Un (lU X.stack) ch H H' s.heap s'.heap)(aL:de X.prog X.w H' s'.heap)(hg:AllBare s'.gens)
  (hch:∀b∈ch,(b∈X.ex\/X.s₀.heap.objs.size<=b)/\b≠X.env.locals/\(∀x c,X.env.cells.lookup x=some c->c≠b)/\∀p∈X.pn++pins,p.1≠b):Inv X pins σ H' s':=by
 obtain⟨h',g',d',t',o'⟩:=s';have e:o'=s.os:=ho;subst e;exact I.call (g':=g') (t':=t') (d':=d') u aL hg hch
end
abbrev XK:=Value->Option Addr->Hp->Prop
abbrev St:=List (Option V)
abbrev VK:=V->Hp->Prop
abbrev TE:=St->Hp->VK->Prop
abbrev TT:=St->Hp->(Bool->Hp->Prop)->Prop
abbrev TA:=St->Hp->(List V->Hp->Prop)->Prop
structure Ends where
 nx:St->Hp->Prop
 rt:VK
 bk:St->Hp->Prop:=λ_ _=>False
 ct:St->Hp->Prop:=λ_ _=>False
abbrev TS:=Ends->St->Hp->Prop
def EP(X:Cx)(pins:List (Addr×Obj))(σ:St)(Q:VK)(u:Value)(s':Shared):Prop:=∃v H',Inv X pins σ H' s'/\RelV v u/\Q v H'
def TP(X:Cx)(pins:List (Addr×Obj))(σ:St)(Q:Bool->Hp->Prop)(b:Bool)(s':Shared):Prop:=∃H',Inv X pins σ H' s'/\Q b H'
def AP(X:Cx)(pins:List (Addr×Obj))(σ:St)(Q:List V->Hp->Prop)(us:List Value)(s':Shared):Prop:=∃vs H',Inv X pins σ H' s'/\Vals vs us/\Q vs H'
def SP(X:Cx)(pins:List (Addr×Obj))(D:Ends)(f:Flow)(s':Shared):Prop:=
 match f with
 |.next=>∃σ' H',Inv X pins σ' H' s'/\D.nx σ' H'
 |.brk=>∃σ' H',Inv X pins σ' H' s'/\D.bk σ' H'
 |.cont=>∃σ' H',Inv X pins σ' H' s'/\D.ct σ' H'
 |.ret u=>∃v σ' H',Inv X pins σ' H' s'/\RelV v u/\D.rt v H'
def PE(X:Cx)(e:Expr)(t:TE):Prop:=
 ∀(pins:List (Addr×Obj)) (s:Shared) (σ:St) (H:Hp) (Q:VK),Inv X pins σ H s->t σ H Q->wpAny (model X.prog X.w) X.A (eval e X.env) (EP X pins σ Q) X.xe s
def PT(X:Cx)(e:Expr)(t:TT):Prop:=
 ∀(pins:List (Addr×Obj)) (s:Shared) (σ:St) (H:Hp) (Q:Bool->Hp->Prop),Inv X pins σ H s->t σ H Q->wpAny (model X.prog X.w) X.A (isTrue e X.env (eval e X.env)) (TP X pins σ Q) X.xe s
def PW(X:Cx)(e:Expr)(t:TT):Prop:=
 ∀(whole:Sem Value) (pins:List (Addr×Obj)) (s:Shared) (σ:St) (H:Hp) (Q:Bool->Hp->Prop),Inv X pins σ H s->t σ H Q->wpAny (model X.prog X.w) X.A (isTrue e X.env whole) (TP X pins σ Q) X.xe s
theorem PW.pt(h:PW X e t):PT X e t:=h _
def PA(X:Cx)(es:List Expr)(t:TA):Prop:=
 ∀(pos:Pos) (pins:List (Addr×Obj)) (s:Shared) (σ:St) (H:Hp) (Q:List V->Hp->Prop),Inv X pins σ H s->t σ H Q->wpAny (model X.prog X.w) X.A (spliced (backTo pos (starEach es X.env))) (AP X pins σ Q) X.xe s
def PS(X:Cx)(st:Stmt)(t:TS):Prop:=
 ∀(pins:List (Addr×Obj)) (s:Shared) (σ:St) (H:Hp) (D:Ends),Inv X pins σ H s->t D σ H->wpAny (model X.prog X.w) X.A (exec st X.env) (SP X pins D) X.xe s
def jP(X:Cx)(st:List Stmt)(t:TS):Prop:=
 ∀(pins:List (Addr×Obj)) (s:Shared) (σ:St) (H:Hp) (D:Ends),Inv X pins σ H s->t D σ H->wpAny (model X.prog X.w) X.A (execs st X.env) (SP X pins D) X.xe s
theorem aH(h:wpAny M A t Q E s)(hQ:∀a s,Q a s->Q' a s):wpAny M A t Q' E s:=wpAny_mono h hQ λ_ _ x=>x
section
variable {X:Cx}
def gM(i:Nat):TE:=λσ H Q=>∃v,σ[i]?=some (some v)/\Q v H
def tC(v:V):TE:=λ_ H Q=>Q v H
theorem JJ(hN:X.N[i]?=some x)(hv:JH X.env.scope x)(hd:(x==("__debug__" : Str))=false:=by decide)(hcd:(x==("__classdict__" : Str))=false:=by decide):PE X (.Name x pos) (gM i):=by
 rintro pins s σ H Q I ⟨v,e,h⟩;obtain⟨m,hn,hl⟩:=I.loc;obtain⟨u,r,l⟩:=hl i x v hN e hv;have fin:EP X pins σ Q u s:=⟨v,H,I,r,h⟩
 rcases l with⟨hk,hm⟩|⟨hk,c,hc,kF⟩
 ·exact afl (wpAny_loadName_local I.ok.kind hk hn hm fin) hd
 ·rcases hk with hk|hk
  ·exact afl (wpAny_loadName_cell I.ok.kind hk hc kF fin) hd
  ·exact afl (wpAny_loadName_free I.ok.kind hk hc kF fin hcd) hd
theorem aD:PE X (.Constant (.int i) j pos) (tC (.int i)):=λ_ _ _ H _ I h=>wpAny_Constant_int ⟨.int i,H,I.tok _,⟨_,rfl⟩,h⟩
theorem dX:PE X (.Constant (.bool b) j pos) (tC (.bl b)):=λ_ _ _ H _ I h=>Constant_bool ⟨.bl b,H,I,rfl,h⟩
theorem pA:PE X (.Constant (.str x) j pos) (tC (.str x)):=λ_ _ _ H _ I h=>Calls.Constant_str ⟨.str x,H,I.tok _,⟨_,rfl⟩,h⟩
def Gl(X:Cx)(x:Str):Prop:=X.env.kindOf x=some .globalImplicit
theorem qJ(I:Inv X pins σ H s)(hg:Gl X x)(hm:X.mg x=some u)(h:Q u s)
  (hd:(x==("__debug__" : Str))=false:=by decide):wpAny (model X.prog X.w) X.A (eval (.Name x pos) X.env) Q E s:=
 ac' I.ok.kind hg (Calls.loadGlobal_global (by rw[I.ok.glob];exact I.mod.glob.keeps I.bk) hm h) hd
theorem gu(I:Inv X pins σ H s)(hg:Gl X x)(hm:X.mg x=none)(hv:bootBuiltins x=some u)(h:Q u s)
  (hn:x≠"__name__" := by decide) (hd:(x==("__debug__" : Str))=false:=by decide):wpAny (model X.prog X.w) X.A (eval (.Name x pos) X.env) Q E s:=by
 obtain⟨mb,h1,h2⟩:=I.mod.blt;exact ac' I.ok.kind hg (Calls.loadGlobal_builtin (by rw[I.ok.glob];exact I.mod.glob.keeps I.bk) hm (by rw[I.ok.blt];exact h1.keeps I.bk) ((h2 x hn).trans hv) h) hd
theorem mW(hg:Gl X x)(hm:X.mg x=some u)(r:RelV v u)(hd:(x==("__debug__" : Str))=false:=by decide):PE X (.Name x pos) (tC v):=
 λ_ _ _ H _ I h=>qJ I hg hm ⟨v,H,I,r,h⟩ hd
theorem dR(hg:Gl X x)(hm:X.mg x=none)(hv:bootBuiltins x=some u)(r:RelV v u)(hn:x≠"__name__" := by decide)(hd:(x==("__debug__" : Str))=false:=by decide):PE X (.Name x pos) (tC v):=
 λ_ _ _ H _ I h=>gu I hg hm hv ⟨v,H,I,r,h⟩ hn hd
variable {a b:Expr}{ta tb:TE}{pos:Pos}
def PC(X:Cx)(op:CmpOp)(a b:Expr)(t:TE):Prop:=
 ∀(pins:List (Addr×Obj)) (s:Shared) (σ:St) (H:Hp) (Q:VK),Inv X pins σ H s->t σ H Q ->
  wpAny (model X.prog X.w) X.A (eval a X.env) (λv s₁=>wpAny (model X.prog X.w) X.A (eval b X.env) (λu s₂=>wpAny (model X.prog X.w) X.A (compareOp op v u) (EP X pins σ Q) X.xe s₂) X.xe s₁) X.xe s
theorem Dp(b:Expr)(h:op≠.In)(h2:op≠.NotIn):behindInMarks op b=false:=by
 have e1:(op==CmpOp.In)=false:=by cases op<;>first|rfl|exact absurd rfl h
 have e2:(op==CmpOp.NotIn)=false:=by cases op<;>first|rfl|exact absurd rfl h2
 cases b<;>simp[behindInMarks,e1,e2]
def tB(t:TE):TT:=λσ H Q=>t σ H λx H1=>∃c,x=.bl c/\Q c H1
theorem AJ(h:PC X op a b t)(h1:behindInMarks op b=false:=by first|exact Dp _ (by decide) (by decide)|rfl):PT X (.Compare a [op] [b] pos) (tB t):=by intro pins s σ H Q I hw;refine aea (aH (h pins s σ H _ I hw) λv s1 h1=>aH h1 λu s2 h2=>aH h2 λc s3 ⟨x,H1,I1,r1,q1⟩=>?_) h1;obtain⟨d,rfl,q⟩:=q1;cases r1;exact wpAny_truthy_bool ⟨H1,I1,q⟩
theorem di(h:PE X e t)(he:∀whole,isTrue e X.env whole=(do let v <-whole;standAt e.pos;holding [v] (truthy v)):=by intro _;rfl):PT X e (tB t):=by intro pins s σ H Q I hw;refine aeG (aH (h pins s σ H _ I hw) λv s1 ⟨x,H1,I1,r1,q1⟩=>?_) (he _);obtain⟨d,rfl,q⟩:=q1;cases r1;exact wpAny_truthy_bool ⟨H1,I1,q⟩
variable {tA FW:TT}{rest:List Expr}
def Ru(t u:TT):TT:=λσ H Q=>t σ H λc H1=>if c=true then u σ H1 Q else Q false H1
def TY(t u:TT):TT:=λσ H Q=>t σ H λc H1=>if c=true then Q true H1 else u σ H1 Q
def Rv(t:TT):TT:=λσ H Q=>t σ H λc H1=>Q (!c) H1
theorem xF(ha:PT X a tA):PW X (.BoolOp .And [a] pos) tA:=by
 intro wh pins s σ H Q I h;refine isTrue_and (aH (ha pins s σ H Q I h) λc s1 e=>?_);cases c with
 |true=>exact isTrue_and_nil e
 |false=>exact e
theorem dM(ha:PT X a tA):PW X (.BoolOp .Or [a] pos) tA:=by
 intro wh pins s σ H Q I h;refine isTrue_or (aH (ha pins s σ H Q I h) λc s1 e=>?_);cases c with
 |false=>exact isTrue_or_nil e
 |true=>exact e
theorem AK(ha:PT X a tA)(hb:PW X (.BoolOp .And (b::rest) pos) FW):PW X (.BoolOp .And (a::b::rest) pos) (Ru tA FW):=by
 intro wh pins s σ H Q I h;refine isTrue_and (aH (ha pins s σ H _ I h) λc s1 ⟨H1,I1,q1⟩=>?_);cases c with
 |true=>exact hb wh pins s1 σ H1 Q I1 q1
 |false=>exact⟨H1,I1,q1⟩
theorem fg(ha:PT X a tA)(hb:PW X (.BoolOp .Or (b::rest) pos) FW):PW X (.BoolOp .Or (a::b::rest) pos) (TY tA FW):=by
 intro wh pins s σ H Q I h;refine isTrue_or (aH (ha pins s σ H _ I h) λc s1 ⟨H1,I1,q1⟩=>?_);cases c with
 |true=>exact⟨H1,I1,q1⟩
 |false=>exact hb wh pins s1 σ H1 Q I1 q1
theorem cq(ha:PT X a tA):PT X (.UnaryOp .Not a pos) (Rv tA):=by intro pins s σ H Q I h;exact isTrue_not (ha pins s σ H (λc H1=>Q (!c) H1) I h)
def NP(ta tb:TE):TE:=λσ H Q=>ta σ H λx H1=>∃c,x=.bl c/\if c=true then tb σ H1 Q else Q (.bl false) H1
def NQ(ta:TE):TE:=λσ H Q=>ta σ H λx H1=>∃c,x=.bl c/\Q (.bl (!c)) H1
theorem lV(h:PE X a t):PE X (.BoolOp op [a] pos) t:=λpins s σ H Q I hw=>BoolOp_one (h pins s σ H Q I hw)
theorem iT(ha:PE X a ta)(hb:PE X (.BoolOp .And (b::rest) pos) tb):PE X (.BoolOp .And (a::b::rest) pos) (NP ta tb):=by
 intro pins s σ H Q I h;refine BoolOp_and (aH (ha pins s σ H _ I h) λv s1 ⟨x,H1,I1,r1,q1⟩=>?_);obtain⟨c,rfl,q1⟩:=q1;cases r1;refine wpAny_truthy_bool ?_;cases c with
 |true=>exact hb pins s1 σ H1 Q I1 q1
 |false=>exact⟨.bl false,H1,I1,rfl,q1⟩
theorem JK(ha:PE X a ta):PE X (.UnaryOp .Not a pos) (NQ ta):=by intro pins s σ H Q I h;refine UnaryOp_ (aH (ha pins s σ H _ I h) λv s1 ⟨x,H1,I1,r1,q1⟩=>?_);obtain⟨c,rfl,q1⟩:=q1;cases r1;exact not_of (wpAny_truthy_bool ⟨.bl (!c),H1,I1,rfl,q1⟩)
def TZ(t:TT)(ta tb:TE):TE:=λσ H Q=>t σ H λc H1=>if c=true then ta σ H1 Q else tb σ H1 Q
theorem kG(hc:PT X c tA)(ha:PE X a ta)(hb:PE X b tb):PE X (.IfExp c a b pos) (TZ tA ta tb):=by
 intro pins s σ H Q I h;refine wpAny_IfExp (aH (hc pins s σ H _ I h) λd s1 ⟨H1,I1,q1⟩=>?_);cases d with
 |true=>exact ha pins s1 σ H1 Q I1 q1
 |false=>exact hb pins s1 σ H1 Q I1 q1
end
def aq(K:PySem.W.Frag)(H:Hp)(a:Addr)(xs:List V):Prop:=
 Rd H a (.lst xs) \/
  ∃(o:Obj) (its:Array Value) (n:Nat),K.lookup a=some o/\o.cls=.type "list" /\ o.dict=none/\o.data=.seq its n/\its.size<=sizeLine/\Vals xs its.toList
def aO(K:PySem.W.Frag)(H:Hp)(a:Addr)(xs:List V):Prop:=
 Rd H a (.tup xs) \/
  ∃(o:Obj) (its:Array Value) (n:Nat),K.lookup a=some o/\o.cls=.type "tuple" /\ o.data=.seq its n/\its.size<=sizeLine/\Vals xs its.toList
def Rw:Value->Option V
 |.none=>some .a8
 |.bool b=>some (.bl b)
 |.int i _=>some (.int i)
 |.str x _=>some (.str x)
 |.bytes b _=>some (.ju b)
 |.float b _=>some (.fR b)
 |.ref a=>some (.ref a)
 |.type n=>some (.ty n)
 |_=>none
theorem RelV.abs(r:RelV x u):Rw u=some x:=by
 cases x with
 |a8=>cases r;rfl
 |bl _=>cases r;rfl
 |int _=>obtain⟨t,rfl⟩:=r;rfl
 |str _=>obtain⟨t,rfl⟩:=r;rfl
 |ju _=>obtain⟨t,rfl⟩:=r;rfl
 |fR _=>obtain⟨t,rfl⟩:=r;rfl
 |ref _=>cases r;rfl
 |ty _=>cases r;rfl
theorem RelV.inj(r:RelV x u)(q:RelV y u):x=y:=ZH (r.abs.symm.trans q.abs)
theorem Vals.inj:∀{xs ys:List V} {us:List Value},Vals xs us->Vals ys us->xs=ys
 |_,_,_,.nil,.nil=>rfl
 |_,_,_,.cons r t,.cons r' t'=>by rw[r.inj r',Vals.inj t t']
section
theorem aq.of{K:PySem.W.Frag}(h:H a=some (.lst xs)):aq K H a xs:=.inl (.inl h)
theorem aO.of{K:PySem.W.Frag}(h:H a=some (.tup xs)):aO K H a xs:=.inl (.inl h)
theorem Inv.list(I:Inv X pins σ H s)(h:aq X.K H a xs):∃its:List Value,Vals xs its/\PlainL s.heap a its.toArray/\xs.length<=sizeLine:=by
 rcases h with h|⟨o,its,n,hk,hc,hd,hs,hz,r⟩
 ·obtain⟨z,its,n,r,e⟩:=h.ok I.aL;exact⟨its,r,⟨_,n,e,rfl,rfl,rfl⟩,z⟩
 ·refine⟨its.toList,r,⟨o,n,I.dW a o hk,hc,hd,by simpa using hs⟩,?_⟩;have e:=r.length;simp only[Z9] at e;omega
theorem Inv.tuple(I:Inv X pins σ H s)(h:aO X.K H a xs):∃its:List Value,Vals xs its/\IsTup s.heap a its.toArray/\xs.length<=sizeLine:=by
 rcases h with h|⟨o,its,n,hk,hc,hs,hz,r⟩
 ·obtain⟨z,its,r,p⟩:=h.ok I.aL;exact⟨its,r,p,z⟩
 ·refine⟨its.toList,r,⟨o,I.dW a o hk,hc,n,by simpa using hs⟩,?_⟩;have e:=r.length;simp only[Z9] at e;omega
theorem Inv.kH(I:Inv X pins σ H s)(h:aq X.K H a xs)(h':aq X.K H a ys):xs=ys:=by
 obtain⟨its,r,⟨o,n,e,_,_,d⟩,_⟩:=I.list h;obtain⟨its',r',⟨o',n',e',_,_,d'⟩,_⟩:=I.list h';rw[e] at e';cases e';rw[d] at d';injection d' with d1 _
 have:its=its':=by simpa using congrArg Array.toList d1
 subst this;exact r.inj r'
theorem Inv.lX(I:Inv X pins σ H s)(h:aO X.K H a xs)(h':aO X.K H a ys):xs=ys:=by
 obtain⟨its,r,⟨o,e,_,n,d⟩,_⟩:=I.tuple h;obtain⟨its',r',⟨o',e',_,n',d'⟩,_⟩:=I.tuple h';rw[e] at e';cases e';rw[d] at d';injection d' with d1 _
 have:its=its':=by simpa using congrArg Array.toList d1
 subst this;exact r.inj r'
end
abbrev Cx.jG(X:Cx)(E:Value->Shared->Prop):Cx:={X with xe:=E}
abbrev Cx.AL(X:Cx):Cx:=X.jG λ_ _=>False
theorem Cx.Ok.jG{X:Cx}(ok:X.Ok)(E:Value->Shared->Prop):(X.jG E).Ok:=
 ⟨ok.mod,ok.kind,ok.glob,ok.blt,ok.above,ok.inj,ok.has,ok.AH,ok.hd,ok.frames,ok.FU,ok.uu,ok.bs,ok.pz,ok.uv,ok.zb,ok.iy,ok.uw⟩
theorem Cx.Ok.gZ{X:Cx}{E:Value->Shared->Prop}(ok:(X.jG E).Ok):X.Ok:=
 ⟨ok.mod,ok.kind,ok.glob,ok.blt,ok.above,ok.inj,ok.has,ok.AH,ok.hd,ok.frames,ok.FU,ok.uu,ok.bs,ok.pz,ok.uv,ok.zb,ok.iy,ok.uw⟩
section
theorem Inv.jG(I:Inv X pins σ H s)(E:Value->Shared->Prop):Inv (X.jG E) pins σ H s:=⟨I.ok.jG E,I.os,I.bare,I.base,I.loc,I.cell,I.free,I.e9,I.pin,I.aL,I.len⟩
theorem Inv.gZ(I:Inv (X.jG E) pins σ H s):Inv X pins σ H s:=⟨I.ok.gZ,I.os,I.bare,I.base,I.loc,I.cell,I.free,I.e9,I.pin,I.aL,I.len⟩
theorem SP.gZ(h:SP (X.jG E) pins D f s'):SP X pins D f s':=by
 cases f with
 |next=>obtain⟨σ',H',I,q⟩:=h;exact⟨σ',H',I.gZ,q⟩
 |brk=>obtain⟨σ',H',I,q⟩:=h;exact⟨σ',H',I.gZ,q⟩
 |cont=>obtain⟨σ',H',I,q⟩:=h;exact⟨σ',H',I.gZ,q⟩
 |ret u=>obtain⟨v,σ',H',I,r,q⟩:=h;exact⟨v,σ',H',I.gZ,r,q⟩
theorem jP.AL{st:List Stmt}{t:TS}(h:jP X.AL st t):jP X st t:=λpins s σ H D I hw =>wpAny_mono (h pins s σ H D (I.jG _) hw) (λ_ _ q=>q.gZ) λ_ _ z=>False.elim z
end
section
variable {X:Cx}{st:Stmt}{rest:List Stmt}{t u:TS}{e:Expr}{te:TE}{pos:Pos}
def NR:TS:=λD σ H=>D.nx σ H
def JL(t u:TS):TS:=λD σ H=>t {D with nx:=u D} σ H
theorem bu:jP X [] NR:=λ_ _ σ H _ I h=>wpAny_execs_nil ⟨σ,H,I,h⟩
theorem ao(h1:PS X st t)(h2:jP X rest u):jP X (st::rest) (JL t u):=by
 intro pins s σ H D I h;refine afb (aH (h1 pins s σ H {D with nx:=u D} I h) λf s1 q=>?_);cases f with
 |next =>obtain⟨σ',H',I',q⟩:=q;exact h2 pins s1 σ' H' D I' q
 |ret v=>exact q
 |brk=>exact q
 |cont=>exact q
theorem au(h1:PS X st t):jP X [st] t:=by
 intro pins s σ H D I h;refine afb (aH (h1 pins s σ H D I h) λf s1 q=>?_);cases f with
 |next=>exact wpAny_execs_nil q
 |ret v=>exact q
 |brk=>exact q
 |cont=>exact q
theorem Inv.quiet(I:Inv X pins σ H s):interactive X.env=false:=by simp[interactive,I.ok.kind]
def NS(te:TE):TS:=λD σ H=>te σ H λ_ H1=>D.nx σ H1
theorem bw(he:PE X e te)(hs:swapsWith e none pos.line X.env=pure false:=by rfl):PS X (.Expr e pos) (NS te):=by intro pins s σ H D I h;exact wpAny_Expr_any (aH (he pins s σ H _ I h) λv s1 ⟨x,H1,I1,r1,q1⟩=>⟨σ,H1,I1,q1⟩) I.quiet hs
def Rx(te:TE):TS:=λD σ H=>te σ H D.rt
theorem aT(he:PE X e te):PS X (.Return (some e) pos) (Rx te):=by intro pins s σ H D I h;exact wpAny_Return_some (aH (he pins s σ H _ I h) λv s1 ⟨x,H1,I1,r1,q1⟩=>⟨x,σ,H1,I1,r1,q1⟩)
def Ry(c:TT)(t u:TS):TS:=λD σ H=>c σ H λb H1=>if b=true then t D σ H1 else u D σ H1
theorem bQ(hc:PT X c tc)(ha:jP X a t)(hb:jP X b u):PS X (.If c a b pos) (Ry tc t u):=by
 intro pins s σ H D I h;refine wpAny_If (aH (hc pins s σ H _ I h) λd s1 ⟨H1,I1,q1⟩=>?_);cases d with
 |true=>exact ha pins s1 σ H1 D I1 q1
 |false=>exact hb pins s1 σ H1 D I1 q1
def JM:TS:=λ_ _ _=>False
theorem fq:PS X st JM:=λ_ _ _ _ _ _ h=>h.elim
end
abbrev TG:=V->St->Hp->(St->Hp->Prop)->Prop
abbrev uA:=List V->St->Hp->(St->Hp->Prop)->Prop
def PG(X:Cx)(target:Expr)(t:TG):Prop:=
 ∀(pins:List (Addr×Obj)) (s:Shared) (σ:St) (H:Hp) (v:V) (u:Value) (Q:St->Hp->Prop),Inv X pins σ H s->RelV v u->t v σ H Q ->
  wpAny (model X.prog X.w) X.A (assign target X.env u) (λ_ s'=>∃σ' H',Inv X pins σ' H' s'/\Q σ' H') X.xe s
def FX(X:Cx)(ts:List Expr)(t:uA):Prop:=
 ∀(pins:List (Addr×Obj)) (s:Shared) (σ:St) (H:Hp) (vs:List V) (us:List Value) (Q:St->Hp->Prop),Inv X pins σ H s->Vals vs us->t vs σ H Q ->
  wpAny (model X.prog X.w) X.A (assignInOrder ((assignEach ts X.env).map (·.2)) us) (λ_ s'=>∃σ' H',Inv X pins σ' H' s'/\Q σ' H') X.xe s
abbrev JN:=V->V->V->Hp->(Hp->Prop)->Prop
def JO(X:Cx)(t:JN):Prop:=
 ∀(pins:List (Addr×Obj)) (s:Shared) (σ:St) (H:Hp) (o i v:V) (ov iv u:Value) (Q:Hp->Prop),Inv X pins σ H s->RelV o ov->RelV i iv->RelV v u->t o i v H Q ->
  wpAny (model X.prog X.w) X.A (setItem ov iv u) (λ_ s'=>∃H',Inv X pins σ H' s'/\Q H') X.xe s
section
def bj(i:Nat):TG:=λv σ H Q=>Q (σ.set i (some v)) H
theorem aE(hN:X.N.Nodup)(hi:X.N[i]?=some x)(hx:Loc X.env.scope x)(hf:X.fn x=true\/X.env.scope.names.lookup x=some .local:=by first|exact .inl rfl|exact .inr rfl|assumption):PG X (.Name x pos) (bj i):=by intro pins s σ H v u Q I r h;exact aeV (uz I hN hi hx r (λs' I'=>⟨_,H,I',h⟩) hf)
def qK:uA:=λvs σ H Q=>vs=[]/\Q σ H
def jv(t:TG)(u:uA):uA:=λvs σ H Q=>∃v r,vs=v::r/\t v σ H λσ' H'=>u r σ' H' Q
theorem cv:FX X [] qK:=by rintro pins s σ H vs us Q I r ⟨e,h⟩;subst e;cases r;exact assignInOrder_nil ⟨σ,H,I,h⟩
theorem aU(h1:PG X e t)(h2:FX X es u)
  (hs:(assignEach (e::es) X.env).map (·.2)=assign e X.env::(assignEach es X.env).map (·.2):=by rfl):FX X (e::es) (jv t u):=by
 rintro pins s σ H vs us Q I r ⟨v,vr,e1,h⟩;subst e1;cases r with
 |cons r rr =>rw[hs];refine assignInOrder_cons (aH (h1 pins s σ H _ _ _ I r h) λ_ s1 ⟨σ1,H1,I1,q1⟩=>?_);exact h2 pins s1 σ1 H1 _ _ Q I1 rr q1
def zc(K:PySem.W.Frag)(n:Nat)(t:uA):TG:=λv σ H Q=>∃a xs,v=.ref a/\aO K H a xs/\xs.length=n/\t xs σ H Q
theorem cU(hc:X.calm=true)(h:FX X es t)
  (hn:(assignEach es X.env).length=n:=by rfl) (hst:(assignEach es X.env).findIdx? (·.1)=none:=by rfl):PG X (.Tuple es k pos) (zc X.K n t):=by
 rintro pins s σ H v u Q I r ⟨a,xs,e1,hq,hl,hw⟩;subst e1;cases r;obtain⟨its,rv,ht,hz⟩:=I.tuple hq;refine assign_Tuple_tuple (I.ok.hd hc) ht (by simp[hn,<-hl,rv.length]) hst λh' hx=>?_;have I1:Inv X pins σ H {s with heap:=h' }:=I.kept (t':=s.toks) λb o e=>hx b o (ZQ (Zx e)) e;exact h pins _ σ H xs _ Q I1 (by simpa using rv) hw
def Rz(to ti:TE)(t:JN):TG:=λv σ H Q=>to σ H λo H1=>ti σ H1 λi H2=>t o i v H2 λH3=>Q σ H3
theorem AM(ho:PE X o to)(hi:PE X i ti)(hs:JO X t)
  (ha:∀v,assign (.Subscript o i pos) X.env v=(do
   let ov <-holding [v] (eval o X.env)
   let iv <-holding [v,ov] (eval i X.env)
   standAt pos
   holding [v,ov,iv] (setItem ov iv v)
   release [v,ov,iv] []):=by intro _;rfl):PG X (.Subscript o i pos) (Rz to ti t):=by
 intro pins s σ H v u Q I r h;rw[ha];refine wpAny_bind (wpAny_holding (aH (ho pins s σ H _ I h) λov s1 ⟨x,H1,I1,r1,q1⟩=>?_));refine wpAny_bind (wpAny_holding (aH (hi pins s1 σ H1 _ I1 q1) λiv s2 ⟨y,H2,I2,r2,q2⟩=>?_));refine wpAny_bind (wpAny_standAt (wpAny_bind (wpAny_holding (aH (hs pins s2 σ H2 x y v ov iv u _ I2 r1 r2 r q2) λ_ s3 ⟨H3,I3,q3⟩=>?_))));exact wpAny_release ⟨σ,H3,I3,q3⟩
def zd(te:TE)(g:TG):TS:=λD σ H=>te σ H λx H1=>g x σ H1 D.nx
theorem pC(he:PE X e te)(hg:PG X tg g)(hs:swapsWithSole [tg] e pos.line X.env=pure false:=by rfl)(hw:swappedStores [tg] e X.env=pure none:=by rfl)
  (h1:(assignEach [tg] X.env).map (·.2)=[assign tg X.env]:=by rfl):PS X (.Assign [tg] e pos) (zd te g):=by
 intro pins s σ H D I h;refine wpAny_Assign_stores (aH (he pins s σ H _ I h) λv s1 ⟨x,H1,I1,r1,q1⟩=>?_) hs hw;rw[h1];exact aH (hg pins s1 σ H1 x v _ I1 r1 q1) λ_ s2 q=>q
theorem aR(hN:X.N.Nodup)(hi:X.N[i]?=some x)(hx:Loc X.env.scope x)(he:PE X e te)(hs:swapsWith e (some (.Name x pos')) pos.line X.env=pure false:=by rfl)(hf:X.fn x=true\/X.env.scope.names.lookup x=some .local:=by first|exact .inl rfl|exact .inr rfl|assumption) :
  PS X (.Assign [.Name x pos'] e pos) (zd te (bj i)):=by
 intro pins s σ H D I h;refine wpAny_Assign_Name (aH (he pins s σ H _ I h) λv s1 ⟨y,H1,I1,r1,q1⟩=>?_) hs;exact uz I1 hN hi hx r1 (λs2 I2=>⟨_,H1,I2,q1⟩) hf
end
section
def JP(c:TT)(tb:TS):TS:=λD σ H=>∃W:Nat->St->Hp->Prop,(∃m,W m σ H)/\∀m σ H,W m σ H ->
 c σ H λb H1=>if b=true then ∃N:St->Hp->Prop,(∀σ' H',N σ' H'->∃m',m'<m/\W m' σ' H')/\tb {D with nx:=N,ct:=N,bk:=D.nx} σ H1 else D.nx σ H1
theorem om(hp:PassesOwn (model X.prog X.w) X.A X.env X.xe)(hc:PT X c tc)(hb:jP X body tb):PS X (.While c body [] pos) (JP tc tb):=by
 rintro pins s σ H D I ⟨W,⟨m0,w0⟩,turn⟩;refine wpAny_While (codeAny_whileLoop (λn s'=>∃σ' H',Inv X pins σ' H' s'/\W n σ' H') ?_ m0 ⟨σ,H,I,w0⟩);rintro n s1 ⟨σ1,H1,I1,w1⟩;refine abo hp (aH (hc pins s1 σ1 H1 _ I1 (turn n σ1 H1 w1)) λb s2 ⟨H2,I2,q2⟩=>?_);cases b with
 |true=>
  obtain⟨N,hN,q2⟩:=q2;rw[if_pos rfl];refine abo hp (aH (hb pins s2 σ1 H2 _ I2 q2) λf s3 q3=>?_);cases f with
  |next =>obtain⟨σ3,H3,I3,n3⟩:=q3;obtain⟨m',hm,w3⟩:=hN σ3 H3 n3;exact⟨m',hm,σ3,H3,I3,w3⟩
  |cont =>obtain⟨σ3,H3,I3,n3⟩:=q3;obtain⟨m',hm,w3⟩:=hN σ3 H3 n3;exact⟨m',hm,σ3,H3,I3,w3⟩
  |brk=>exact q3
  |ret v=>exact q3
 |false =>rw[if_neg ZM];exact wpAny_execs_nil ⟨σ1,H2,I2,q2⟩
end
structure It where
 go:Nat->Hp->Prop
 jw:Nat->Hp->V->Hp->Prop
 stop:Nat->Hp->Prop
def c5(X:Cx)(pins:List (Addr×Obj))(H:Hp)(b:Addr):Prop:=
 H b=none/\b≠X.env.locals/\b∉X.fs/\(b∈X.ex\/X.s₀.heap.objs.size<=b)/\(∀x c,X.env.cells.lookup x=some c->c≠b)/\∀p∈X.pn++pins,p.1≠b
theorem Inv.oq(I:Inv X pins σ H s)(hb:s.heap.objs.size<=b)(hn:H' b=none):c5 X pins H' b:=by
 refine⟨hn,acK (Z8 I.lt hb),I.qI hb,.inr (Zu I.sz hb),λx c e z=>?_,λp hp z=>?_⟩
 ·obtain⟨v,q⟩:=I.cell x c e;exact absurd (Z8 q.lt (by rw[z];exact hb)) (ZX _)
 ·exact absurd (Z8 (Zx (I.pin p hp).1) (by rw[z];exact hb)) (ZX _)
structure Turn(P:Program)(w:World)(K:PySem.W.Frag)(tg:Expr)(J:It)(fp:List Addr)(it:Addr)(tn:Nat->Heap->Prop):Prop where
 mem:it∈fp
 obj:∀i h,tn i h->∀b∈fp,∃o,h.get? b=some o/\∀v,o.data≠.cell v
 keep:∀i h h',tn i h->(∀b∈fp,∀o,h.get? b=some o->h'.get? b=some o)->tn i h'
 item:∀(X:Cx),X.prog=P->X.w=w->X.K=K->X.calm=true->∀(i:Nat) (pins:List (Addr×Obj)) (s:Shared) (σ:St) (H:Hp) (E:Value->Shared->Prop),Inv X pins σ H s->(∀b∈fp,c5 X pins H b)->tn i s.heap->J.go i H ->
  wpAny (model P w) X.A (pyNext (.ref it)) (λr s1=>∃u,r=some u /\
   wpAny (model P w) X.A (letOwnedTupleGo tg (.ref it) u) (λ_ s2=>∃x H',Inv X pins σ H' s2/\RelV x u/\J.jw i H x H'/\tn (i+1) s2.heap/\∀b∈fp,H' b=none) E s1) E s
 done:∀(X:Cx),X.prog=P->X.w=w->X.K=K->X.calm=true->∀(i:Nat) (pins:List (Addr×Obj)) (s:Shared) (σ:St) (H:Hp) (E:Value->Shared->Prop),Inv X pins σ H s->(∀b∈fp,c5 X pins H b)->tn i s.heap->J.stop i H ->
  wpAny (model P w) X.A (pyNext (.ref it)) (λr s1=>r=none/\Inv X pins σ H s1) E s
 self:∀(A:Around) (i:Nat) (s:Shared) (Q:Value->Shared->Prop) (E:Value->Shared->Prop),tn i s.heap->Q (.ref it) s->wpAny (model P w) A (pyIter (.ref it)) Q E s
abbrev TI:=St->Hp->(It->Hp->Prop)->Prop
def JQ(X:Cx)(pins:List (Addr×Obj))(σ:St)(tg:Expr)(R:It->Hp->Prop)(itv:Value)(s2:Shared):Prop:=
 ∃(it:Addr) (fp:List Addr) (tn:Nat->Heap->Prop) (J:It) (H':Hp),itv=.ref it/\Inv X pins σ H' s2/\Turn X.prog X.w X.K tg J fp it tn/\tn 0 s2.heap/\(∀b∈fp,c5 X pins H' b)/\R J H'
def PI(X:Cx)(tg iter:Expr)(wi:TI):Prop:=
 ∀(pins:List (Addr×Obj)) (s:Shared) (σ:St) (H:Hp) (R:It->Hp->Prop),Inv X pins σ H s->wi σ H R ->
  wpAny (model X.prog X.w) X.A (eval iter X.env) (λv s1=>wpAny (model X.prog X.w) X.A (pyIter v) (JQ X pins σ tg R) X.xe s1) X.xe s
theorem ze(ho:s.heap.get? it=some o)(hc:o.cls=.type n)(hd:o.data=.fields vs)
  (hn:["enumerate","zip","dict_itemiterator","dict_reverseitemiterator","odict_iterator","itertools.zip_longest","itertools.pairwise"].contains n=false) (hQ:Q () s):wpAny M A (letOwnedTupleGo tg (.ref it) u) Q E s:=by
 unfold letOwnedTupleGo;cases tg<;>first
  |exact wpAny_pure hQ
  |(cases u<;>first
    |exact wpAny_pure hQ
    |(refine wpAny_bind (wpAny_load ho ?_);rw[hc,hd];show wpAny M A (if (["enumerate","zip","dict_itemiterator","dict_reverseitemiterator","odict_iterator","itertools.zip_longest","itertools.pairwise"].contains n&&vs[0]?==some (rawInt _))=true then _ else _) Q E s;rw[if_neg (by intro h;rw[hn,ac2] at h;cases h)];exact wpAny_pure hQ))
def lF(K:PySem.W.Frag)(a:Addr):It:=
 ⟨λi H=>∃xs x,aq K H a xs/\xs[i]?=some x,λi H x H'=>H'=H/\∀xs,aq K H a xs->xs[i]?=some x,λi H=>∃xs,aq K H a xs/\xs.length<=i⟩
def uB(K:PySem.W.Frag)(a:Addr):It:=
 ⟨λi H=>∃xs x,aO K H a xs/\xs[i]?=some x,λi H x H'=>H'=H/\∀xs,aO K H a xs->xs[i]?=some x,λi H=>∃xs,aO K H a xs/\xs.length<=i⟩
def uC(lo:Int)(n:Nat):It:=⟨λi _=>i<n,λi H x H'=>H'=H/\x=.int (lo+i),λi _=>n<=i⟩
theorem AN{P:Program}{w:World}{K:PySem.W.Frag}{tg:Expr}(a it:Addr):Turn P w K tg (lF K a) [it] it (λi h=>h.IsListIter it a i) where
 mem:=by simp
 obj:=λi h st b hb=>by
  have e:b=it:=by simpa using hb
  subst e;obtain⟨o,e,c,d⟩:=st;exact⟨o,e,λv z=>by rw[d] at z;cases z⟩
 keep:=λi h h' st k=>st.at λo e=>k it (by simp) o e
 item:=by intro X hP hw hK hc i pins s σ H E I hf st hg;subst hP hw hK;obtain⟨xs,x,hq,hx⟩:=hg;obtain⟨its,rv,p,hz⟩:=I.list hq;obtain⟨u,hu,ru⟩:=rv.get hx;obtain⟨f0,f1,f2,f3,f4,f5⟩:=hf it (by simp);refine wpAny_pyNext_list_item st p.isList (x:=u) (by simpa using hu) λh' cV sb=>?_;have I1:Inv X pins σ H {s with heap:=h' }:=I.turned (t':=s.toks) (λb o hb e=>(sb.2 b hb).trans e) f0 f1 f3 f4 f5;obtain⟨o,e,c,d⟩:=id cV;exact⟨u,rfl,ze (s:={s with heap:=h' }) e c d (by decide) ⟨x,H,I1,ru,⟨rfl,λys hy=>by rw[I.kH hy hq];exact hx⟩,cV,λb hb=>(hf b hb).1⟩⟩
 done:=by intro X hP hw hK hc i pins s σ H E I hf st hg;subst hP hw hK;obtain⟨xs,hq,hx⟩:=hg;obtain⟨its,rv,p,hz⟩:=I.list hq;obtain⟨f0,f1,f2,f3,f4,f5⟩:=hf it (by simp);have hl:=rv.length;exact wpAny_pyNext_list_end (I.ok.hd hc) st p.isList (by simp;omega) λh' eb=>⟨rfl,I.turned (t':=s.toks) (λb o hb e=>eb b o hb e) f0 f1 f3 f4 f5⟩
 self:=λ_ _ _ _ _ st h=>wpAny_pyIter_listiter st h
theorem zf{P:Program}{w:World}{K:PySem.W.Frag}{tg:Expr}(a it:Addr):Turn P w K tg (uB K a) [it] it (λi h=>h.IsTupleIter it a i) where
 mem:=by simp
 obj:=λi h st b hb=>by
  have e:b=it:=by simpa using hb
  subst e;obtain⟨o,e,c,d⟩:=st;exact⟨o,e,λv z=>by rw[d] at z;cases z⟩
 keep:=λi h h' st k=>st.at λo e=>k it (by simp) o e
 item:=by intro X hP hw hK hc i pins s σ H E I hf st hg;subst hP hw hK;obtain⟨xs,x,hq,hx⟩:=hg;obtain⟨its,rv,p,hz⟩:=I.tuple hq;obtain⟨u,hu,ru⟩:=rv.get hx;obtain⟨f0,f1,f2,f3,f4,f5⟩:=hf it (by simp);refine wpAny_pyNext_tuple_item st (show s.heap.IsTuple a its.toArray from p) (x:=u) (by simpa using hu) λh' cV sb=>?_;have I1:Inv X pins σ H {s with heap:=h' }:=I.turned (t':=s.toks) (λb o hb e=>(sb.2 b hb).trans e) f0 f1 f3 f4 f5;obtain⟨o,e,c,d⟩:=id cV;exact⟨u,rfl,ze (s:={s with heap:=h' }) e c d (by decide) ⟨x,H,I1,ru,⟨rfl,λys hy=>by rw[I.lX hy hq];exact hx⟩,cV,λb hb=>(hf b hb).1⟩⟩
 done:=by intro X hP hw hK hc i pins s σ H E I hf st hg;subst hP hw hK;obtain⟨xs,hq,hx⟩:=hg;obtain⟨its,rv,p,hz⟩:=I.tuple hq;obtain⟨f0,f1,f2,f3,f4,f5⟩:=hf it (by simp);have hl:=rv.length;exact wpAny_pyNext_tuple_end (I.ok.hd hc) st (show s.heap.IsTuple a its.toArray from p) (by simp;omega) λh' eb=>⟨rfl,I.turned (t':=s.toks) (λb o hb e=>eb b o hb e) f0 f1 f3 f4 f5⟩
 self:=λ_ _ _ _ _ st h=>wpAny_pyIter_tupleiter st h
theorem zg{P:Program}{w:World}{K:PySem.W.Frag}{tg:Expr}(it:Addr)(lo:Int)(n:Nat):Turn P w K tg (uC lo n) [it] it (λi h=>IsRangeIter h it (lo+(i:Nat)*1) ((n:Int)-(i:Nat)) 1) where
 mem:=by simp
 obj:=λi h st b hb=>by
  have e:b=it:=by simpa using hb
  subst e;exact⟨_,st,λv z=>by have z':Data.fields _=Data.cell v:=z;cases z'⟩
 keep:=λi h h' st k=>k it (by simp) _ st
 item:=by intro X hP hw hK hc i pins s σ H E I hf st hg;subst hP hw hK;obtain⟨f0,f1,f2,f3,f4,f5⟩:=hf it (by simp);have W:=Walks.range (prog:=X.prog) (w:=X.w) (I.ok.hd hc) it lo 1 n;refine W.item i s _ _ hg st λv h' tk hv cV kk=>?_;obtain⟨t,rfl⟩:=hv;have I1:Inv X pins σ H {s with heap:=h',toks:=tk}:=I.turned (λb o hb e=>kk b o (by simpa using hb) e) f0 f1 f3 f4 f5;refine⟨_,rfl,ze (s:={s with heap:=h',toks:=tk}) (n:="range_iterator") cV rfl rfl (by decide) ⟨.int (lo+i),H,I1,⟨t,?_⟩,⟨rfl,rfl⟩,cV,λb hb=>(hf b hb).1⟩⟩;rw[Int.mul_one]
 done:=by intro X hP hw hK hc i pins s σ H E I hf st hg;subst hP hw hK;obtain⟨f0,f1,f2,f3,f4,f5⟩:=hf it (by simp);exact wpAny_pyNext_range_end (I.ok.hd hc) st (by have:n<=i:=hg;omega) λh' eb=>⟨rfl,I.turned (t':=s.toks) (λb o hb e=>eb b o hb e) f0 f1 f3 f4 f5⟩
 self:=λ_ _ _ _ _ st h=>wpAny_pyIter_rangeiter st h
section
def NT(K:PySem.W.Frag)(tl:TE):TI:=λσ H R=>tl σ H λx H1=>∃a,x=.ref a/\(∃xs,aq K H1 a xs)/\R (lF K a) H1
def JR(K:PySem.W.Frag)(tl:TE):TI:=λσ H R=>tl σ H λx H1=>∃a,x=.ref a/\(∃xs,aO K H1 a xs)/\R (uB K a) H1
theorem bo{l:Expr}(hl:PE X l tl):PI X tg l (NT X.K tl):=by
 intro pins s σ H R I h;refine aH (hl pins s σ H _ I h) λv s1 ⟨x,H1,I1,r1,q1⟩=>?_;obtain⟨a,e,⟨xs,hq⟩,q⟩:=q1;subst e;cases r1;obtain⟨its,rv,p,hz⟩:=I1.list hq;refine wpAny_pyIter_list p.isList ?_;refine⟨s1.heap.objs.size,[s1.heap.objs.size],_,_,H1,rfl,I1.kept (t':=s1.toks) λb o e=>Zl _ e,AN a _,⟨_,Zw _ rfl,rfl,rfl⟩,λb hb=>?_,q⟩;have e:b=s1.heap.objs.size:=by simpa using hb
 subst e;exact I1.oq (Zn _) (I1.aL.fresh (Zn _))
theorem pE{l:Expr}(hl:PE X l tl):PI X tg l (JR X.K tl):=by
 intro pins s σ H R I h;refine aH (hl pins s σ H _ I h) λv s1 ⟨x,H1,I1,r1,q1⟩=>?_;obtain⟨a,e,⟨xs,hq⟩,q⟩:=q1;subst e;cases r1;obtain⟨its,rv,p,hz⟩:=I1.tuple hq;refine wpAny_pyIter_tuple (show s1.heap.IsTuple a its.toArray from p) ?_;refine⟨s1.heap.objs.size,[s1.heap.objs.size],_,_,H1,rfl,I1.kept (t':=s1.toks) λb o e=>Zl _ e,zf a _,⟨_,Zw _ rfl,rfl,rfl⟩,λb hb=>?_,q⟩;have e:b=s1.heap.objs.size:=by simpa using hb
 subst e;exact I1.oq (Zn _) (I1.aL.fresh (Zn _))
theorem Dq{pins:List (Addr×Obj)}{σ:St}{H:Hp}{s:Shared}{R:It->Hp->Prop}{E:Value->Shared->Prop}{lo hi:Int}{t u v:Tok}{tk:Nat}(I:Inv X pins σ H s)(h1:-(2 ^ 62)<=lo)(h2:lo<2 ^ 62)(h3:-(2 ^ 62)<=hi)(h4:hi<2 ^ 62)
  (q:R (uC lo (hi-lo).toNat) H):wpAny (model X.prog X.w) X.A (pyIter (.ref s.heap.objs.size)) (JQ X pins σ tg R) E {s with heap:=s.heap.push {cls:=.type "range",data:=.fields #[.int lo t,.int hi u,.int 1 v]},toks:=tk}:=by
 refine wpAny_pyIter_range (IsRange.new ..) (small_one h1 h2 h3 h4) ?_;have I1:Inv X pins σ H {s with heap:=s.heap.push {cls:=.type "range",data:=.fields #[.int lo t,.int hi u,.int 1 v]},toks:=tk}:=I.kept λb o e=>Zl _ e;refine⟨(s.heap.push {cls:=.type "range",data:=.fields #[.int lo t,.int hi u,.int 1 v]}).objs.size,[(s.heap.push {cls:=.type "range",data:=.fields #[.int lo t,.int hi u,.int 1 v]}).objs.size],_,_,H,rfl,
  I1.kept (t':=tk) λb o e=>Zl _ e,zg _ lo (hi-lo).toNat,?_,λb hb=>?_,q⟩
 ·have e1:lo+((0:Nat):Int)*1=lo:=by simp
  have e2:(((hi-lo).toNat:Nat):Int)-((0:Nat):Int)=Builtin.Range.rangeSize lo hi 1:=by rw[rangeSize_one];split<;>omega
  show IsRangeIter _ _ (lo+((0:Nat):Int)*1) ((((hi-lo).toNat:Nat):Int)-((0:Nat):Int)) 1
  rw[e1,e2];exact Zw _ rfl
 ·have e:b=(s.heap.push {cls:=.type "range",data:=.fields #[.int lo t,.int hi u,.int 1 v]}).objs.size:=by simpa using hb
  subst e;exact I1.oq (Zn _) (I1.aL.fresh (Zn _))
def NU(ta:TA):TI:=λσ H R=>ta σ H λvs H1=>∃j:Int,vs=[.int j]/\-(2 ^ 62)<=j/\j<2 ^ 62/\R (uC 0 j.toNat) H1
theorem fX{a:Expr}{ta:TA}{p pos:Pos}(hg:Gl X "range")(hm:X.mg "range" = none)(ha:PA X [a] ta)(hs:starEach [a] X.env=[(false,eval a X.env)]:=by rfl):PI X tg (.Call (.Name "range" p) [a] [] pos) (NU ta):=by
 intro pins s σ H R I h;refine Call_ (gu I hg hm boot_range (aaM (aH (ha pos pins s σ H _ I h) λus s1 ⟨vs,H1,I1,r1,q1⟩=>?_) hs rfl));obtain⟨j,e,q1,q2,q⟩:=q1;subst e;cases r1 with
 |cons r rr =>cases rr;obtain⟨t,rfl⟩:=r;exact call_range_1 (Dq I1 (by omega) (by omega) q1 q2 (by simpa using q))
def RA(wi:TI)(g:TG)(tb:TS):TS:=λD σ H=>wi σ H λJ H1=>∃W:Nat->Nat->St->Hp->Prop,(∃m,W 0 m σ H1)/\∀i m σ H,W i m σ H ->
 (J.stop i H/\D.nx σ H)\/(J.go i H/\∃N:St->Hp->Prop,(∀σ' H',N σ' H'->∃m',m'<m/\W (i+1) m' σ' H')/\∀x H',J.jw i H x H'->g x σ H' λσ2 H2=>tb {D with nx:=N,ct:=N,bk:=D.nx} σ2 H2)
def cb(fp:List Addr)(h:Heap):List (Addr×Obj):=fp.filterMap λb=>(h.get? b).map λo=>(b,o)
theorem bM(hb:b∈fp)(e:h.get? b=some o):(b,o)∈cb fp h:=ac6.mpr ⟨b,hb,by rw[e];rfl⟩
theorem rT(hp:p∈cb fp h):p.1∈fp/\h.get? p.1=some p.2:=by
 obtain⟨b,hb,e⟩:=ac6.mp hp;cases q:h.get? b with
 |none=>rw[q] at e;cases e
 |some o =>rw[q] at e;have e':(b,o)=p:=ZH e;subst e';exact⟨hb,q⟩
theorem Inv.pinned(I:Inv X pins σ H s)(hf:∀b∈fp,c5 X pins H b)(ho:∀b∈fp,∃o,s.heap.get? b=some o/\∀v,o.data≠.cell v):Inv X (pins++cb fp s.heap) σ H s:=
 I.bG λp hp=>(Zv.mp hp).elim (λz=>I.pin p (Zm _ z)) λz=>by obtain⟨hb,e⟩:=rT z;obtain⟨f0,f1,f2,_⟩:=hf p.1 hb;obtain⟨o,e',d⟩:=ho p.1 hb;rw[e] at e';cases e';exact⟨e,f0,f1,f2,d⟩
theorem Inv.ou(I:Inv X (pins++pl) σ H s):Inv X pins σ H s:=I.bG λp hp=>I.pin p (Zm _ (ZN _ hp))
theorem cH(hp:PassesOwn (model X.prog X.w) X.A X.env X.xe)(hc:X.calm=true)(hi:PI X tg iter wi)(hg:PG X tg g)(hb:jP X body tb)
  (hs:∀x,foldedSetIterable iter X.env x=pure x:=by intro _;rfl):PS X (.For tg iter body [] pos) (RA wi g tb):=by
 intro pins s σ H D I h;refine wpAny_For (aH (hi pins s σ H _ I h) λv s1 h1=>aH h1 λitv s2 h2=>?_) hs;obtain⟨it,fp,tn,J,H2,e,I2,T,st2,f2,W,⟨m0,w0⟩,turn⟩:=h2;subst e;have stat:∀{H':Hp},(∀b∈fp,H' b=none)->∀b∈fp,c5 X pins H' b:=λhn b hb=>⟨hn b hb,(f2 b hb).2⟩
 refine codeAny_forLoop_any (λn s'=>∃i σ' H',Inv X pins σ' H' s'/\tn i s'.heap/\(∀b∈fp,H' b=none)/\W i n σ' H') ?_ m0 ⟨0,σ,H2,I2,st2,λb hb=>(f2 b hb).1,w0⟩;rintro n s3 ⟨i,σ3,H3,I3,hG,Pf,w3⟩;rcases turn i n σ3 H3 w3 with⟨stop,qn⟩|⟨go,N,hN,step⟩
 ·refine abo hp (aH (T.done X rfl rfl rfl hc i pins s3 σ3 H3 X.xe I3 (stat Pf) hG stop) λr s4 ⟨hr,I4⟩=>?_);subst hr;exact wpAny_execs_nil ⟨σ3,H3,I4,qn⟩
 ·refine abo hp (aH (T.item X rfl rfl rfl hc i pins s3 σ3 H3 X.xe I3 (stat Pf) hG go) λr s4 ⟨u,hr,h4⟩=>?_);subst hr;refine abo hp (aH h4 λ_ s5 ⟨x,H5,I5,r5,y5,st5,jQ⟩=>?_);have T4:=I5.pinned (stat jQ) (T.obj _ _ st5);refine abo hp (aH (hg _ s5 σ3 H5 x u _ T4 r5 (step x H5 y5)) λ_ s6 ⟨σ6,H6,I6,q6⟩=>?_);refine abo hp (aH (hb _ s6 σ6 H6 _ I6 q6) λf s7 q7=>?_);have again:∀{σ7:St} {H7:Hp},Inv X (pins++cb fp s5.heap) σ7 H7 s7->N σ7 H7->∃m,m<n/\∃i σ' H',Inv X pins σ' H' s7/\tn i s7.heap/\(∀b∈fp,H' b=none)/\W i m σ' H':=λ{σ7 H7} I7 n7=>by obtain⟨m',hm,w7⟩:=hN σ7 H7 n7;refine⟨m',hm,i+1,σ7,H7,I7.ou,T.keep _ _ _ st5 λb hb o e=>(I7.pin (b,o) (Zm _ (Zm _ (bM hb e)))).1,λb hb=>?_,w7⟩;obtain⟨o,e,d⟩:=T.obj _ _ st5 b hb;exact(I7.pin (b,o) (Zm _ (Zm _ (bM hb e)))).2.1
  cases f with
  |next=>obtain⟨σ7,H7,I7,n7⟩:=q7;exact again I7 n7
  |cont=>obtain⟨σ7,H7,I7,n7⟩:=q7;exact again I7 n7
  |brk=>obtain⟨σ7,H7,I7,q7⟩:=q7;exact⟨σ7,H7,I7.ou,q7⟩
  |ret v=>obtain⟨x7,σ7,H7,I7,r7,q7⟩:=q7;exact⟨x7,σ7,H7,I7.ou,r7,q7⟩
end
theorem dk{K:PySem.W.Frag}{a:Addr}{xs:List V}{g:TG}{tb:TS}{D:Ends}{σ:St}{H:Hp}(Pv:Nat->St->Hp->Prop)(h0:Pv 0 σ H)(hl:∀i σ H,i<=xs.length->Pv i σ H->aq K H a xs)
  (hs:∀i x σ H,xs[i]?=some x->Pv i σ H->g x σ H λσ2 H2=>tb {D with nx:=Pv (i+1),ct:=Pv (i+1),bk:=D.nx} σ2 H2) (hd:∀σ H,Pv xs.length σ H->D.nx σ H) :
  ∃W:Nat->Nat->St->Hp->Prop,(∃m,W 0 m σ H)/\∀i m σ H,W i m σ H ->
   ((lF K a).stop i H/\D.nx σ H)\/((lF K a).go i H/\∃N:St->Hp->Prop,(∀σ' H',N σ' H'->∃m',m'<m/\W (i+1) m' σ' H')/\∀x H',(lF K a).jw i H x H'->g x σ H' λσ2 H2=>tb {D with nx:=N,ct:=N,bk:=D.nx} σ2 H2):=by
 refine⟨λi m σ H=>m=xs.length-i/\i<=xs.length/\Pv i σ H,⟨xs.length,by simp,ZE _,h0⟩,?_⟩;rintro i m σ H ⟨rfl,hi,p⟩;have q:=hl i σ H hi p;by_cases hlt:i<xs.length
 ·refine .inr ⟨⟨xs,xs[i],q,by simp[hlt]⟩,Pv (i+1),λσ' H' p'=>⟨xs.length-(i+1),by omega,rfl,hlt,p'⟩,λx H' y=>?_⟩;obtain⟨e,y⟩:=y;subst e;exact hs i x σ _ (y xs q) p
 ·have e:i=xs.length:=by omega
  subst e;exact .inl ⟨⟨xs,q,Zn _⟩,hd σ H p⟩
theorem HC{K:PySem.W.Frag}{a:Addr}{xs:List V}{g:TG}{tb:TS}{D:Ends}{σ:St}{H:Hp}(Pv:Nat->St->Hp->Prop)(h0:Pv 0 σ H)(hl:∀i σ H,i<=xs.length->Pv i σ H->aO K H a xs)
  (hs:∀i x σ H,xs[i]?=some x->Pv i σ H->g x σ H λσ2 H2=>tb {D with nx:=Pv (i+1),ct:=Pv (i+1),bk:=D.nx} σ2 H2) (hd:∀σ H,Pv xs.length σ H->D.nx σ H) :
  ∃W:Nat->Nat->St->Hp->Prop,(∃m,W 0 m σ H)/\∀i m σ H,W i m σ H ->
   ((uB K a).stop i H/\D.nx σ H)\/((uB K a).go i H/\∃N:St->Hp->Prop,(∀σ' H',N σ' H'->∃m',m'<m/\W (i+1) m' σ' H')/\∀x H',(uB K a).jw i H x H'->g x σ H' λσ2 H2=>tb {D with nx:=N,ct:=N,bk:=D.nx} σ2 H2):=by
 refine⟨λi m σ H=>m=xs.length-i/\i<=xs.length/\Pv i σ H,⟨xs.length,by simp,ZE _,h0⟩,?_⟩;rintro i m σ H ⟨rfl,hi,p⟩;have q:=hl i σ H hi p;by_cases hlt:i<xs.length
 ·refine .inr ⟨⟨xs,xs[i],q,by simp[hlt]⟩,Pv (i+1),λσ' H' p'=>⟨xs.length-(i+1),by omega,rfl,hlt,p'⟩,λx H' y=>?_⟩;obtain⟨e,y⟩:=y;subst e;exact hs i x σ _ (y xs q) p
 ·have e:i=xs.length:=by omega
  subst e;exact .inl ⟨⟨xs,q,Zn _⟩,hd σ H p⟩
theorem jx{lo:Int}{n:Nat}{g:TG}{tb:TS}{D:Ends}{σ:St}{H:Hp}(Pv:Nat->St->Hp->Prop)(h0:Pv 0 σ H)
  (hs:∀i σ H,i<n->Pv i σ H->g (.int (lo+i)) σ H λσ2 H2=>tb {D with nx:=Pv (i+1),ct:=Pv (i+1),bk:=D.nx} σ2 H2) (hd:∀σ H,Pv n σ H->D.nx σ H) :
  ∃W:Nat->Nat->St->Hp->Prop,(∃m,W 0 m σ H)/\∀i m σ H,W i m σ H ->
   ((uC lo n).stop i H/\D.nx σ H)\/((uC lo n).go i H/\∃N:St->Hp->Prop,(∀σ' H',N σ' H'->∃m',m'<m/\W (i+1) m' σ' H')/\∀x H',(uC lo n).jw i H x H'->g x σ H' λσ2 H2=>tb {D with nx:=N,ct:=N,bk:=D.nx} σ2 H2):=by
 refine⟨λi m σ H=>m=n-i/\i<=n/\Pv i σ H,⟨n,by simp,ZE _,h0⟩,?_⟩;rintro i m σ H ⟨rfl,hi,p⟩;by_cases hlt:i<n
 ·refine .inr ⟨hlt,Pv (i+1),λσ' H' p'=>⟨n-(i+1),by omega,rfl,hlt,p'⟩,λx H' y=>?_⟩;obtain⟨e,y⟩:=y;subst e y;exact hs i σ _ hlt p
 ·have e:i=n:=by omega
  subst e;exact .inl ⟨Zn _,hd σ H p⟩
abbrev R2:=V->V->Hp->VK->Prop
def cL(X:Cx)(f:Value->Value->Sem Value)(r:R2):Prop:=
 ∀(pins:List (Addr×Obj)) (s:Shared) (σ:St) (H:Hp) (x y:V) (v u:Value) (Q:VK),Inv X pins σ H s->RelV x v->RelV y u->r x y H Q ->
  wpAny (model X.prog X.w) X.A (f v u) (EP X pins σ Q) X.xe s
def JS(X:Cx)(f:Value->Sem Value)(r:V->Hp->VK->Prop):Prop:=
 ∀(pins:List (Addr×Obj)) (s:Shared) (σ:St) (H:Hp) (x:V) (v:Value) (Q:VK),Inv X pins σ H s->RelV x v->r x H Q ->
  wpAny (model X.prog X.w) X.A (f v) (EP X pins σ Q) X.xe s
def cG(X:Cx)(f:Value)(r:List V->Hp->VK->Prop):Prop:=
 ∀(pins:List (Addr×Obj)) (s:Shared) (σ:St) (H:Hp) (xs:List V) (us:List Value) (Q:VK),Inv X pins σ H s->Vals xs us->r xs H Q ->
  wpAny (model X.prog X.w) X.A (call f us) (EP X pins σ Q) X.xe s
def JT(X:Cx)(r:V->Hp->(Bool->Hp->Prop)->Prop):Prop:=
 ∀(pins:List (Addr×Obj)) (s:Shared) (σ:St) (H:Hp) (x:V) (v:Value) (Q:Bool->Hp->Prop),Inv X pins σ H s->RelV x v->r x H Q ->
  wpAny (model X.prog X.w) X.A (truthy v) (TP X pins σ Q) X.xe s
def pG(r:R2)(ta tb:TE):TE:=λσ H Q=>ta σ H λx H1=>tb σ H1 λy H2=>r x y H2 Q
def T5(r:V->Hp->VK->Prop)(ta:TE):TE:=λσ H Q=>ta σ H λx H1=>r x H1 Q
def rI(C:Int->Int->Prop)(g:Int->Int->V):R2:=λx y H Q=>∃i j,x=.int i/\y=.int j/\C i j/\Q (g i j) H
def rV(g:Int->Int->V):R2:=λx y H Q=>∃i j,x=.int i/\y=.int j/\Q (g i j) H
def rU(g:Int->V):V->Hp->VK->Prop:=λx H Q=>∃i,x=.int i/\Q (g i) H
section
theorem Ds(ha:PE X a ta)(hb:PE X b tb){pins:List (Addr×Obj)}{R:V->V->Hp->Prop}(I:Inv X pins σ H s)
  (h:ta σ H λx H1=>tb σ H1 λy H2=>R x y H2) {Q:Value->Shared->Prop} {f:Value->Value->Sem Value}
  (hf:∀v u s2 x y H2,Inv X pins σ H2 s2->RelV x v->RelV y u->R x y H2->wpAny (model X.prog X.w) X.A (f v u) Q X.xe s2) :
  wpAny (model X.prog X.w) X.A (eval a X.env) (λv s₁=>wpAny (model X.prog X.w) X.A (eval b X.env) (λu s₂=>wpAny (model X.prog X.w) X.A (f v u) Q X.xe s₂) X.xe s₁) X.xe s:=by
 refine aH (ha pins s σ H _ I h) λv s1 ⟨x,H1,I1,r1,q1⟩=>?_;refine aH (hb pins s1 σ H1 _ I1 q1) λu s2 ⟨y,H2,I2,r2,q2⟩=>?_;exact hf v u s2 x y H2 I2 r1 r2 q2
theorem bc{op:Operator}{r:R2}(ho:cL X (binaryOp op) r)(ha:PE X a ta)(hb:PE X b tb):PE X (.BinOp a op b pos) (pG r ta tb):=by intro pins s σ H Q I h;exact wpAny_BinOp (Ds ha hb I h λv u s2 x y H2 I2 rx ry q=>ho pins s2 σ H2 x y v u Q I2 rx ry q)
theorem NV(ho:JS X (unaryOp op) r)(ha:PE X a ta):PE X (.UnaryOp op a pos) (T5 r ta):=by intro pins s σ H Q I h;exact UnaryOp_ (aH (ha pins s σ H _ I h) λv s1 ⟨x,H1,I1,r1,q1⟩=>ho pins s1 σ H1 x v Q I1 r1 q1)
theorem FY{f:Value->Value->Sem Value}{C:Int->Int->Prop}{g:Int->Int->Int}
  (rule:∀(i j:Int) (t u:Tok) (s:Shared) (Q:Value->Shared->Prop) (E:Value->Shared->Prop),C i j->Q (.int (g i j) s.toks) {s with toks:=s.toks+1}->wpAny (model X.prog X.w) X.A (f (.int i t) (.int j u)) Q E s) :
  cL X f (rI C λi j=>.int (g i j)):=by
 rintro pins s σ H x y v u Q I rx ry ⟨i,j,rfl,rfl,hc,q⟩;obtain⟨t,rfl⟩:=rx;obtain⟨t',rfl⟩:=ry;exact rule i j t t' s _ _ hc ⟨.int (g i j),H,I.tok _,⟨_,rfl⟩,q⟩
theorem JU{f:Value->Value->Sem Value}{g:Int->Int->Int}
  (rule:∀(i j:Int) (t u:Tok) (s:Shared) (Q:Value->Shared->Prop) (E:Value->Shared->Prop),Q (.int (g i j) s.toks) {s with toks:=s.toks+1}->wpAny (model X.prog X.w) X.A (f (.int i t) (.int j u)) Q E s) :
  cL X f (rV λi j=>.int (g i j)):=by
 rintro pins s σ H x y v u Q I rx ry ⟨i,j,rfl,rfl,q⟩;obtain⟨t,rfl⟩:=rx;obtain⟨t',rfl⟩:=ry;exact rule i j t t' s _ _ ⟨.int (g i j),H,I.tok _,⟨_,rfl⟩,q⟩
theorem Du{f:Value->Value->Sem Value}{g:Int->Int->Bool}
  (rule:∀(i j:Int) (t u:Tok) (s:Shared) (Q:Value->Shared->Prop) (E:Value->Shared->Prop),Q (.bool (g i j)) s->wpAny (model X.prog X.w) X.A (f (.int i t) (.int j u)) Q E s) :
  cL X f (rV λi j=>.bl (g i j)):=by
 rintro pins s σ H x y v u Q I rx ry ⟨i,j,rfl,rfl,q⟩;obtain⟨t,rfl⟩:=rx;obtain⟨t',rfl⟩:=ry;exact rule i j t t' s _ _ ⟨.bl (g i j),H,I,rfl,q⟩
def RB(i j:Int):Prop:=0<j/\j<1073741824
def RC(i j:Int):Prop:=0<=j/\j<=1000000/\i.natAbs<2 ^ 64
def Dv(i j:Int):Prop:=(-(2 ^ 64)<i/\i<2 ^ 64)\/(-(2 ^ 64)<j/\j<2 ^ 64)
theorem Dv.ok(h:Dv i j):IntMulOk i j:=by
 rcases h with⟨h1,h2⟩|⟨h1,h2⟩
 ·exact .of_left (intBits_le_64 h1 h2)
 ·exact .of_right (intBits_le_64 h1 h2)
theorem c6:cL X (binaryOp .Add) (rV λi j=>.int (i+j)):=JU λ_ _ _ _ _ _ _ q=>add_int q
theorem hJ:cL X (binaryOp .Sub) (rV λi j=>.int (i-j)):=JU λ_ _ _ _ _ _ _ q=>sub_int q
theorem lY:cL X (binaryOp .Mult) (rI Dv λi j=>.int (i*j)):=FY λ_ _ _ _ _ _ _ hc q=>mul_int q hc.ok
theorem xG:cL X (binaryOp .FloorDiv) (rI RB λi j=>.int (i / j)):=FY λi j _ _ _ _ _ hc q=>by have h1:(0:Int)<j:=hc.1;have h2:j<1073741824:=hc.2;exact floordiv_int (by omega) (by rw[ada i (by omega)];exact q) (.inl (PyProof.noPylong_small (by omega)))
theorem jR:cL X (binaryOp .Mod) (rI (λ_ j=>0<j) λi j=>.int (i % j)):=FY λi j _ _ _ _ _ hc q=>by have h1:(0:Int)<j:=hc;exact mod_int' (by omega) (by rw[adb i (by omega)];exact q)
theorem JV:cL X (binaryOp .Pow) (rI RC λi j=>.int (i ^ j.toNat)):=FY λ_ _ _ _ _ _ _ hc q=>pow_int_small hc.1 hc.2.1 hc.2.2 q
theorem T9{f:Value->Sem Value}{g:Int->Int}
  (rule:∀(i:Int) (t:Tok) (s:Shared) (Q:Value->Shared->Prop) (E:Value->Shared->Prop),Q (.int (g i) s.toks) {s with toks:=s.toks+1}->wpAny (model X.prog X.w) X.A (f (.int i t)) Q E s) :
  JS X f (rU λi=>.int (g i)):=by
 rintro pins s σ H x v Q I rx ⟨i,rfl,q⟩;obtain⟨t,rfl⟩:=rx;exact rule i t s _ _ ⟨.int (g i),H,I.tok _,⟨_,rfl⟩,q⟩
theorem JW:JS X (unaryOp .USub) (rU λi=>.int (-i)):=T9 λ_ _ _ _ _ q=>neg_int q
end
def JX:V->V->Bool
 |.a8,.a8=>true|.a8,.int _=>true|.int _,.a8=>true|.a8,.bl _=>true|.bl _,.a8=>true|.a8,.str _=>true|.str _,.a8=>true
 |.int _,.int _=>true|.bl _,.bl _=>true|.str _,.str _=>true|.ju _,.ju _=>true
 |.int _,.str _=>true|.str _,.int _=>true|.bl _,.str _=>true|.str _,.bl _=>true
 |_,_=>false
def Ua:R2:=λx y H Q=>JX x y=true/\Q (.bl (decide (x=y))) H
def Ub:R2:=λx y H Q=>JX x y=true/\Q (.bl (!decide (x=y))) H
theorem xH:decide (V.int i=V.int j)=(i==j):=by rw[aat];simp
theorem AO:decide (V.bl i=V.bl j)=(i==j):=by rw[aat];simp
theorem xI:decide (V.str i=V.str j)=(i==j):=by rw[aat];simp
theorem xJ:decide (V.ju i=V.ju j)=(i.toList==j.toList):=by rw[aat];cases i;cases j;simp
section
theorem aX(I:Inv X pins σ H s)(q:Q (.bl k) H)(e:k=k'):EP X pins σ Q (.bool k') s:=by subst e;exact⟨.bl k,H,I,rfl,q⟩
theorem ua:cL X (compareOp .Eq) Ua:=by
 rintro pins s σ H x y v u Q I rx ry ⟨hs,q⟩;cases x with
 |a8=>
  cases rx;cases y with
  |a8=>cases ry;exact afE (aX I q (by simp))
  |bl j=>cases ry;exact afF (aX I q (by simp))
  |int j=>obtain⟨t',rfl⟩:=ry;exact afO (aX I q (by simp))
  |str j=>obtain⟨t',rfl⟩:=ry;exact afP (aX I q (by simp))
  |_=>exact absurd (show false=true from hs) ZM
 |bl i=>
  cases rx;cases y with
  |a8=>cases ry;exact afG (aX I q (by simp))
  |bl j=>cases ry;exact eq_bool (aX I q AO)
  |str j=>obtain⟨t',rfl⟩:=ry;exact afH (aX I q (by simp))
  |_=>exact absurd (show false=true from hs) ZM
 |int i=>
  obtain⟨t,rfl⟩:=rx;cases y with
  |a8=>cases ry;exact afQ (aX I q (by simp))
  |int j=>obtain⟨t',rfl⟩:=ry;exact eq_int (aX I q xH)
  |str j=>obtain⟨t',rfl⟩:=ry;exact afR (aX I q (by simp))
  |_=>exact absurd (show false=true from hs) ZM
 |str i=>
  obtain⟨t,rfl⟩:=rx;cases y with
  |a8=>cases ry;exact afS (aX I q (by simp))
  |bl j=>cases ry;exact afI (aX I q (by simp))
  |int j=>obtain⟨t',rfl⟩:=ry;exact afT (aX I q (by simp))
  |str j=>obtain⟨t',rfl⟩:=ry;exact eq_str (aX I q xI)
  |_=>exact absurd (show false=true from hs) ZM
 |ju i=>
  obtain⟨t,rfl⟩:=rx;cases y with
  |ju j=>obtain⟨t',rfl⟩:=ry;exact PySem.W.eq_bytes (aX I q xJ)
  |_=>exact absurd (show false=true from hs) ZM
 |_=>cases y<;>exact absurd (show false=true from hs) ZM
theorem kI:cL X (compareOp .NotEq) Ub:=by
 rintro pins s σ H x y v u Q I rx ry ⟨hs,q⟩;cases x with
 |a8=>
  cases rx;cases y with
  |a8=>cases ry;exact afJ (aX I q (by simp))
  |bl j=>cases ry;exact afK (aX I q (by simp))
  |int j=>obtain⟨t',rfl⟩:=ry;exact afU (aX I q (by simp))
  |str j=>obtain⟨t',rfl⟩:=ry;exact afV (aX I q (by simp))
  |_=>exact absurd (show false=true from hs) ZM
 |bl i=>
  cases rx;cases y with
  |a8=>cases ry;exact afL (aX I q (by simp))
  |bl j=>cases ry;exact ne_bool (aX I q (congrArg not AO))
  |str j=>obtain⟨t',rfl⟩:=ry;exact afM (aX I q (by simp))
  |_=>exact absurd (show false=true from hs) ZM
 |int i=>
  obtain⟨t,rfl⟩:=rx;cases y with
  |a8=>cases ry;exact afW (aX I q (by simp))
  |int j=>obtain⟨t',rfl⟩:=ry;exact ne_int (aX I q (congrArg not xH))
  |str j=>obtain⟨t',rfl⟩:=ry;exact afX (aX I q (by simp))
  |_=>exact absurd (show false=true from hs) ZM
 |str i=>
  obtain⟨t,rfl⟩:=rx;cases y with
  |a8=>cases ry;exact afY (aX I q (by simp))
  |bl j=>cases ry;exact afN (aX I q (by simp))
  |int j=>obtain⟨t',rfl⟩:=ry;exact afZ (aX I q (by simp))
  |str j=>obtain⟨t',rfl⟩:=ry;exact ne_str (aX I q (congrArg not xI))
  |_=>exact absurd (show false=true from hs) ZM
 |ju i=>
  obtain⟨t,rfl⟩:=rx;cases y with
  |ju j=>obtain⟨t',rfl⟩:=ry;exact PySem.W.ne_bytes (aX I q (congrArg not xJ))
  |_=>exact absurd (show false=true from hs) ZM
 |_=>cases y<;>exact absurd (show false=true from hs) ZM
theorem pH:cL X (compareOp .Lt) (rV λi j=>.bl (decide (i<j))):=Du λ_ _ _ _ _ _ _ q=>lt_int q
theorem kJ:cL X (compareOp .LtE) (rV λi j=>.bl (decide (i<=j))):=Du λ_ _ _ _ _ _ _ q=>le_int q
theorem ub:cL X (compareOp .Gt) (rV λi j=>.bl (decide (j<i))):=Du λ_ _ _ _ _ _ _ q=>gt_int q
theorem bz(b:Expr)(h:op≠.In:=by decide)(h2:op≠.NotIn:=by decide):behindInMarks op b=false:=by
 have e1:(op==CmpOp.In)=false:=by cases op<;>first|rfl|exact absurd rfl h
 have e2:(op==CmpOp.NotIn)=false:=by cases op<;>first|rfl|exact absurd rfl h2
 cases b<;>simp[behindInMarks,e1,e2]
theorem jS(ho:cL X (compareOp op) r)(ha:PE X a ta)(hb:PE X b tb)(hm:behindInMarks op b=false):PE X (.Compare a [op] [b] pos) (pG r ta tb):=by intro pins s σ H Q I h;exact wpAny_Compare1 (Ds ha hb I h λv u s2 x y H2 I2 rx ry q=>ho pins s2 σ H2 x y v u Q I2 rx ry q) hm
def FZ(t:TE):TT:=λσ H Q=>t σ H λx H'=>∃k,x=.bl k/\Q k H'
theorem aZ(ho:cL X (compareOp op) r)(ha:PE X a ta)(hb:PE X b tb)(hm:behindInMarks op b=false):PT X (.Compare a [op] [b] pos) (FZ (pG r ta tb)):=by
 intro pins s σ H Q I h;refine aea (aH (ha pins s σ H _ I h) λv s1 ⟨x,H1,I1,r1,q1⟩=>aH (hb pins s1 σ H1 _ I1 q1) λu s2 ⟨y,H2,I2,r2,q2⟩ =>aH (ho pins s2 σ H2 x y v u _ I2 r1 r2 q2) λc s3 ⟨z,H3,I3,r3,k,e,q3⟩=>?_) hm
 subst e;cases r3;exact wpAny_truthy_bool ⟨H3,I3,q3⟩
def AQ(r r':R2)(ta tb tc:TE):TE:=λσ H Q=>ta σ H λx H1=>tb σ H1 λy H2=>r x y H2 λz H3=>∃k,z=.bl k /\
 (if k=true then tc σ H3 λw' H4=>r' y w' H4 Q else Q (.bl false) H3)
theorem oz(ho:cL X (compareOp op) r)(ho':cL X (compareOp AR) r')(ha:PE X a ta)(hb:PE X b tb)(hc:PE X c tc)
  (hm:lastMarks [op,AR] [b,c]=false:=by with_unfolding_all rfl):PE X (.Compare a [op,AR] [b,c] pos) (AQ r r' ta tb tc):=by
 intro pins s σ H Q I h;refine Compare_chain (aH (ha pins s σ H _ I h) λv s1 ⟨x,H1,I1,r1,q1⟩=>chain_link (aH (hb pins s1 σ H1 _ I1 q1) λu s2 ⟨y,H2,I2,r2,q2⟩ =>aH (ho pins s2 σ H2 x y v u _ I2 r1 r2 q2) λd s3 ⟨z,H3,I3,r3,k,e,q3⟩=>?_)) hm
 subst e;cases r3;refine wpAny_truthy_bool ?_;cases k with
 |false=>exact ite_ff ⟨.bl false,H3,I3,rfl,q3⟩
 |true=>exact ite_tt (chain_last (aH (hc pins s3 σ H3 _ I3 q3) λw' s4 ⟨z',H4,I4,r4,q4⟩=>ho' pins s4 σ H4 y z' u w' Q I4 r2 r4 q4))
theorem uD(ho:cL X (compareOp op) r)(ho':cL X (compareOp AR) r')(ha:PE X a ta)(hb:PE X b tb)(hc:PE X c tc)
  (hm:lastMarks [op,AR] [b,c]=false:=by with_unfolding_all rfl):PT X (.Compare a [op,AR] [b,c] pos) (FZ (AQ r r' ta tb tc)):=by
 intro pins s σ H Q I h;refine isTrue_chain (aH (ha pins s σ H _ I h) λv s1 ⟨x,H1,I1,r1,q1⟩=>test_link (aH (hb pins s1 σ H1 _ I1 q1) λu s2 ⟨y,H2,I2,r2,q2⟩ =>aH (ho pins s2 σ H2 x y v u _ I2 r1 r2 q2) λd s3 ⟨z,H3,I3,r3,k,e,q3⟩=>?_)) hm
 subst e;cases r3;refine wpAny_truthy_bool ?_;cases k with
 |false =>obtain⟨k',e',q'⟩:=q3;cases e';exact ite_ff ⟨H3,I3,q'⟩
 |true =>refine ite_tt (test_last (aH (hc pins s3 σ H3 _ I3 q3) λw' s4 ⟨z',H4,I4,r4,q4⟩=>aH (ho' pins s4 σ H4 y z' u w' _ I4 r2 r4 q4) λd' s5 ⟨z2,H5,I5,r5,k2,e2,q5⟩=>?_));subst e2;cases r5;exact wpAny_truthy_bool ⟨H5,I5,q5⟩
def JY(K:PySem.W.Frag)(x:V)(H:Hp)(k:Bool):Prop:=
 match x with
 |.a8=>k=false
 |.bl b=>k=b
 |.int i=>k=(i !=0)
 |.str y=>y.length<=sizeLine/\k=((y.length:Int) !=0)
 |.ju y=>y.size<=sizeLine/\k=((y.size:Int) !=0)
 |.ref p=>(∃xs,aq K H p xs/\k=!xs.isEmpty)\/(∃xs,aO K H p xs/\k=!xs.isEmpty)\/∃kvs,H p=some (.dK kvs)/\k=!kvs.isEmpty
 |_=>False
theorem zh(r:KV kvs vs):(!vs.isEmpty)=!kvs.isEmpty:=by cases r<;>rfl
theorem pI(r:Vals xs its):(!its.toArray.isEmpty)=!xs.isEmpty:=by cases r<;>simp
theorem hV:(sizeLine:Nat)<2 ^ 63:=by rw[acq];decide
theorem JZ:JT X (λx H Q=>∃k,JY X.K x H k/\Q k H):=by
 rintro pins s σ H x v Q I rx ⟨k,e,q⟩;have hl:=hV;have hs:sizeLine=16777216:=acq;cases x with
 |a8 =>cases rx;have e':k=false:=e;subst e';exact truthy_none ⟨H,I,q⟩
 |bl b =>cases rx;have e':k=b:=e;subst e';exact wpAny_truthy_bool ⟨H,I,q⟩
 |int i =>obtain⟨t,rfl⟩:=rx;have e':k=(i !=0):=e;subst e';exact PySem.P.truthy_int ⟨H,I,q⟩
 |str y =>obtain⟨t,rfl⟩:=rx;obtain⟨hy,e'⟩:y.length<=sizeLine/\k=((y.length:Int) !=0):=e;subst e';exact PySem.P.truthy_str (by omega) ⟨H,I.tok _,q⟩
 |ju y =>obtain⟨t,rfl⟩:=rx;obtain⟨hy,e'⟩:y.size<=sizeLine/\k=((y.size:Int) !=0):=e;subst e';exact PySem.W.truthy_bytes (by omega) ⟨H,I.tok _,q⟩
 |ref p=>
  cases rx;have e':(∃xs,aq X.K H p xs/\k=!xs.isEmpty)\/(∃xs,aO X.K H p xs/\k=!xs.isEmpty)\/∃kvs,H p=some (.dK kvs)/\k=!kvs.isEmpty:=e;rcases e' with⟨xs,hx,e'⟩|⟨xs,hx,e'⟩|⟨kvs,hx,e'⟩
  ·subst e';obtain⟨its,r,pl,hz⟩:=I.list hx;have hlen:=r.length;exact wpAny_truthy_list pl.isList (by simp only[Zt];omega) ⟨H,I.tok _,by rw[pI r];exact q⟩
  ·subst e';obtain⟨its,r,pl,hz⟩:=I.tuple hx;have hlen:=r.length;exact truthy_tuple pl (by simp only[Zt];omega) ⟨H,I.tok _,by rw[pI r];exact q⟩
  ·subst e';obtain⟨hz,hS,vs,r,m⟩:kvs.length<=sizeLine/\(p==sysModules)=false/\∃vs,KV kvs vs/\s.heap.DictOf (aW X.prog X.w) p vs:=I.aL p _ hx;have hlen:kvs.length=vs.length:=ZG r;exact wpAny_truthy_dict hS m (by omega) ⟨H,I.tok _,by rw[zh r];exact q⟩
 |_=>exact(show False from e).elim
theorem oA(ha:PE X a ta)(he:∀whole,isTrue a X.env whole=(do let v <-whole;standAt a.pos;holding [v] (truthy v))) :
  PT X a (λσ H Q=>ta σ H λx H'=>∃k,JY X.K x H' k/\Q k H'):=by
 intro pins s σ H Q I h;exact aeG (aH (ha pins s σ H _ I h) λv s1 ⟨x,H1,I1,r1,q1⟩=>JZ pins s1 σ H1 x v Q I1 r1 q1) (he _)
theorem vals1(r:Vals [x] us):∃u,us=[u]/\RelV x u:=by
 cases r with
 |cons r1 r2=>cases r2;exact⟨_,rfl,r1⟩
theorem vals2(r:Vals [x,y] us):∃u w',us=[u,w']/\RelV x u/\RelV y w':=by
 cases r with
 |cons r1 r2=>
  cases r2 with
  |cons r3 r4=>cases r4;exact⟨_,_,rfl,r1,r3⟩
theorem uE:cG X (.builtin "abs") (λxs H Q=>∃i,xs=[.int i]/\Q (.int (if i<0 then -i else i)) H):=by rintro pins s σ H xs us Q I r ⟨i,rfl,q⟩;obtain⟨u,rfl,t,rfl⟩:=vals1 r;exact call_abs_int λu tk=>⟨.int (if i<0 then -i else i),H,I.tok _,⟨_,rfl⟩,q⟩
theorem rW(hc:X.calm=true):cG X (.builtin "max") (λxs H Q=>∃i j,xs=[.int i,.int j]/\Q (.int (if j > i then j else i)) H):=by
 rintro pins s σ H xs us Q I r ⟨i,j,rfl,q⟩;obtain⟨u,w',rfl,⟨t,rfl⟩,⟨t',rfl⟩⟩:=vals2 r;refine max_two_ints (I.ok.hd hc) λh' tk k=>⟨_,H,I.kept k,?_,q⟩
 by_cases hj:j > i
 ·rw[if_pos hj,if_pos hj];exact⟨_,rfl⟩
 ·rw[if_neg hj,if_neg hj];exact⟨_,rfl⟩
theorem AS(hc:X.calm=true):cG X (.builtin "min") (λxs H Q=>∃i j,xs=[.int i,.int j]/\Q (.int (if j<i then j else i)) H):=by
 rintro pins s σ H xs us Q I r ⟨i,j,rfl,q⟩;obtain⟨u,w',rfl,⟨t,rfl⟩,⟨t',rfl⟩⟩:=vals2 r;refine min_two_ints (I.ok.hd hc) λh' tk k=>⟨_,H,I.kept k,?_,q⟩
 by_cases hj:j<i
 ·rw[if_pos hj,if_pos hj];exact⟨_,rfl⟩
 ·rw[if_neg hj,if_neg hj];exact⟨_,rfl⟩
end
structure oB(h:Heap)(x dx C:Addr)(mA:Str->Option Value):Prop where
 obj:h.get? x=some (PySem.W.instObj C dx)
 ns:h.Ns1 dx mA
 ne:dx≠x
theorem AU{h:Heap}{dx:Addr}{mA:Str->Option Value}(n:h.Ns1 dx mA):∃od,h.get? dx=some od/\∀name,PySem.W.lookIn name od=some (mA name):=by
 obtain⟨o,es,ep,ho,hd,hk,_,hm⟩:=n;refine⟨o,ho,λname=>?_⟩;have e:=hm name;unfold nsFind findBy at e;rw[<-Array.find?_toList] at e;unfold PySem.W.lookIn;rw[hd];dsimp only;split
 ·rename_i y q
  rw[q] at e;exact congrArg some e
 ·rename_i q
  rw[q] at e;have a:es.toList.any (·.refKey)=false:=by rw[List.any_eq_false];intro y hy;obtain⟨z,t,hkey⟩:=hk y (Array.mem_toList_iff.mp hy);simp[DictEntry.refKey,hkey]
  have a':¬ es.toList.any (·.refKey)=true:=by rw[a];exact ZM
  rw[if_neg a'];exact congrArg some e
theorem oB.look(I:oB h x dx C mA):∃od,PySem.W.InstAt h x (PySem.W.instObj C dx) C (some od)/\∀name,PySem.W.lookIn name od=some (mA name):=
 let ⟨od,ho,hl⟩:=AU I.ns
 ⟨od,⟨I.obj,rfl,rfl,ho⟩,hl⟩
section
variable {prog:Program}{w:World}{A:Around}{E:Value->Shared->Prop}{s:Shared}{K:PySem.W.Frag}{x dx C f:Addr}{mA:Str->Option Value}{name:Str}{v:Value}
theorem get_map(X:K.In s.heap)(I:oB s.heap x dx C mA)(hg:PySem.W.plainGet K C name=true)(hh:PySem.W.hasDictIn K C=true)
  (ha:W.findIn K (.ref C) name=some none) (hv:mA name=some v) (hv':W.handedIn v=true) (h:Q v {s with toks:=s.toks+1}) :
  wpAny (model prog w) A (getAttr (.ref x) name expr) Q E s:=by
 obtain⟨od,J,hl⟩:=I.look;exact PySem.W.get_value X J (ac0 hg).1 (PySem.W.findObj_own hh ha rfl (by rw[hl,hv])) hv' h
theorem Dw(X:K.In s.heap)(I:oB s.heap x dx C mA)(hg:PySem.W.plainGet K C name=true)
  (hf:W.findIn K (.ref C) name=some (some (.ref f))) (ht:W.isFn K (.ref f)=true) (hv:mA name=none) (h:Q (.ref f,[.ref x]) s) :
  wpAny (model prog w) A (getMethod (.ref x) name pl) Q E s:=by
 obtain⟨od,J,hl⟩:=I.look;exact PySem.W.method_fn X J (ac0 hg).1 (ac0 hg).2 hf (beq_iff_eq.mp ht) (by show(PySem.W.lookIn name od).map (·.isSome)=some false;rw[hl,hv];rfl) h
theorem HD(X:K.In s.heap)(I:oB s.heap x dx C mA)
  (hs:W.findIn K (.ref C) "__setattr__" = some (some (.builtin "object.__setattr__"))) (hp:W.plainOver K C=true) (ht:W.takerIn K C name=some none) (hh:W.hasDictIn K C=true)
  (hw:PySem.Within mA ns) (hsz:ns.length<=sizeLine)
  (h:∀h',oB h' x dx C (λy=>if y=name then some v else mA y)->Heap.SameBut dx s.heap h'->Q () {s with heap:=h',toks:=s.toks+2}) :
  wpAny (model prog w) A (setAttr (.ref x) name v) Q E s:=by
 obtain⟨od,J,hl⟩:=I.look;refine PySem.W.set_plain X J hs (PySem.W.osa_open (s:={s with toks:=s.toks+1}) (r:=none) X J hp ht λb=>?_);obtain⟨cd,hc,nE⟩:=PySem.W.any_some hh;have hx:s.heap.get? x=some ⟨.ref C,some dx,.plain,#[]⟩:=I.obj;refine wpAny_bind (wpAny_pure (wpAny_bind (wpAny_bind (wpAny_loadPart hx (wpAny_bind (ago (s:={s with toks:=s.toks+1}) (PySem.W.looks_clsIn X hc) ?_))))));rw[nE];refine wpAny_pure (a:=some dx) (wpAny_bind (wpAny_pure (wpAny_bind ?_)));refine wpAny_nsSet1 (s:={s with toks:=s.toks+1}) I.ns λh' hn2 hs2=>?_;obtain⟨oD,Ya,Yb,Uc,Ud,Ue⟩:=hn2.count (agq name v hw);refine wpAny_bind (wpAny_lookBehind Uc (by rw[Ud];exact pastItsLine_dict (Zu Ue (by rw[Zz];omega))) ?_);exact wpAny_pure (h _ ⟨(hs2.2 _ (Z0 I.ne)).trans I.obj,hn2,I.ne⟩ hs2)
theorem Dx(X:K.In s.heap)(hm:PySem.W.makesIn K C=true)
  (hi:W.findIn K (.ref C) "__init__" = some (some (.ref f))) (hf:W.typeIn K (.ref f)=some (.type "function"))
  (h:codeAny (model prog w) (A.under (.builtin "type.__call__" ⟨.ref C::vs,kw⟩)) (.call (.ref f) ⟨.ref (s.heap.objs.size+1)::vs,kw⟩) (PySem.W.InitBack (s.heap.objs.size+1) R)
   {s with heap:=(s.heap.push PySem.W.emptyDict).push (PySem.W.instObj C s.heap.objs.size)}) :
  codeAny (model prog w) A (.call (.ref C) ⟨vs,kw⟩) R s:=by
 obtain⟨hh,g,d,t,os⟩:=s;exact PySem.W.make_core (PySem.W.makes_of X hm) (PySem.W.looks_findIn X hi) (λself=>PySem.W.bind_fn X self hf) (.inl rfl) h
end
def bU(f:Str)(v:V):List (Str×V)->List (Str×V)
 |[]=>[(f,v)]
 |(g,x)::r=>if g=f then (g,v)::r else (g,x)::bU f v r
theorem nG(f g:Str)(v:V):∀fs:List (Str×V),(bU f v fs).lookup g=if g=f then some v else fs.lookup g
 |[]=>by
  show List.lookup g [(f,v)]=_
  by_cases h:g=f
  ·have hb:(g==f)=true:=beq_iff_eq.mpr h;simp only[List.lookup,hb,if_pos h]
  ·have hb:(g==f)=false:=beq_eq_false_iff_ne.mpr h;simp only[List.lookup,hb,if_neg h]
 |(k,x)::r=>by
  have ih:=nG f g v r;rw[show bU f v ((k,x)::r)=(if k=f then (k,v)::r else (k,x)::bU f v r) from rfl];by_cases hk:k=f
  ·rw[if_pos hk];by_cases h:g=k
   ·have hb:(g==k)=true:=beq_iff_eq.mpr h;simp only[List.lookup,hb,if_pos (h.trans hk)]
   ·have hb:(g==k)=false:=beq_eq_false_iff_ne.mpr h;simp only[List.lookup,hb,if_neg (λe:g=f=>h (e.trans hk.symm))]
  ·rw[if_neg hk];by_cases h:g=k
   ·have hb:(g==k)=true:=beq_iff_eq.mpr h;simp only[List.lookup,hb,if_neg (λe:g=f=>hk (h.symm.trans e))]
   ·have hb:(g==k)=false:=beq_eq_false_iff_ne.mpr h;simp only[List.lookup,hb];exact ih
theorem lZ(f:Str)(v:V):∀fs:List (Str×V),f∈(bU f v fs).map (·.1)/\∀g,g∈fs.map (·.1)->g∈(bU f v fs).map (·.1)
 |[]=>⟨by simp[bU],λg h=>by simp at h⟩
 |(k,x)::r=>by
  obtain⟨i1,i2⟩:=lZ f v r;rw[show bU f v ((k,x)::r)=(if k=f then (k,v)::r else (k,x)::bU f v r) from rfl];by_cases hk:k=f
  ·rw[if_pos hk];subst hk;exact⟨by simp,λg h=>by simpa using h⟩
  ·rw[if_neg hk];refine⟨?_,λg h=>?_⟩
   ·rw[ZI];exact ZC _ i1
   ·rw[ZI] at h⊢;rcases Zs.mp h with e|e
    ·exact Zs.mpr (.inl e)
    ·exact ZC _ (i2 g e)
theorem nH(f:Str)(v:V):∀fs:List (Str×V),(bU f v fs).length<=fs.length+1
 |[]=>by simp[bU]
 |(k,x)::r=>by
  have ih:=nH f v r;rw[show bU f v ((k,x)::r)=(if k=f then (k,v)::r else (k,x)::bU f v r) from rfl];by_cases hk:k=f
  ·rw[if_pos hk,Zz,Zz];omega
  ·rw[if_neg hk,Zz,Zz];omega
theorem eR.some_of(r:eR (some v) o):∃u,o=some u/\RelV v u:=by
 cases o with
 |none=>exact(show False from r).elim
 |some u=>exact⟨u,rfl,r⟩
theorem eR.none_of(r:eR none o):o=none:=by
 cases o with
 |none=>rfl
 |some u=>exact(show False from r).elim
theorem AV(r:RelV v u):PySem.W.handedIn u=true:=by
 cases v with
 |a8=>cases (show u=Value.none from r);rfl
 |bl b=>cases (show u=Value.bool b from r);rfl
 |int i=>obtain⟨t,e⟩:=(show ∃t,u=Value.int i t from r);cases e;rfl
 |str x=>obtain⟨t,e⟩:=(show ∃t,u=Value.str x t from r);cases e;rfl
 |ju b=>obtain⟨t,e⟩:=(show ∃t,u=Value.bytes b t from r);cases e;rfl
 |fR b=>obtain⟨t,e⟩:=(show ∃t,u=Value.float b t from r);cases e;rfl
 |ref a=>cases (show u=Value.ref a from r);rfl
 |ty n=>cases (show u=Value.type n from r);rfl
section
theorem gN(aL:de P w H h)(e:H a=some (.ins C dx fs)):∃mA,oB h a dx C mA/\(∀f,eR (fs.lookup f) (mA f))/\PySem.Within mA (fs.map (·.1))/\fs.length<=1000/\H dx=some (.own a):=by
 obtain⟨d,z,ne,ob,mA,n,r,q⟩:=(show bg P w H h a (.ins C dx fs) from aL a _ e)
 exact⟨mA,⟨ob,n,ne⟩,r,q,z,d⟩
end
structure l6(K:PySem.W.Frag)(C:Addr):Prop where
 pg:PySem.W.plainGet K C Str.empty=true
 hd:PySem.W.hasDictIn K C=true
 po:PySem.W.plainOver K C=true
 sa:PySem.W.findIn K (.ref C) "__setattr__" = some (some (.builtin "object.__setattr__"))
theorem l6.get{K:PySem.W.Frag}{C:Addr}(c:l6 K C)(f:Str):PySem.W.plainGet K C f=true:=c.pg
def d8(K:PySem.W.Frag)(C:Addr)(f:Str):Prop:=PySem.W.findIn K (.ref C) f=some none
theorem d8.NW{K:PySem.W.Frag}{C:Addr}{f:Str}(n:d8 K C f):PySem.W.takerIn K C f=some none:=by unfold PySem.W.takerIn;rw[show PySem.W.findIn K (.ref C) f=some none from n];rfl
structure Meth(K:PySem.W.Frag)(C:Addr)(m:Str)(f:Addr):Prop where
 at_:PySem.W.findIn K (.ref C) m=some (some (.ref f))
 fn:PySem.W.isFn K (.ref f)=true
 kp:PySem.W.keepIn K (.ref f)=true
section
theorem zi(I:Inv X pins σ H s)(e:H a=some (.ins C dx fs))(c:l6 X.K C)(n:d8 X.K C f)(l:fs.lookup f=some v)
  (h:∀u s',Inv X pins σ H s'->RelV v u->Q u s'):wpAny (model X.prog X.w) A (getAttr (.ref a) f b) Q E s:=by
 obtain⟨mA,O,r,_,_,_⟩:=gN I.aL e;obtain⟨u,hu,ru⟩:=eR.some_of (v:=v) (o:=mA f) (by rw[<-l];exact r f);exact get_map I.dW O (c.get f) c.hd n hu (AV ru) (h u _ (I.tok _) ru)
theorem zj(I:Inv X pins σ H s)(e:H a=some (.ins C dx fs))(c:l6 X.K C)(k:Meth X.K C m g)(l:fs.lookup m=none)
  (h:Q (.ref g,[.ref a]) s):wpAny (model X.prog X.w) A (getMethod (.ref a) m pl) Q E s:=by
 obtain⟨mA,O,r,_,_,_⟩:=gN I.aL e;have hn:mA m=none:=eR.none_of (by rw[<-l];exact r m);exact Dw I.dW O (c.get m) k.at_ k.fn hn h
theorem zk(I:Inv X pins σ H s)(e:H a=some (.ins C dx fs))(c:l6 X.K C)(n:d8 X.K C f)(hl:fs.length<1000)(ry:RelV y u)
  (h:∀s',Inv X pins σ (upd H a (.ins C dx (bU f y fs))) s'->Q () s'):wpAny (model X.prog X.w) A (setAttr (.ref a) f u) Q E s:=by
 obtain⟨mA,O,r,wi,_,ho⟩:=gN I.aL e;have hz:(fs.map (·.1)).length<=sizeLine:=by rw[Zj,acq];omega
 refine HD I.dW O c.sa c.po n.NW c.hd wi hz λh' O' sb=>h _ ?_;have hd:∃o,h'.get? dx=some o:=let ⟨o,_,_,e',_⟩:=O'.ns;⟨o,e'⟩
 refine I.write (x:=a) (e:=dx) (by rw[e];exact True.intro) (.inr ho) (λb q hb z=>(sb.2 b hb).trans z) hd ?_;refine⟨by rw[ak O.ne];exact ho,?_,O.ne,O'.obj,_,O'.ns,λg=>?_,λg hg=>?_⟩
 ·have:=nH f y fs;omega
 ·show eR ((bU f y fs).lookup g) (if g=f then some u else mA g)
  rw[nG];by_cases q:g=f
  ·rw[if_pos q,if_pos q];exact ry
  ·rw[if_neg q,if_neg q];exact r g
 ·by_cases q:g=f
  ·rw[q];exact(lZ f y fs).1
  ·refine(lZ f y fs).2 g (wi g λz=>hg ?_);show(if g=f then some u else mA g)=none
   rw[if_neg q];exact z
theorem Inv.made(I:Inv X pins σ H s):Inv X pins σ (upd (upd H s.heap.objs.size (.own (s.heap.objs.size+1))) (s.heap.objs.size+1) (.ins C s.heap.objs.size []))
  {s with heap:=(s.heap.push PySem.W.emptyDict).push (PySem.W.instObj C s.heap.objs.size)}:=by
 have e1:(s.heap.push PySem.W.emptyDict).get? s.heap.objs.size=some PySem.W.emptyDict:=Zw s.heap rfl;have e2:((s.heap.push PySem.W.emptyDict).push (PySem.W.instObj C s.heap.objs.size)).get? (s.heap.objs.size+1)=some (PySem.W.instObj C s.heap.objs.size):=by
  have:=Zw (s.heap.push PySem.W.emptyDict) (o:=PySem.W.instObj C s.heap.objs.size) rfl
  rwa [Z'] at this
 have e3:(s.heap.push PySem.W.emptyDict).Ns s.heap.objs.size (λ_=>none):=⟨PySem.W.emptyDict,#[],_,e1,rfl,(λe he=>absurd he (by simp)),λ_=>rfl⟩
 have I1:=I.laid (a:=s.heap.objs.size) (o:=.own (s.heap.objs.size+1)) (h':=s.heap.push PySem.W.emptyDict) (t':=s.toks) (λb u q=>Zl _ q) (Zn _) ⟨_,e1⟩;refine I1.laid (a:=s.heap.objs.size+1) (o:=.ins C s.heap.objs.size []) (t':=s.toks) (λb u q=>Zl _ q) (af0 (Z' _ _)) ?_;have ne:s.heap.objs.size≠s.heap.objs.size+1:=ZQ (aav _);refine⟨by rw[ak ne,ai],ZE _,ne,e2,λ_=>none,(Heap.Ns1.of_empty e3).at λo q=>Zl _ q,λ_=>True.intro,λy hy=>absurd rfl hy⟩
theorem HE(hb:attributeBase e f env (eval e env)=eval e env)
  (h:wpAny (model prog w) A (eval e env) (λo s₁=>wpAny (model prog w) A (getAttr o f true) Q E s₁) E s):wpAny (model prog w) A (eval (.Attribute e f pos) env) Q E s:=
 Attribute_any_ h (by rw[arm_eval_Attribute,hb])
end
def RD(K:PySem.W.Frag)(ta:TE)(f:Str):TE:=λσ H Q=>ta σ H λx H1=>∃a C dx fs v,x=.ref a/\H1 a=some (.ins C dx fs)/\l6 K C/\d8 K C f/\fs.lookup f=some v/\Q v H1
def RE(K:PySem.W.Frag)(ta tv:TE)(f:Str):TS:=λD σ H=>tv σ H λy H1=>ta σ H1 λx H2=>∃a C dx fs,x=.ref a/\H2 a=some (.ins C dx fs)/\l6 K C/\d8 K C f/\fs.length<1000 /\
 D.nx σ (upd H2 a (.ins C dx (bU f y fs)))
section
theorem jT(he:PE X e ta)(hb:attributeBase e f X.env (eval e X.env)=eval e X.env):PE X (.Attribute e f pos) (RD X.K ta f):=by intro pins s σ H Q I h;refine HE hb (aH (he pins s σ H _ I h) λu s1 ⟨x,H1,I1,rx,a,C,dx,fs,v,ex,ea,c,n,l,q⟩=>?_);subst ex;obtain rfl:u=Value.ref a:=rx;exact zi I1 ea c n l λu' s2 I2 ru=>⟨v,H1,I2,ru,q⟩
theorem l7(ha:PE X o ta)(hv:PE X value tv)(hs:swapsWith value (some (.Attribute o f pos')) pos.line X.env=pure false):PS X (.Assign [.Attribute o f pos'] value pos) (RE X.K ta tv f):=by intro pins s σ H D I h;refine plainObj_wpAny_Assign_Attribute (aH (hv pins s σ H _ I h) λu s1 ⟨y,H1,I1,ry,q⟩=>aH (ha pins s1 σ H1 _ I1 q) λov s2 ⟨x,H2,I2,rx,a,C,dx,fs,ex,ea,c,n,l,q2⟩=>?_) hs;subst ex;obtain rfl:ov=Value.ref a:=rx;exact zk I2 ea c n l ry λs3 I3=>⟨σ,_,I3,q2⟩
end
section
inductive eT (K:PySem.W.Frag) (H:Hp):V->Value->Prop where
 |a8:eT K H .a8 (.type "NoneType")
 |bl (x:Bool):eT K H (.bl x) (.type "bool")
 |int (i:Int):eT K H (.int i) (.type "int")
 |str (x:Str):eT K H (.str x) (.type "str")
 |fR (x:UInt64):eT K H (.fR x) (.type "float")
 |lst {a:Addr} {xs:List V} (e:H a=some (.lst xs)):eT K H (.ref a) (.type "list")
 |iR {a:Addr} {o:Obj} {xs:List V} (e:H a=some (.iR o (.lst xs))):eT K H (.ref a) (.type "list")
 |tup {a:Addr} {xs:List V} (e:H a=some (.tup xs)):eT K H (.ref a) (.type "tuple")
 |dK {a:Addr} {kvs:List (Key×V)} (e:H a=some (.dK kvs)):eT K H (.ref a) (.type "dict")
 |dT {a:Addr} {kvs:List (List Key×V)} (e:H a=some (.dT kvs)):eT K H (.ref a) (.type "dict")
 |ins {a C dx:Addr} {fs:List (Str×V)} (e:H a=some (.ins C dx fs)) (cl:l6 K C) (ha:PySem.W.findIn K (.ref C) "__class__" = some (some (.builtin "object.__class__")))
   (hn:PySem.W.specialIn K (.builtin "object.__class__") "__get__" = some (some (.builtin "getset_descriptor.__get__"))) (htk:PySem.W.takesIn K (.builtin "object.__class__")=some true)
   (hm:PySem.W.mroIn K C (.type "object")=some true):eT K H (.ref a) (.ref C)
theorem AW(I:Inv X pins σ H s)(rx:RelV x u)(ty:eT X.K H x t)(e:PySem.W.kitOne X.K t c=some b)(h:∀tk,Q (.bool b) {s with toks:=tk}) :
  wpAny (model X.prog X.w) A (call (.builtin "isinstance") [u,c]) Q E s:=by
 cases ty with
 |a8=>cases (show u=Value.none from rx);exact aaJ PySem.W.kitx_none I.dW True.intro e (λz=>nomatch z) h
 |bl y=>cases (show u=Value.bool y from rx);exact aaJ PySem.W.kitx_bool I.dW True.intro e (λz=>nomatch z) h
 |int i=>obtain⟨t,q⟩:=(show ∃t,u=Value.int i t from rx);cases q;exact aaJ PySem.W.kitx_int I.dW True.intro e (λz=>nomatch z) h
 |str y=>obtain⟨t,q⟩:=(show ∃t,u=Value.str y t from rx);cases q;exact aaJ PySem.W.kitx_str I.dW True.intro e (λz=>nomatch z) h
 |fR y=>obtain⟨t,q⟩:=(show ∃t,u=Value.float y t from rx);cases q;exact aaJ PySem.W.kitx_float I.dW True.intro e (λz=>nomatch z) h
 |@lst a xs ea=>
  cases (show u=Value.ref a from rx);obtain⟨_,_,n,_,h1⟩:=(show bg X.prog X.w H s.heap a (.lst xs) from I.aL a _ ea)
  exact aaJ aeW I.dW ⟨_,h1,rfl⟩ e (λz=>nomatch z) h
 |@iR a ob xs ea=>
  cases (show u=Value.ref a from rx);obtain⟨_,_,_,n,_,h1⟩:=(show bg X.prog X.w H s.heap a (.iR ob (.lst xs)) from I.aL a _ ea)
  exact aaJ aeW I.dW ⟨_,h1,rfl⟩ e (λz=>nomatch z) h
 |@tup a xs ea=>
  cases (show u=Value.ref a from rx);obtain⟨_,_,_,p⟩:=(show bg X.prog X.w H s.heap a (.tup xs) from I.aL a _ ea)
  obtain⟨o,h1,h2,_⟩:=p;exact aaJ PySem.W.kitx_tuple I.dW ⟨o,h1,h2⟩ e (λz=>nomatch z) h
 |@dK a kvs ea=>
  cases (show u=Value.ref a from rx);obtain⟨_,_,vs,_,p⟩:=(show bg X.prog X.w H s.heap a (.dK kvs) from I.aL a _ ea)
  obtain⟨o,es,ep,h1,h2,_⟩:=p;exact aaJ aeX I.dW ⟨o,h1,h2.1⟩ e (λz=>nomatch z) h
 |@dT a kvs ea=>
  cases (show u=Value.ref a from rx);obtain⟨_,_,xs,_,o,es,ep,h1,h2,_⟩:=(show bg X.prog X.w H s.heap a (.dT kvs) from I.aL a _ ea)
  exact aaJ aeX I.dW ⟨o,h1,h2.1⟩ e (λz=>nomatch z) h
 |@ins a C dx fs ea cl ha hn htk hm =>cases (show u=Value.ref a from rx);obtain⟨mA,O,_⟩:=gN I.aL ea;obtain⟨od,J,_⟩:=O.look;exact aaJ (PySem.W.kitx_own (cl.get _) cl.hd ha hn htk hm) I.dW J e (λz=>nomatch z) h
end
structure cT(k:Nat)(A:Around):Prop where
 hd:A.handled=none
 dp:A.depth+3*k+5<recursionLimit
 un:A.units+16*k+200<cLine
 gd:A.guards=some []
theorem cT.mono(r:cT k A)(h:j<=k):cT j A:=⟨r.hd,by have:=r.dp;omega,by have:=r.un;omega,r.gd⟩
theorem cT.deeper(r:cT (k+1) A)(env:Env):cT k (A.deeper env):=
 ⟨r.hd,by have:=r.dp;show A.depth+1+3*k+5<_;omega,by have:=r.un;show A.units+3+16*k+200<_;omega,r.gd⟩
theorem xo{A:Around}{C:Addr}{us:List Value}{kw:List (Str×Value)}(h:A.guards=some []):(A.under (.builtin "type.__call__" ⟨.ref C::us,kw⟩)).guards=some []:=by
 have e:(Code.builtin "type.__call__" ⟨.ref C::us,kw⟩).isGuard=false:=by first|rfl|simp[Code.isGuard,guardIds]
 have q:∀c:Code,(A.under c).guards=pushGuards c.guards A.guards:=λ_=>rfl;rw[q,h,Code.guards,e];rfl
theorem zl{A:Around}{C:Addr}{us:List Value}{kw:List (Str×Value)}:(A.under (.builtin "type.__call__" ⟨.ref C::us,kw⟩)).depth=A.depth+1:=by first|rfl|simp[Around.under,Code.weight,Code.isCreation,Code.isGuard,Code.isCaller,Code.frames,Code.isFrame,guardIds]
theorem zm{A:Around}{C:Addr}{us:List Value}{kw:List (Str×Value)}:(A.under (.builtin "type.__call__" ⟨.ref C::us,kw⟩)).units=A.units+1:=by first|rfl|simp[Around.under,Code.cUnits,Code.frames,Code.isFrame]
theorem cT.make(r:cT (k+1) A)(C:Addr)(us:List Value)(kw:List (Str×Value)):cT k (A.under (.builtin "type.__call__" ⟨.ref C::us,kw⟩)):=
 ⟨r.hd,by have:=r.dp;rw[zl];omega,by have:=r.un;rw[zm];omega,xo r.gd⟩
theorem cT.depth(r:cT k A):A.depth<recursionLimit:=by have:=r.dp;omega
theorem cT.units(r:cT k A):A.units+64<cLine:=by have:=r.un;omega
def zo:TA:=λ_ H Q=>Q [] H
def pJ(ta:TE)(tr:TA):TA:=λσ H Q=>ta σ H λx H1=>tr σ H1 λxs H2=>Q (x::xs) H2
section
theorem af:PA X [] zo:=λ_ _ _ _ H Q I h=>aeY ⟨[],H,I,.nil,h⟩
theorem aa(ha:PE X e te)(hr:PA X es t)(hs:starEach (e::es) X.env=(false,eval e X.env)::starEach es X.env:=by rfl):PA X (e::es) (pJ te t):=by
 intro pos pins s σ H Q I h;rw[hs];show wpAny _ _ (spliced ((false,eval e X.env)::backTo pos (starEach es X.env))) _ _ s
 refine aeH (aH (ha pins s σ H _ I h) λu s1 ⟨x,H1,I1,r1,q1⟩=>?_);exact aH (hr pos pins s1 σ H1 _ I1 q1) λus s2 ⟨xs,H2,I2,r2,q2⟩=>⟨x::xs,H2,I2,.cons r1 r2,q2⟩
def Dy(t:TA):TE:=λσ H Q=>t σ H λxs H1=>xs.length<=sizeLine/\∀p,H1 p=none->Q (.ref p) (upd H1 p (.tup xs))
def RF(t:TA):TE:=λσ H Q=>t σ H λxs H1=>xs.length<=sizeLine/\∀p,H1 p=none->Q (.ref p) (upd H1 p (.lst xs))
theorem bE(h:PA X es t):PE X (.Tuple es x1 pos) (Dy t):=by intro pins s σ H Q I hq;refine wpAny_Tuple_spliced (aH (h pos pins s σ H _ I hq) λus s1 ⟨xs,H1,I1,r,z,q⟩=>⟨by rw[<-r.length];exact z,?_⟩);have hf:H1 s1.heap.objs.size=none:=I1.aL.fresh (Zn _);refine⟨.ref s1.heap.objs.size,upd H1 s1.heap.objs.size (.tup xs),I1.laid (t':=s1.toks) (λb u e=>Zl _ e) (Zn _) ?_,rfl,q _ hf⟩;exact⟨z,us,r,⟨_,Zw _ rfl,rfl,_,rfl⟩⟩
theorem bV(h:PA X es t):PE X (.List es pos) (RF t):=by intro pins s σ H Q I hq;refine wpAny_List_spliced (aH (h pos pins s σ H _ I hq) λus s1 ⟨xs,H1,I1,r,z,q⟩=>⟨by rw[<-r.length];exact z,?_⟩);have hf:H1 s1.heap.objs.size=none:=I1.aL.fresh (Zn _);refine⟨.ref s1.heap.objs.size,upd H1 s1.heap.objs.size (.lst xs),I1.laid (t':=s1.toks) (λb u e=>Zl _ e) (Zn _) ?_,rfl,q _ hf⟩;exact⟨z,us,0,r,Zw _ rfl⟩
end
abbrev Sp:=List V->Hp->VK->XK->Prop
abbrev md:=List Env->Hp->Shared->XK->Value->Shared->Prop
structure oC(P:Program)(w:World)(K:PySem.W.Frag)(mg:Str->Option Value)(base:Heap)(A:Around)(outer:List Env)(s:Shared)(H:Hp):Prop where
 frames:A.frames=some outer
 mod:Mod K mg base
 bs:∀b o,base.get? b=some o->s.heap.get? b=some o/\H b=none
 pz:base.objs.size<=s.heap.objs.size
 iy:s.heap.FunFrames base outer
 uw:∀b∈lU outer,H b=none
 aL:de P w H s.heap
 bare:AllBare s.gens
def CE(outer:List Env)(P:Program)(w:World)(H:Hp)(s:Shared)(Q:VK)(u:Value)(s':Shared):Prop:=
 ∃v H',s'.os=s.os/\AllBare s'.gens/\Un (lU outer) [] H H' s.heap s'.heap/\de P w H' s'.heap/\RelV v u/\Q v H'
def CR(CX:md)(outer:List Env)(P:Program)(w:World)(H:Hp)(s:Shared)(Q:VK)(E:XK)(r:Result)(s':Shared):Prop:=
 match r with
 |.ok (.ret u)=>CE outer P w H s Q u s'
 |.ok _=>False
 |.error e=>CX outer H s E e s'
structure aG(P:Program)(w:World)(K:PySem.W.Frag)(mg:Str->Option Value)(base:Heap)(CX:md)(k:Nat)(f:Addr)(fd:FuncData)(ps:List Str)(sp:Sp):Prop where
 len:∀vs H Q E,sp vs H Q E->vs.length=ps.length
 run:∀(A:Around) (outer:List Env) (s:Shared) (H:Hp) (args:Args) (us:List Value) (vs:List V) (Q:VK) (E:XK),cT k A->oC P w K mg base A outer s H->BindsTo s fd args (ps.zip us)->Vals vs us->sp vs H Q E ->
  codeAny (model P w) A (.call (.ref f) args) (CR CX outer P w H s Q E) s
theorem oC.make{P:Program}{w:World}{K:PySem.W.Frag}{mg:Str->Option Value}{base:Heap}{A:Around}{outer:List Env}{s:Shared}{H:Hp}(e:oC P w K mg base A outer s H)(C:Addr)(us:List Value)(kw:List (Str×Value)) :
  oC P w K mg base (A.under (.builtin "type.__call__" ⟨.ref C::us,kw⟩)) outer s H:=⟨by first|exact e.frames|(simpa [Around.under,Code.envs,Code.isFrame,pushEnvs] using e.frames),e.mod,e.bs,e.pz,e.iy,e.uw,e.aL,e.bare⟩
section
theorem Inv.J3(I:Inv X pins σ H s):oC X.prog X.w X.K X.mg X.base X.A X.stack s H:=
 ⟨I.ok.frames,I.ok.mod,I.bs,Zu I.ok.pz I.sz,I.stack,I.xE,I.aL,I.bare⟩
theorem Inv.after(I:Inv X pins σ H s)(h:CE X.stack X.prog X.w H s Q u s'):EP X pins σ Q u s':=by obtain⟨v,H',os,bare,un,aL,r,q⟩:=h;obtain⟨hh,g,d,t,Ug⟩:=s';obtain rfl:Ug=s.os:=os;exact⟨v,H',I.call (h':=hh) (g':=g) (d':=d) (t':=t) (ch:=[]) un aL bare (λb z=>absurd z (by simp)),r,q⟩
end
def NX(sp:Sp)(dvs:List V)(E:XK)(t:TA):TE:=λσ H Q=>t σ H λvs H1=>sp (vs++dvs) H1 Q E
def NY(C:Addr)(m:Str)(sp:Sp)(dvs:List V)(E:XK)(ta:TE)(t:TA):TE:=λσ H Q=>ta σ H λx H1=>∃a dx fs,x=.ref a/\H1 a=some (.ins C dx fs)/\fs.lookup m=none /\
 t σ H1 λvs H2=>sp (x::(vs++dvs)) H2 Q E
def NZ(C:Addr)(sp:Sp)(dvs:List V)(E:XK)(t:TA):TE:=λσ H Q=>t σ H λvs H1=>∀x dx,H1 x=none->H1 dx=none->dx≠x ->
 sp (.ref x::(vs++dvs)) (upd (upd H1 dx (.own x)) x (.ins C dx [])) (λv H2=>v=.a8/\Q (.ref x) H2) E
def Binds(K:PySem.W.Frag)(fd:FuncData)(ps:List Str)(ds:List Value):Prop:=
 ∀(s:Shared) (us:List Value),K.In s.heap->(us++ds).length=ps.length->BindsTo s fd ⟨us,[]⟩ (ps.zip (us++ds))
theorem Binds.all{K:PySem.W.Frag}{fd:FuncData}{ps:List Str}(h:∀us:List Value,us.length=ps.length->bindArgs fd ⟨us,[]⟩=pure (ps.zip us)):Binds K fd ps []:=λs us _ hl=>by rw[aaK] at hl⊢;exact .of_eq (h us hl)
def Passes(CX:md)(X:Cx)(E:XK):Prop:=∀(pins:List (Addr×Obj)) (σ:St) (H:Hp) (s:Shared) (e:Value) (s':Shared),Inv X pins σ H s->CX X.stack H s E e s'->X.xe e s'
section
theorem AX(F:aG X.prog X.w X.K X.mg X.base CX k f fd ps sp)(hr:cT k X.A)(hb:Binds X.K fd ps ds)(hd:Vals dvs ds)(hx:Passes CX X E)
  (I:Inv X pins σ H s) (r:Vals vs us) (h:sp (vs++dvs) H Q E):wpAny (model X.prog X.w) X.A (call (.ref f) us) (EP X pins σ Q) X.xe s:=by
 have r2:Vals (vs++dvs) (us++ds):=r.append hd;have hl:(us++ds).length=ps.length:=by rw[<-r2.length];exact F.len _ _ _ _ h
 refine afm (codeAny_mono (F.run X.A X.stack s H ⟨us,[]⟩ (us++ds) (vs++dvs) Q E hr I.J3 (hb s us I.dW hl) r2 h) λr s' hq=>?_);cases r with
 |error e=>exact hx pins σ H s e s' I hq
 |ok fl=>
  cases fl with
  |ret u=>exact I.after hq
  |next=>exact False.elim hq
  |brk=>exact False.elim hq
  |cont=>exact False.elim hq
theorem aJ(F:aG X.prog X.w X.K X.mg X.base CX k f fd ps sp)(hr:cT k X.A)(hg:Gl X x)(hm:X.mg x=some (.ref f))(hk:PySem.W.keepIn X.K (.ref f)=true)(hb:Binds X.K fd ps ds)(hd:Vals dvs ds)(hx:Passes CX X E)
  (ha:PA X (e::es) t) (hdb:(x==("__debug__" : Str))=false:=by decide) (he:starEach (e::es) X.env=(false,eval e X.env)::starEach es X.env:=by rfl) (hpl:(backTo pos (starEach es X.env)).any (·.1)=false:=by rfl) :
  PE X (.Call (.Name x p) (e::es) [] pos) (NX sp dvs E t):=by
 intro pins s σ H Q I h;refine aaN (qJ I hg hm ?_ hdb);refine aeI (h₀:=X.base) I.ok.mod.FT hk (aH (ha pos pins s σ H _ I h) λus s1 ⟨vs,H1,I1,r,q⟩=>⟨I1.dW,?_⟩) he hpl;exact AX F hr hb hd hx I1 r q
theorem bZ(he:PE X o ta)(c:l6 X.K C)(hm:Meth X.K C m f)(F:aG X.prog X.w X.K X.mg X.base CX k f fd ps sp)(hr:cT k X.A)(hb:Binds X.K fd ps ds)(hd:Vals dvs ds)(hx:Passes CX X E)
  (ht:eval (.Call (.Attribute o m apos) [] [] pos) X.env=(do
   let ov <-eval o X.env
   standAt apos.atName
   let (f,first) <-holding [ov] (getMethod ov m pl)
   callWith pos f first (backTo pos (starEach [] X.env)) (backToKw pos (keywordEach [] X.env))):=by rfl) :
  PE X (.Call (.Attribute o m apos) [] [] pos) (NY C m sp dvs E ta zo):=by
 intro pins s σ H Q I h;refine PySem.W.methodCall_KW (pl:=pl) (aH (he pins s σ H _ I h) λu s1 ⟨x,H1,I1,rx,a,dx,fs,ex,ea,l,q⟩=>?_) ht;subst ex;obtain rfl:u=Value.ref a:=rx;refine zj I1 ea c hm l ?_;exact PySem.W.callWith_K0 (first:=[.ref a]) I1.dW hm.kp (AX (us:=[.ref a]) (vs:=[.ref a]) F hr hb hd hx I1 (.cons rfl .nil) q)
structure Mk(K:PySem.W.Frag)(C f:Addr):Prop where
 makes:PySem.W.makesIn K C=true
 init:PySem.W.findIn K (.ref C) "__init__" = some (some (.ref f))
 fn:PySem.W.isFn K (.ref f)=true
 kp:PySem.W.keepIn K (.ref C)=true
theorem Dz(M:Mk X.K C f)(F:aG X.prog X.w X.K X.mg X.base CX k f fd ps sp)(hr:cT (k+1) X.A)(hb:Binds X.K fd ps ds)(hd:Vals dvs ds)
  (hx:Passes CX X E) (I:Inv X pins σ H s) (r:Vals vs us)
  (h:∀x dx,H x=none->H dx=none->dx≠x->sp (.ref x::(vs++dvs)) (upd (upd H dx (.own x)) x (.ins C dx [])) (λv H2=>v=.a8/\Q (.ref x) H2) E) :
  wpAny (model X.prog X.w) X.A (call (.ref C) us) (EP X pins σ Q) X.xe s:=by
 have hq:=h (s.heap.objs.size+1) s.heap.objs.size (I.aL.fresh (aaR _)) (I.aL.fresh (Zn _)) (ZQ (aav _));have I2:=Inv.made (C:=C) I;have r2:Vals (V.ref (s.heap.objs.size+1)::(vs++dvs)) (Value.ref (s.heap.objs.size+1)::(us++ds)):=.cons rfl (r.append hd);have hl:(Value.ref (s.heap.objs.size+1)::us++ds).length=ps.length:=by have e:=r2.length;rw[F.len _ _ _ _ hq] at e;exact e.symm
 refine afm (Dx (f:=f) I.dW M.makes M.init (beq_iff_eq.mp M.fn) (codeAny_mono (F.run _ X.stack _ _ ⟨Value.ref (s.heap.objs.size+1)::us,[]⟩ (Value.ref (s.heap.objs.size+1)::(us++ds)) _ _ E (hr.make C us [])
  (I2.J3.make C us []) (hb _ (Value.ref (s.heap.objs.size+1)::us) I2.dW hl) r2 hq) λr s' AY=>?_))
 cases r with
 |error e=>exact hx pins σ _ _ e s' I2 AY
 |ok fl=>
  cases fl with
  |ret u =>obtain⟨v,H',I3,rv,ev,q3⟩:=I2.after AY;subst ev;exact⟨rv,⟨V.ref (s.heap.objs.size+1),H',I3,rfl,q3⟩⟩
  |next=>exact False.elim AY
  |brk=>exact False.elim AY
  |cont=>exact False.elim AY
theorem qL(M:Mk X.K C f)(F:aG X.prog X.w X.K X.mg X.base CX k f fd ps sp)(hr:cT (k+1) X.A)(hg:Gl X x)(hm:X.mg x=some (.ref C))(hb:Binds X.K fd ps ds)(hd:Vals dvs ds)(hx:Passes CX X E)
  (ha:PA X (e::es) t) (hdb:(x==("__debug__" : Str))=false:=by decide) (he:starEach (e::es) X.env=(false,eval e X.env)::starEach es X.env:=by rfl) (hpl:(backTo pos (starEach es X.env)).any (·.1)=false:=by rfl) :
  PE X (.Call (.Name x p) (e::es) [] pos) (NZ C sp dvs E t):=by
 intro pins s σ H Q I h;refine aaN (qJ I hg hm ?_ hdb);refine aeI (h₀:=X.base) I.ok.mod.FT M.kp (aH (ha pos pins s σ H _ I h) λus s1 ⟨vs,H1,I1,r,q⟩=>⟨I1.dW,?_⟩) he hpl;exact Dz M F hr hb hd hx I1 r q
end
structure aQ(N P:List Str)(sc:Scope):Prop where
 kind:sc.kind=.function
 co:sc.isCoroutine=false
 gen:sc.isGenerator=false
 nd:N.Nodup
 pre:N.take P.length=P
 par:∀x∈P,sc.names.lookup x=some .local\/sc.names.lookup x=some .cell
 J':∀y∈sc.names,y.2≠.free
theorem rX{kindOf:Str->Option NameKind}:∀{binds:List (Str×Value)} {m:Str->Option Value},(∀v,(x,v)∉binds)->bindL kindOf binds m x=m x
 |[],_,_=>rfl
 |(n,v)::r,m,h=>by
  unfold bindL;rw[rX λw hw=>h w (ZC _ hw)];split
  ·have:x≠n:=by rintro rfl;exact h v Zy
   simp[this]
  ·rfl
theorem rY{kindOf:Str->Option NameKind}:∀{binds:List (Str×Value)} {m:Str->Option Value},(∀v,(x,v)∉binds)->bindC kindOf binds m x=m x
 |[],_,_=>rfl
 |(n,v)::r,m,h=>by
  unfold bindC;rw[rY λw hw=>h w (ZC _ hw)];split
  ·rfl
  ·have:x≠n:=by rintro rfl;exact h v Zy
   simp[this]
theorem rZ{kindOf:Str->Option NameKind}:∀{P:List Str} {vs:List Value} {i:Nat} {m:Str->Option Value},P.Nodup->P[i]?=some x->vs[i]?=some v->kindOf x=some .local ->
  bindL kindOf (P.zip vs) m x=some v
 |[],_,_,_,_,h,_,_=>by simp at h
 |_::_,[],_,_,_,_,h,_=>by simp at h
 |p::P,w::vs,0,m,nd,h1,h2,hk=>by
  simp at h1 h2;subst h1;subst h2;show bindL kindOf ((p,w)::P.zip vs) m p=_
  unfold bindL;rw[rX λv hv=>(ZT.mp nd).1 (abH hv).1,if_pos hk];simp
 |p::P,w::vs,i+1,m,nd,h1,h2,hk=>by
  show bindL kindOf ((p,w)::P.zip vs) m x=_
  unfold bindL;exact rZ (i:=i) (ZT.mp nd).2 (by simpa using h1) (by simpa using h2) hk
theorem sg{kindOf:Str->Option NameKind}:∀{P:List Str} {vs:List Value} {i:Nat} {m:Str->Option Value},P.Nodup->P[i]?=some x->vs[i]?=some v->kindOf x≠some .local ->
  bindC kindOf (P.zip vs) m x=some v
 |[],_,_,_,_,h,_,_=>by simp at h
 |_::_,[],_,_,_,_,h,_=>by simp at h
 |p::P,w::vs,0,m,nd,h1,h2,hk=>by
  simp at h1 h2;subst h1;subst h2;show bindC kindOf ((p,w)::P.zip vs) m p=_
  unfold bindC;rw[rY λv hv=>(ZT.mp nd).1 (abH hv).1,if_neg hk];simp
 |p::P,w::vs,i+1,m,nd,h1,h2,hk=>by
  show bindC kindOf ((p,w)::P.zip vs) m x=_
  unfold bindC;exact sg (i:=i) (ZT.mp nd).2 (by simpa using h1) (by simpa using h2) hk
def start(N:List Str)(vs:List V):St:=vs.map some++List.replicate (N.length-vs.length) none
def oE(CX:md)(P:Program)(w:World)(K:PySem.W.Frag)(mg:Str->Option Value)(base:Heap)(N:List Str)(qual:Str)(scope:Scope)(f:Addr)(cd:Value)(A:Around)(outer:List Env)(s:Shared)(H:Hp)(E:XK):Cx where
 prog:=P
 w:=w
 K:=K
 mg:=mg
 base:=base
 A:=A.deeper (envOfC qual scope s.heap.objs.size f cd)
 N:=N
 s₀:=s
 H₀:=H
 env:=envOfC qual scope s.heap.objs.size f cd
 outer:=outer
 stack:=envOfC qual scope s.heap.objs.size f cd::outer
 ex:=[]
 calm:=true
 fn:=λ_=>true
 pn:=[]
 xe:=λe s'=>wpAny (model P w) (A.deeper (envOfC qual scope s.heap.objs.size f cd)) (leaving (envOfC qual scope s.heap.objs.size f cd) e) (λ_ uF=>CX outer H s E e uF) (λe' uF=>CX outer H s E e' uF) s'
theorem uG{sc:Scope}(h:sc.names.lookup x=some .cell):∃c,(cellsFrom n sc.names []).lookup x=some c:=by have q:=ad0 sc.names n [] (.inl h);exact adw.mp q
theorem AZ{CX:md}{P:Program}{w:World}{K:PySem.W.Frag}{mg:Str->Option Value}{base:Heap}{N ps:List Str}{qual:Str}{scope:Scope}{f:Addr}{cd:Value}{A:Around}{outer:List Env}{s s1:Shared}{H:Hp}{E:XK}{us:List Value}{vs:List V}
  (S:aQ N ps scope) (hd:A.handled=none) (e0:oC P w K mg base A outer s H) (hl:vs.length=ps.length) (r:Vals vs us)
  (x:InCallC s s.heap.objs.size (bindL (envOfC qual scope s.heap.objs.size f cd).kindOf (ps.zip us) λ_=>none) (cellsFrom (s.heap.objs.size+1) scope.names []) (bindC (envOfC qual scope s.heap.objs.size f cd).kindOf (ps.zip us) λ_=>none) s1) :
  Inv (oE CX P w K mg base N qual scope f cd A outer s H E) [] (start N vs) H s1:=by
 have hpl:ps.length<=N.length:=by have:=congrArg List.length S.pre;rw[ZK] at this;omega
 obtain⟨h1,tk,rfl,hk⟩:=x.done;have noA:∀b:Addr,b∉(oE CX P w K mg base N qual scope f cd A outer s H E).ex:=λb z=>absurd (show b∈([]:List Addr) from z) (by simp);refine⟨⟨e0.mod,S.kind,rfl,rfl,Zn _,λy z c h1 h2=>?_,λy hy=>?_,λy c _ h=>?_,λ_=>hd,Around.frames_deeper e0.frames,.inr ⟨rfl,rfl⟩,λb z=>absurd z (noA b),e0.bs,e0.pz,λb _ _=>noA b,λb z=>absurd z (noA b),e0.iy,e0.uw⟩,
  rfl,e0.bare,Un.kept hk,⟨_,x.toInCall.ns,λi y v h1 h2 h3=>?_⟩,λy c h=>⟨_,x.cell y c h⟩,e0.aL.fresh (Zn _),λy c h=>?_,λp hp=>absurd (show p∈([]:List (Addr×Obj)) from hp) (by simp),e0.aL.kept hk,?_⟩
 ·exact name_of_addr x.apart (aaj h1) (aaj h2)
 ·have hy:scope.names.lookup y=some .cell\/scope.names.lookup y=some .free:=hy;rcases hy with hy|hy
  ·exact uG hy
  ·exact absurd rfl (S.J' _ (aaj hy))
 ·exact aag (x.above y c (aaj h))
 ·have hi:i<vs.length:=by
   unfold start at h2;by_cases hi:i<vs.length
   ·exact hi
   ·rw[aal (by simpa using hi)] at h2;rw[aaO] at h2;split at h2<;>cases h2
  have ha:vs[i]?=some v:=by
   unfold start at h2;rw[ZZ (by simpa using hi),Zo] at h2;cases e:vs[i]? with
   |none=>rw[e] at h2;cases h2
   |some a=>rw[e] at h2;cases h2;rfl
  obtain⟨u,hu,rv⟩:=r.get ha;have hp:ps[i]?=some y:=by rw[<-S.pre,List.getElem?_take_of_lt (by omega)];exact h1
  have Pg:ps.Nodup:=by rw[<-S.pre];exact S.nd.sublist (List.take_sublist _ _)
  refine⟨u,rv,?_⟩;rcases S.par y (Zr hp) with k|k
  ·exact .inl ⟨k,rZ Pg hp hu k⟩
  ·obtain⟨c,e⟩:=uG (n:=s.heap.objs.size+1) k;refine .inr ⟨.inl k,c,e,?_⟩;have q:=x.cell y c e;rw[sg Pg hp hu (by show scope.names.lookup y≠_;rw[k];decide)] at q;exact q
 ·exact e0.aL.fresh (aag (x.above y c (aaj h)))
 ·unfold start;show _=N.length
  rw[ZA,Zj,aa'];omega
theorem N0{CX:md}{P:Program}{w:World}{K:PySem.W.Frag}{mg:Str->Option Value}{base:Heap}{k:Nat}{f:Addr}{name qual:Str}{params:Arguments}{body:List Stmt}{scope:Scope}{dV kV doc pm cdv ct oc:Value}{an od:Option Addr}
  {osl:Array (Option Value)} {N ps:List Str} {sp:Sp} (lk:K.lookup f=some ⟨oc,od,.func (PySem.W.fnOf name qual params body scope dV kV doc pm an cdv ct),osl⟩) (hcd:PySem.W.codeIn K cdv qual=true) (S:aQ N ps scope)
  (len:∀vs H Q E,sp vs H Q E->vs.length=ps.length)
  (hbody:∀(A:Around) (outer:List Env) (s:Shared) (H:Hp) (vs:List V) (Q:VK) (E:XK),cT k (A.deeper (envOfC qual scope s.heap.objs.size f cdv))->sp vs H Q E ->
   ∃t,jP (oE CX P w K mg base N qual scope f cdv A outer s H E) body t/\t {nx:=λ_ H'=>Q .a8 H',rt:=Q} (start N vs) H) :
  aG P w K mg base CX (k+1) f (PySem.W.fnOf name qual params body scope dV kV doc pm an cdv ct) ps sp:=by
 refine⟨len,λA outer s H args us vs Q E hr e0 hb r hsp=>?_⟩;have hl:=len _ _ _ _ hsp;have KX:K.In s.heap:=e0.mod.FT.keeps λb o e=>(e0.bs b o e).1;have lim:s.heap.NoLimit:=e0.mod.nolimit.keeps λb o e=>(e0.bs b o e).1;have N3:∀y∈ps.zip us,scope.names.lookup y.1=some .local\/(scope.names.lookup y.1=some .cell/\((cellsFrom (s.heap.objs.size+1) scope.names []).lookup y.1).isSome=true):=λ⟨n,v⟩ hy=>by
  rcases S.par n (abH hy).1 with q|q
  ·exact .inl q
  ·exact .inr ⟨q,ad0 _ _ _ (.inl q)⟩
 refine codeAny_call_function hr.depth (KX _ _ lk) rfl S.co S.gen rfl (PySem.W.codeRec_of KX hcd) (hb _ _ _ _ ?_);refine wpAny_newFunctionEnv_cells S.kind N3 λenv he s1 x=>?_;subst he;refine⟨lim.keeps x.toInCall.keep,codeAny_func ?_⟩;obtain⟨t,ht,hq⟩:=hbody A outer s H vs Q E (hr.deeper _) hsp;have I:Inv (oE CX P w K mg base N qual scope f cdv A outer s H E) [] (start N vs) H s1:=AZ S hr.hd e0 hl r x;refine wpAny_mono (ht [] s1 (start N vs) H _ I hq) (λfl s' hs=>?_) λe s' hs=>hs;have fin:∀{σ':St} {H':Hp} {v:V} {u:Value},Inv (oE CX P w K mg base N qual scope f cdv A outer s H E) [] σ' H' s'->RelV v u->Q v H'->CE outer P w H s Q u s':=
  λ{σ' H' v u} J rv q=>⟨v,H',J.os,J.bare,J.base,J.aL,rv,q⟩
 cases fl with
 |ret u =>obtain⟨v,σ',H',J,rv,q⟩:=hs;exact fin J rv q
 |next =>obtain⟨σ',H',J,q⟩:=hs;exact fin (v:=V.a8) (u:=Value.none) J rfl q
 |brk =>obtain⟨_,_,_,q⟩:=hs;exact False.elim q
 |cont =>obtain⟨_,_,_,q⟩:=hs;exact False.elim q
section
variable {X:Cx}{x:Str}{p pos:Pos}{e:Expr}{es:List Expr}{t:TA}{id T:String}{r:List V->Hp->VK->Prop}
def Pj(r:List V->Hp->VK->Prop)(t:TA):TE:=λσ H Q=>t σ H λvs H1=>r vs H1 Q
theorem aA(hc:cG X (.builtin id) r)(hg:Gl X x)(hm:X.mg x=none)(hv:bootBuiltins x=some (.builtin id))(ha:PA X (e::es) t)(hn:x≠"__name__" := by decide)(hdb:(x==("__debug__" : Str))=false:=by decide)
  (he:starEach (e::es) X.env=(false,eval e X.env)::starEach es X.env:=by rfl) (hpl:(backTo pos (starEach es X.env)).any (·.1)=false:=by rfl):PE X (.Call (.Name x p) (e::es) [] pos) (Pj r t):=by
 intro pins s σ H Q I h;refine aaN (gu I hg hm hv ?_ hn hdb);exact acL (aH (ha pos pins s σ H _ I h) λus s1 ⟨vs,H1,I1,r1,q1⟩=>hc pins s1 σ H1 vs us Q I1 r1 q1) he hpl
theorem bR(hc:cG X (.type T) r)(hg:Gl X x)(hm:X.mg x=none)(hv:bootBuiltins x=some (.type T))(ha:PA X (e::es) t)(hn:x≠"__name__" := by decide)(hdb:(x==("__debug__" : Str))=false:=by decide)
  (he:starEach (e::es) X.env=(false,eval e X.env)::starEach es X.env:=by rfl) (hpl:(backTo pos (starEach es X.env)).any (·.1)=false:=by rfl):PE X (.Call (.Name x p) (e::es) [] pos) (Pj r t):=by
 intro pins s σ H Q I h;refine aaN (gu I hg hm hv ?_ hn hdb);exact aaM (aH (ha pos pins s σ H _ I h) λus s1 ⟨vs,H1,I1,r1,q1⟩=>hc pins s1 σ H1 vs us Q I1 r1 q1) he hpl
end
end L2
namespace HT
open PySem PyProof.Rows
def lexLt:List Int->List Int->Bool
 |[],[]=>false
 |[],_::_=>true
 |_::_,[]=>false
 |x::xs,y::ys=>if x=y then lexLt xs ys else decide (x<y)
theorem kL(x y:Int)(xs ys:List Int):lexLt (x::xs) (y::ys)=if x=y then lexLt xs ys else decide (x<y):=rfl
theorem lG:lexLt [] []=false:=rfl
theorem qM(y:Int)(ys:List Int):lexLt [] (y::ys)=true:=rfl
theorem qN(x:Int)(xs:List Int):lexLt (x::xs) []=false:=rfl
theorem DG(A:Around)(s:Shared)(a:Int)(t:Tok)(c:Int)(u:Tok):∃e,SeqAt.EqAt A s (.int a t) (.int c u) e/\(e=true ↔ a=c):=
 ⟨(a==c),aeJ a t c u,by simp⟩
theorem DJ(A:Around)(s:Shared)(a:Int)(t:Tok)(c:Int)(u:Tok)(prog:Program)(w:World)(E:Value->Shared->Prop)(Q:Value->Shared->Prop)(h:Q (.bool (decide (a<c))) s) :
  wpAny (model prog w) A (richCompare .Lt (.int a t) (.int c u)) Q E s:=
 (aew h:wpAny (model prog w) A (compareOp .Lt (.int a t) (.int c u)) Q E s)
section
open PySem.SeqAt
open PySem.AutoSeq1 (wpAny_loadPart')
open PySem.MeetsSeq PySem.MeetsSeq2 PySem.MeetsSeq3
theorem tV(l b:Addr)(items gv:Array Value)(n n2:Nat)(dd nI:Option Addr)(sl si:Array (Option Value))(ns ms:List Int)(hi:IntsAre items.toList ns)(hj:IntsAre gv.toList ms) :
  Meets (Builtin.«tuple.__lt__» ⟨[.ref l,.ref b],[]⟩)
   (λ_ R s=>s.heap.get? l=some {cls:=.type "tuple",dict:=dd,data:=.seq items n,slots:=sl}/\s.heap.get? b=some {cls:=.type "tuple",dict:=nI,data:=.seq gv n2,slots:=si} /\
    R (.ok (.ret (.bool (lexLt ns ms)))) s):=
 .of_wp λprog w A R s h=>by
  obtain⟨hp,g,d,tk,os⟩:=s;obtain⟨hl,hb,h⟩:=h;have f2:=AutoSeq1.sub_tuple_tuple;have z1:items.size=ns.length:=by rw[<-hi.length];simp
  have z2:gv.size=ms.length:=by rw[<-hj.length];simp
  wp_walk using wpAny_loadPart' hl,wpAny_loadPart' hb,abW _ (λrest b s'=>b.1=none/\s'=⟨hp,g,d,tk,os⟩/\∃(vs ws:List Value) (ns' xK:List Int),rest=vs.zip ws /\
   IntsAre vs ns'/\IntsAre ws xK/\ns'.length+gv.size=xK.length+items.size/\R (.ok (.ret (.bool (lexLt ns' xK)))) ⟨hp,g,d,tk,os⟩) _
  case turn=>
   rintro⟨y,x⟩ rest b s' ⟨hb',rfl,vs,ws,ns',xK,hz,Ka,F0,hlen,hR⟩;cases Ka with
   |nil=>rw[aeZ] at hz;cases hz
   |cons a t RG=>
    cases F0 with
    |nil=>rw[aeK] at hz;cases hz
    |cons c u RH=>
     rw[abI] at hz;injection hz with Uh zq;injection Uh with hy hx;subst hy hx;rw[kL] at hR;simp only[Zz] at hlen;obtain⟨e,he,hiff⟩:=DG A.in1 ⟨hp,g,d,tk,os⟩ a t c u;refine wpAny_bind (he prog w _ _ ?_);cases e with
     |true=>
      rw[if_pos (hiff.mp rfl)] at hR;wp_walk
      exact⟨rfl,rfl,_,_,_,_,zq,RG,RH,by omega,hR⟩
     |false=>
      rw[if_neg (λq=>absurd (hiff.mpr q) ZM)] at hR;have hri:=DJ A.in1 ⟨hp,g,d,tk,os⟩ a t c u prog w;wp_walk using hri
      exact⟨_,rfl,by simpa using hR⟩
  case fin=>
   rintro⟨b1,b2⟩ s' ⟨hb',rfl,vs,ws,ns',xK,hz,Ka,F0,hlen,hR⟩;simp only at hb';subst hb';have hv:lexLt ns' xK=decide (items.size<gv.size):=by
    cases Ka with
    |nil=>
     cases F0 with
     |nil =>simp only[aaL] at hlen;rw[lG];exact(decide_eq_false (by omega)).symm
     |cons c u hw =>simp only[aaL,Zz] at hlen;rw[qM];exact(decide_eq_true (by omega)).symm
    |cons a t hv=>
     cases F0 with
     |nil =>simp only[aaL,Zz] at hlen;rw[qN];exact(decide_eq_false (by omega)).symm
     |cons c u hw =>rw[abI] at hz;cases hz
   rw[hv] at hR;wp_walk
   exact⟨_,rfl,by simpa [Builtin.Tuple.tupleCompareSizes] using hR⟩
  case h =>exact⟨rfl,rfl,items.toList,gv.toList,ns,ms,rfl,hi,hj,by omega,h⟩
end
section
theorem zt(hl:IsTup s.heap l items)(hb:IsTup s.heap b gv)(hi:IntsAre items.toList ns)(hj:IntsAre gv.toList ms)
  (hu:A.units<cLine) (h:Q (.bool (lexLt ns ms)) s):wpAny (model prog w) A (compareOp .Lt (.ref l) (.ref b)) Q E s:=by
 obtain⟨⟨cls,dd,data,sl⟩,ho,hc,n,hd⟩:=id hl;obtain⟨⟨Kb,nI,data2,si⟩,gK,sj,n2,hd2⟩:=id hb;simp only at hc hd sj hd2;subst hc hd sj hd2;exact richCompare_meets_room (op:=.Lt) ⟨_,ho,rfl⟩ ⟨_,gK,rfl⟩ PySem.F.slot_tuple_lt PySem.F.entry_tuple_lt (PySem.F.args_tuple_lt_2 _ _) (tV l b items gv n n2 dd nI sl si ns ms hi hj)
  ⟨ho,gK,show Value.bool (lexLt ns ms)≠Value.notImplemented/\Q (.bool (lexLt ns ms)) s from⟨(λx=>nomatch x),h⟩⟩ hu
theorem HF(ht:IsTup s.heap t vs.toArray)(hb:IsTup s.heap b ws.toArray)(hv:vs≠[])
  (h1:ws=[]->Q (.ref t) s) (h2:ws≠[]->Q (.ref s.heap.objs.size) {s with heap:=s.heap.push {cls:=.type "tuple",data:=.seq (vs++ws).toArray} })
  (hsz:vs.length+ws.length<=sizeLine):wpAny (model prog w) A (binaryOp .Add (.ref t) (.ref b)) Q E s:=by
 obtain⟨⟨cls,dd,data,sl⟩,ho,hc,n,hd⟩:=id ht;obtain⟨⟨Kb,nI,data2,si⟩,gK,sj,n2,hd2⟩:=id hb;simp only at hc hd sj hd2;subst hc hd sj hd2;have e:vs.toArray++ws.toArray=(vs++ws).toArray:=by simp
 by_cases hw:ws=[]
 ·exact aeL ⟨_,ho,rfl⟩ ⟨_,gK,rfl⟩ adx aeu acr acg (ab6 _ _)
   (tuple_addW1 t b vs.toArray ws.toArray n n2 dd nI sl si (by simpa using hv) (by simp[hw])) ⟨ho,gK,h1 hw⟩
 ·refine aeL ⟨_,ho,rfl⟩ ⟨_,gK,rfl⟩ adx aeu acr acg (ab6 _ _)
   (tuple_addW2 t b vs.toArray ws.toArray n n2 dd nI sl si (by simpa using hv) (by simpa using hw) (by rw[Zt,Zt];exact hsz)) ⟨ho,gK,?_⟩
  rw[e];exact h2 hw
def bq(n d:Nat):Option Int->Nat
 |none=>d
 |some v=>if v<0 then (v+(n:Int)).toNat else min v.toNat n
theorem uH(n d:Nat):bq n d none=d:=rfl
theorem qO(n d k:Nat):bq n d (some (k:Int))=min k n:=by
 show(if (k:Int)<0 then ((k:Int)+(n:Int)).toNat else min (k:Int).toNat n)=min k n
 rw[if_neg (by omega),aaT]
theorem Kc(n d:Nat)(hd:d<=n)(o:Option Int):bq n d o<=n:=by
 cases o with
 |none=>exact hd
 |some v=>
  show(if v<0 then (v+(n:Int)).toNat else min v.toNat n)<=n
  by_cases hv:v<0
  ·rw[if_pos hv];omega
  ·rw[if_neg hv];exact acz _ _
theorem xM(v:Int)(n d:Nat):(if v<0 then max (v+(n:Int)) 0 else min v (n:Int))=((bq n d (some v):Nat):Int):=by
 show(if v<0 then max (v+(n:Int)) 0 else min v (n:Int))=(((if v<0 then (v+(n:Int)).toNat else min v.toNat n):Nat):Int)
 by_cases hv:v<0
 ·simp only[if_pos hv];omega
 ·simp only[if_neg hv];omega
theorem zw(lo hi:Option Int)(n:Nat):Builtin.Slice.sliceAdjust lo hi 1 (n:Int)=(((bq n 0 lo:Nat):Int),((bq n n hi:Nat):Int)):=by
 have h1:¬ ((1:Int)<0):=by omega
 unfold Builtin.Slice.sliceAdjust;simp only[h1,aam];refine acA ?_ ?_
 ·cases lo with
  |none=>rfl
  |some v=>exact xM v n 0
 ·cases hi with
  |none=>rfl
  |some v=>exact xM v n n
theorem zA(i j:Nat):Builtin.Slice.slicePlaces (i:Int) (j:Int) 1=j-i:=by
 unfold Builtin.Slice.slicePlaces;have h1:(1:Int) > 0:=by omega
 simp only[h1,Z7,Int.ediv_one];split<;>omega
theorem pK(p:IsPart v o)(h:Q o s):wpAny (model prog w) A (Builtin.Slice.slicePartIndex v) Q E s:=by
 cases p with
 |none=>exact slicePart_none h
 |int i t=>exact slicePart_int h
theorem iU{lo hi:Option Int}{Q:Int×Int×Nat->Shared->Prop}(hs:s.heap.IsSliceOf sl vl vu .none)(pl:IsPart vl lo)(pu:IsPart vu hi)
  (h:Q (((bq n 0 lo:Nat):Int),1,bq n n hi-bq n 0 lo) s):wpAny (model prog w) A (Builtin.Slice.sliceApplied (.ref sl) (pure (n:Int))) Q E s:=by
 obtain⟨os,dN,F3,dO⟩:=id hs;unfold Builtin.Slice.sliceApplied Builtin.Slice.sliceFields;refine wpAny_bind (wpAny_bind (wpAny_field dN dO (x:=vl) rfl (wpAny_bind (wpAny_field dN dO (x:=vu) rfl (wpAny_bind (wpAny_field dN dO (x:=.none) rfl (wpAny_pure ?_)))))));refine wpAny_bind (slicePart_none ?_);show wpAny _ _ (if ((1:Int)==0)=true then _ else _) _ _ s
 rw[if_neg (by decide)];refine wpAny_bind (pK pl (wpAny_bind (pK pu (wpAny_bind (wpAny_pure ?_)))));show wpAny _ _ (match Builtin.Slice.sliceAdjust lo hi 1 (n:Int) with|(lo,hi)=>pure (lo,(1:Int),Builtin.Slice.slicePlaces lo hi 1)) _ _ s
 rw[zw lo hi n];show wpAny _ _ (pure (((bq n 0 lo:Nat):Int),(1:Int),Builtin.Slice.slicePlaces ((bq n 0 lo:Nat):Int) ((bq n n hi:Nat):Int) 1)) _ _ s
 rw[zA];exact wpAny_pure h
theorem DK(xs:Array Value)(i k:Nat):((List.range k).filterMap λ(m:Nat)=>xs[((i:Int)+(m:Int)*1).toNat]?).toArray=((xs.toList.drop i).take k).toArray:=by
 have e:(λ(m:Nat)=>xs[((i:Int)+(m:Int)*1).toNat]?)=λm=>xs[i+m]?:=by
  funext m
  have:((i:Int)+(m:Int)*1).toNat=i+m:=by omega
  rw[this]
 rw[e]
 have:=pick_run xs i k
 rw[List.filterMap_map] at this;have e2:((λx=>xs[x]?)∘λx=>i+x)=λm=>xs[i+m]?:=rfl;rw[e2] at this;rw[this]
theorem nC{items:Array Value}{lo hi:Option Int}{Q:Value->Shared->Prop}(ht:IsTup s.heap t items)(hs:s.heap.IsSliceOf sl vl vu .none)(pl:IsPart vl lo)(pu:IsPart vu hi)
  (hw:¬ (bq items.size 0 lo=0/\bq items.size items.size hi=items.size))
  (h:Q (.ref s.heap.objs.size) {s with heap:=s.heap.push {cls:=.type "tuple",data:=.seq ((items.toList.drop (bq items.size 0 lo)).take (bq items.size items.size hi-bq items.size 0 lo)).toArray} })
  (hsz:items.size<=sizeLine):wpAny (model prog w) A (getItem (.ref t) (.ref sl)) Q E s:=by
 have uc:sizeOk (.seq ((items.toList.drop (bq items.size 0 lo)).take (bq items.size items.size hi-bq items.size 0 lo)).toArray):=by
  show((items.toList.drop (bq items.size 0 lo)).take (bq items.size items.size hi-bq items.size 0 lo)).toArray.size<=sizeLine
  rw[Zt,ZK,aaP,Z9];omega
 have hj:bq items.size items.size hi<=items.size:=Kc _ _ (Zn _) hi;obtain⟨os,dN,F3,dO⟩:=id hs;have Kd:s.TypeIs (.ref sl) "slice" := ⟨os,dN,F3⟩
 unfold getItem;try with_reducible refine wpAny_holding ?_
 first|refine wpAny_bind (wpAny_pure ?_)|skip
 refine wpAny_bind (wpAny_sequenceKey ht.typeIs (by decide) ?_);refine wpAny_bind (aar (name:=Str.ofString "__getitem__") ht.typeIs aaA
  (wpAny_call_entry aaA ht.typeIs entry_tuple_getitem ?_ (args_tuple_getitem _ _)))
 show wpAny _ _ (Builtin.Tuple.tupleItemsOf (.ref t)>>=_) _ _ s
 refine wpAny_bind (tupleItemsOf_ ht ?_);refine wpAny_bind (wpAny_typeOf Kd ?_);rw[if_pos (by decide)];refine wpAny_bind (iU hs pl pu ?_);have Ui:¬ ((((bq items.size 0 lo:Nat):Int)==0&&(1:Int)==1&&(bq items.size items.size hi-bq items.size 0 lo)==items.size)=true):=by intro q;rw[aa7,aa7] at q;have q1:((bq items.size 0 lo:Nat):Int)=0:=eq_of_beq q.1.1;have q2:bq items.size items.size hi-bq items.size 0 lo=items.size:=eq_of_beq q.2;exact hw ⟨by omega,by omega⟩
 show wpAny _ _ (if (((bq items.size 0 lo:Nat):Int)==0&&(1:Int)==1&&(bq items.size items.size hi-bq items.size 0 lo)==items.size)=true then _ else _) _ _ s
 rw[if_neg Ui,DK];first
  |exact wpAny_bind (m:=Builtin.Tuple.tupleExact _) (wpAny_newObj_type (wpAny_pure ⟨_,rfl,wpAny_pure h⟩) uc)
  |exact wpAny_bind (m:=Builtin.Tuple.tupleExact _) (wpAny_newObj_type (wpAny_bind (wpAny_pure (wpAny_pure ⟨_,rfl,wpAny_pure h⟩))) uc)
  |exact wpAny_bind (wpAny_bind (m:=Builtin.Tuple.tupleExact _) (wpAny_newObj_type (wpAny_pure (wpAny_pure ⟨_,rfl,wpAny_pure h⟩)) uc))
  |exact wpAny_bind (wpAny_bind (m:=Builtin.Tuple.tupleExact _) (wpAny_newObj_type (wpAny_pure ⟨_,rfl,wpAny_pure h⟩) uc))
end
end HT
namespace L2
open PySem PySem.Spec PyProof.Rows
abbrev TO:=St->Hp->(Option Int->Hp->Prop)->Prop
def PO(X:Cx)(e:Option Expr)(t:TO):Prop:=
 ∀(pins:List (Addr×Obj)) (s:Shared) (σ:St) (H:Hp) (Q:Option Int->Hp->Prop),Inv X pins σ H s->t σ H Q ->
  wpAny (model X.prog X.w) X.A (evalPart e X.env) (λu s'=>∃o H',Inv X pins σ H' s'/\IsPart u o/\Q o H') X.xe s
def jU:TO:=λ_ H Q=>Q none H
def pL(t:TE):TO:=λσ H Q=>t σ H λx H1=>∃i,x=.int i/\Q (some i) H1
theorem intsAre_of:∀{us:List Value},Vals (ns.map V.int) us->IntsAre us ns:=by
 induction ns with
 |nil=>intro us r;rw[ab7] at r;cases r;exact .nil
 |cons n ns ih=>
  intro us r;rw[ZI] at r;cases r with
  |cons r1 r2 =>obtain⟨t,e⟩:=r1;subst e;exact .cons n t (ih r2)
section
variable {X:Cx}{e:Expr}{te:TE}{lo hi:Option Expr}{tl th:TO}{pos p2:Pos}
theorem fY:PO X none jU:=by intro pins s σ H Q I h;rw[aev];exact wpAny_pure ⟨none,H,I,.none,h⟩
theorem eM(h:PE X e te):PO X (some e) (pL te):=by intro pins s σ H Q I hw;rw[evalPart_some];refine aH (h pins s σ H _ I hw) λu s1 ⟨x,H1,I1,r1,q1⟩=>?_;obtain⟨i,rfl,q⟩:=q1;obtain⟨t,rfl⟩:=r1;exact⟨some i,H1,I1,.int i t,q⟩
def F5(X:Cx)(r:V->Option Int->Option Int->Hp->VK->Prop):Prop:=
 ∀(pins:List (Addr×Obj)) (s:Shared) (σ:St) (H:Hp) (x:V) (v vl vu:Value) (lo hi:Option Int) (sl:Addr) (Q:VK),Inv X pins σ H s->RelV x v->s.heap.IsSliceOf sl vl vu .none->IsPart vl lo->IsPart vu hi->r x lo hi H Q ->
  ∃T id,typeLookup (.type T) "__getitem__" = pure (some (.builtin id))/\s.TypeIs v T/\wpAny (model X.prog X.w) X.A (getItem v (.ref sl)) (EP X pins σ Q) X.xe s
def A0(r:V->Option Int->Option Int->Hp->VK->Prop)(te:TE)(tl th:TO):TE:=λσ H Q=>te σ H λx H1=>tl σ H1 λl H2=>th σ H2 λu H3=>r x l u H3 Q
theorem eB(hr:F5 X r)(he:PE X e te)(hl:PO X lo tl)(hu:PO X hi th):PE X (.Subscript e (.Slice lo hi none p2) pos) (A0 r te tl th):=by
 intro pins s σ H Q I h;refine aen (aH (he pins s σ H _ I h) λv s1 ⟨x,H1,I1,r1,q1⟩=>?_);refine wpAny_Slice (aH (hl pins s1 σ H1 _ I1 q1) λvl s2 ⟨l,H2,I2,pl,q2⟩=>aH (hu pins s2 σ H2 _ I2 q2) λvu s3 ⟨u,H3,I3,pu,q3⟩=>?_);rw[aev];refine wpAny_pure ?_;have I4:Inv X pins σ H3 {s3 with heap:=s3.heap.push {cls:=.type "slice",data:=.fields #[vl,vu,.none]} }:=I3.kept (t':=s3.toks) λb ob q=>Zl _ q;obtain⟨T,id,hT,ht,hg⟩:=hr pins {s3 with heap:=s3.heap.push {cls:=.type "slice",data:=.fields #[vl,vu,.none]} } σ H3 x v vl vu l u s3.heap.objs.size Q I4 r1 (aeM ..) pl pu q3;show wpAny (model X.prog X.w) X.A (subscriptTail e (.Slice lo hi none p2) v (.ref s3.heap.objs.size)) (EP X pins σ Q) X.xe {s3 with heap:=s3.heap.push {cls:=.type "slice",data:=.fields #[vl,vu,.none]} }
 exact af1 (ops:=[.ref s3.heap.objs.size,v]) ht hT hg (by with_unfolding_all rfl)
def fu(xs:List V)(lo hi:Option Int):List V:=(xs.drop (HT.bq xs.length 0 lo)).take (HT.bq xs.length xs.length hi-HT.bq xs.length 0 lo)
theorem nJ(xs:List V)(lo hi:Option Int):(fu xs lo hi).length<=xs.length:=by unfold fu;rw[ZK,aaP];omega
def RI(K:PySem.W.Frag):V->Option Int->Option Int->Hp->VK->Prop:=λx lo hi H Q=>∃a xs,x=.ref a/\aO K H a xs /\
 ¬ (HT.bq xs.length 0 lo=0/\HT.bq xs.length xs.length hi=xs.length)/\∀p,H p=none->Q (.ref p) (upd H p (.tup (fu xs lo hi)))
theorem Ke:F5 X (RI X.K):=by
 rintro pins s σ H x v vl vu lo hi sl Q I rx hs pl pu ⟨a,xs,rfl,hx,hw,q⟩;cases rx;obtain⟨its,r,ht,hz⟩:=I.tuple hx;have hlen:its.toArray.size=xs.length:=by rw[Zt];exact r.length.symm
 refine⟨"tuple",_,aaA.lookup,ht.typeIs,?_⟩;refine HT.nC ht hs pl pu (by rw[hlen];exact hw) ?_ (by rw[hlen];exact hz);rw[hlen];refine⟨.ref s.heap.objs.size,_,I.laid (t':=s.toks) (o:=.tup (fu xs lo hi)) (λb ob q=>Zl _ q) (Zn _) ?_,rfl,q _ (I.aL.fresh (Zn _))⟩;exact⟨Zu (nJ xs lo hi) hz,_,(r.drop (HT.bq xs.length 0 lo)).take (HT.bq xs.length xs.length hi-HT.bq xs.length 0 lo),afw _ _⟩
def N4(K:PySem.W.Frag):R2:=λx y H Q=>∃a b xs ys,x=.ref a/\y=.ref b/\aO K H a xs/\aO K H b ys/\xs≠[]/\xs.length+ys.length<=sizeLine /\
 (ys=[]->Q (.ref a) H)/\(ys≠[]->∀p,H p=none->Q (.ref p) (upd H p (.tup (xs++ys))))
theorem Vals.mX(r:Vals xs us):us=[] ↔ xs=[]:=by
 cases r with
 |nil=>simp
 |cons _ _=>simp
theorem HG:cL X (binaryOp .Add) (N4 X.K):=by rintro pins s σ H x y v u Q I rx ry ⟨a,b,xs,ys,rfl,rfl,ha,hb,hx,hz,q1,q2⟩;cases rx;cases ry;obtain⟨its,r1,p1,_⟩:=I.tuple ha;obtain⟨gw,r2,p2,_⟩:=I.tuple hb;refine HT.HF p1 p2 (λz=>hx (r1.mX.mp z)) (λz=>⟨.ref a,H,I,rfl,q1 (r2.mX.mp z)⟩) (λz=>?_) (by rw[<-r1.length,<-r2.length];exact hz);refine⟨.ref s.heap.objs.size,_,I.laid (t':=s.toks) (o:=.tup (xs++ys)) (λb ob q=>Zl _ q) (Zn _) ?_,rfl,q2 (λw=>z (r2.mX.mpr w)) _ (I.aL.fresh (Zn _))⟩;exact⟨by rw[ZA];exact hz,_,r1.append r2,afw _ _⟩
end
def uI(n:Nat)(i:Int):Option Nat:=if 0<=i then (if i<n then some i.toNat else none) else if -(n:Int)<=i then some (i+n).toNat else none
def iV{α:Type}(xs:List α)(i:Int):Option α:=(uI xs.length i).bind λj=>xs[j]?
theorem xN(h:uI n i=some j):seqIndex? i n=some j/\j<n/\-(n:Int)<=i/\i<n:=by
 unfold uI at h;by_cases h0:0<=i
 ·rw[if_pos h0] at h;by_cases h1:i<n
  ·rw[if_pos h1] at h;have e:i.toNat=j:=ZH h;exact⟨by rw[ae9 h0 h1,e],by omega,by omega,h1⟩
  ·rw[if_neg h1] at h;cases h
 ·rw[if_neg h0] at h;by_cases h1:-(n:Int)<=i
  ·rw[if_pos h1] at h;have e:(i+n).toNat=j:=ZH h;exact⟨by rw[aeN (by omega) h1,e],by omega,h1,by omega⟩
  ·rw[if_neg h1] at h;cases h
theorem qP(h:iV xs i=some v):∃j,seqIndex? i xs.length=some j/\xs[j]?=some v/\j<xs.length/\-(xs.length:Int)<=i/\i<xs.length:=by
 unfold iV at h;cases e:uI xs.length i with
 |none=>rw[e] at h;cases h
 |some j =>rw[e] at h;obtain⟨h1,h2,h3,h4⟩:=xN e;exact⟨j,h1,h,h2,h3,h4⟩
theorem cw{α:Type}{xs:List α}{j:Nat}{v:α}(h:xs[j]?=some v):iV xs (j:Int)=some v:=by
 have hj:j<xs.length:=(Zq.mp h).1;have e:uI xs.length (j:Int)=some j:=by unfold uI;rw[if_pos (by omega),if_pos (by omega)];simp
 unfold iV;rw[e];exact h
def HK(b:Expr):Prop:=∀o i,subscripted b false o i=operate [o,i] (getItem o i)
def F6(X:Cx)(r:R2):Prop:=
 ∀(value slice:Expr) (pins:List (Addr×Obj)) (s:Shared) (σ:St) (H:Hp) (x y:V) (v u:Value) (Q:VK),Inv X pins σ H s->RelV x v->RelV y u->r x y H Q ->
  subscripted slice false v u=operate [v,u] (getItem v u)->wpAny (model X.prog X.w) X.A (subscriptTail value slice v u) (EP X pins σ Q) X.xe s
def A3(X:Cx)(id:String)(r:V->List V->Hp->VK->Prop):Prop:=
 ∀(pins:List (Addr×Obj)) (s:Shared) (σ:St) (H:Hp) (x:V) (xs:List V) (v:Value) (us:List Value) (Q:VK),Inv X pins σ H s->RelV x v->Vals xs us->r x xs H Q ->
  wpAny (model X.prog X.w) X.A (call (.builtin id) (v::us)) (EP X pins σ Q) X.xe s
section
variable {X:Cx}{a b:Expr}{ta tb:TE}{pos:Pos}
theorem bX(hr:F6 X r)(ha:PE X a ta)(hb:PE X b tb)(hs:HK b):PE X (.Subscript a b pos) (pG r ta tb):=by intro pins s σ H Q I h;exact aen (Ds ha hb I h λv u s2 x y H2 I2 rx ry q=>hr a b pins s2 σ H2 x y v u Q I2 rx ry q (hs _ _))
def Kf(K:PySem.W.Frag):R2:=λx y H Q=>∃p xs i v,x=.ref p/\y=.int i/\aq K H p xs/\iV xs i=some v/\Q v H
def zB(K:PySem.W.Frag):R2:=λx y H Q=>∃p xs i v,x=.ref p/\y=.int i/\aO K H p xs/\iV xs i=some v/\Q v H
def RJ:R2:=λx y H Q=>∃z i c,x=.str z/\y=.int i/\z.length<=sizeLine/\iV z.cps.toList i=some c/\Q (.str ⟨#[c]⟩) H
theorem cJ:F6 X (Kf X.K):=by
 intro value slice pins s σ H x y v u Q I rx ry h hs;obtain⟨p,xs,i,z,rfl,rfl,hq,he,q⟩:=h;cases rx;obtain⟨t,rfl⟩:=ry;obtain⟨its,r,pl,hz⟩:=I.list hq;obtain⟨j,h1,h2,h3,h4,h5⟩:=qP he;obtain⟨w,ew,pN⟩:=r.get h2;have hl:=r.length;have hn:=hV;have fin:EP X pins σ Q w s:=⟨z,H,I,pN,q⟩
 by_cases h0:0<=i
 ·have hj:i.toNat=j:=by rw[ae9 h0 h5] at h1;exact ZH h1
  exact item_listR pl.isList h0 (by omega) (by rw[hj];simpa using ew) fin hs
 ·have hj:(i+(its.toArray.size:Int)).toNat=j:=by rw[aeN (by omega) h4] at h1;rw[Zt,<-hl];exact ZH h1
  exact ad1 (x:=w) pl.isList.typeIs slot_list_getitem.lookup
   (wpAny_getItem_list_neg (Q:=λr s'=>r=w/\EP X pins σ Q r s') pl.isList (by omega) (by rw[Zt]<;>omega) (by omega) (by rw[hj];simpa using ew) ⟨rfl,fin⟩) hs
theorem gx:F6 X (zB X.K):=by
 intro value slice pins s σ H x y v u Q I rx ry h hs;obtain⟨p,xs,i,z,rfl,rfl,hq,he,q⟩:=h;cases rx;obtain⟨t,rfl⟩:=ry;obtain⟨its,r,pl,hz⟩:=I.tuple hq;obtain⟨j,h1,h2,h3,h4,h5⟩:=qP he;obtain⟨w,ew,pN⟩:=r.get h2;have hl:=r.length;have hn:=hV;have fin:EP X pins σ Q w s:=⟨z,H,I,pN,q⟩
 exact ad1 (x:=w) pl.typeIs slot_tuple_getitem.lookup
  (getItem_tuple (j:=j) (Q:=λr s'=>r=w/\EP X pins σ Q r s') pl (by omega) (by omega) (by rw[Zt,<-hl];exact h1) (by simpa using ew) ⟨rfl,fin⟩) hs
theorem Kg:F6 X RJ:=by
 intro value slice pins s σ H x y v u Q I rx ry h hs;obtain⟨z,i,c,rfl,rfl,hz,he,q⟩:=h;obtain⟨t,rfl⟩:=rx;obtain⟨t',rfl⟩:=ry;obtain⟨j,h1,h2,h3,h4,h5⟩:=qP he;have hl:z.cps.toList.length=z.length:=by simp[Str.length]
 rw[hl] at h1 h4 h5;have hn:=hV;exact af1 (typeIs_str s z t) slot_str_getitem.lookup (getItem_str (c:=c) (by have e1:decide (i < -(2 ^ 63:Int))=false:=decide_eq_false (by omega);have e2:decide (i ≥ 2 ^ 63)=false:=decide_eq_false (by omega);rw[e1,e2,afx]) (by rw[h1];simpa using h2) ⟨.str ⟨#[c]⟩,H,I.tok _,⟨_,rfl⟩,q⟩) hs
theorem zC(its:List Value)(n j:Nat)(u:Value):Obj.mapSeq (·.setIfInBounds j u) {cls:=.type "list",data:=.seq its.toArray n}={cls:=.type "list",data:=.seq (its.set j u).toArray n}:=by simp[Obj.mapSeq]
theorem Inv.lst{pins:List (Addr×Obj)}{σ:St}{H:Hp}{s:Shared}{p:Addr}{xs:List V}(I:Inv X pins σ H s)(h:H p=some (.lst xs)) :
  ∃(its:List Value) (n:Nat),Vals xs its/\s.heap.get? p=some {cls:=.type "list",data:=.seq its.toArray n}/\xs.length<=sizeLine:=by
 obtain⟨z,its,n,r,e⟩:=I.aL p _ h;exact⟨its,n,r,e,z⟩
theorem Inv.Kh{pins:List (Addr×Obj)}{σ:St}{H:Hp}{s:Shared}{p:Addr}{xs ys:List V}{its its':List Value}{n n':Nat}{f:Obj->Obj}(I:Inv X pins σ H s)(h:H p=some (.lst xs))
  (ho:s.heap.get? p=some {cls:=.type "list",data:=.seq its.toArray n}) (hf:f {cls:=.type "list",data:=.seq its.toArray n}={cls:=.type "list",data:=.seq its'.toArray n' }) (r:Vals ys its') (hz:ys.length<=sizeLine) (t:Nat) :
  Inv X pins σ (upd H p (.lst ys)) {s with heap:=s.heap.update p f,toks:=t}:=by
 have e:(s.heap.update p f).get? p=some {cls:=.type "list",data:=.seq its'.toArray n' }:=by rw[aad f ho (by rw[hf]<;>rfl),hf]
 refine I.write (x:=p) (e:=p) (by rw[h];trivial) (.inl rfl) (λb u hb q=>(Z3 _ _ (Z0 hb)).trans q) ⟨_,e⟩ ?_;exact⟨hz,its',n',r,e⟩
def N5:V->V->V->Hp->(Hp->Prop)->Prop:=λo i v H Q=>∃p xs k j,o=.ref p/\i=.int k/\H p=some (.lst xs)/\uI xs.length k=some j/\Q (upd H p (.lst (xs.set j v)))
theorem set_list:JO X N5:=by
 rintro pins s σ H o i v ov iv u Q I ro ri rv ⟨p,xs,k,j,rfl,rfl,hp,hj,q⟩;cases ro;obtain⟨t,rfl⟩:=ri;obtain⟨its,n,r,ho,hz⟩:=I.lst hp;obtain⟨h1,h2,h3,h4⟩:=xN hj;have hl:=r.length;have hn:=hV;have I':Inv X pins σ (upd H p (.lst (xs.set j v))) {s with heap:=s.heap.update p (Obj.mapSeq (·.setIfInBounds j u))}:=
  I.Kh hp ho (zC its n j u) (r.set rv j) (by rw[List.length_set];exact hz) s.toks
 by_cases h0:0<=k
 ·have hk:k.toNat=j:=by rw[ae9 h0 h4] at h1;exact ZH h1
  exact PySem.W.ki_setAt ho h0 (by omega) (by rw[Zt,<-hl];exact h4) (by rw[hk];exact⟨_,I',q⟩)
 ·have hk:(k+(its.toArray.size:Int)).toNat=j:=by rw[aeN (by omega) h3] at h1;rw[Zt,<-hl];exact ZH h1
  exact PySem.W.ki_setBack ho (by omega) (by rw[Zt,<-hl];exact h3) (by omega) (by rw[hk];exact⟨_,I',q⟩)
theorem uJ(lo hi:Option Int)(n:Nat):(sliceBounds lo hi none n).1=((HT.bq n 0 lo:Nat):Int)/\(sliceBounds lo hi none n).2.1=((HT.bq n n hi:Nat):Int)/\(sliceBounds lo hi none n).2.2=1:=by
 refine⟨?_,?_,rfl⟩
 ·cases lo with
  |none=>simp[sliceBounds,HT.bq]
  |some i=>
   simp only[sliceBounds,HT.bq,afc,show(1:Int) > 0 by decide,Z7];by_cases h:i<0
   ·simp only[h,Z7]<;>omega
   ·simp only[h,aam]<;>omega
 ·cases hi with
  |none=>simp[sliceBounds,HT.bq]
  |some i=>
   simp only[sliceBounds,HT.bq,afc,show(1:Int) > 0 by decide,Z7];by_cases h:i<0
   ·simp only[h,Z7]<;>omega
   ·simp only[h,aam]<;>omega
theorem tW(its:List Value)(lo hi:Option Int):slicePick its.toArray lo hi none=((its.drop (HT.bq its.length 0 lo)).take (HT.bq its.length its.length hi-HT.bq its.length 0 lo)).toArray:=by obtain⟨h1,h2,h3⟩:=uJ lo hi its.toArray.size;unfold slicePick;rw[h1,h2,h3];simp only[sliceRange_one,pick_run,Zt]<;>rfl
def DM(K:PySem.W.Frag):V->Option Int->Option Int->Hp->VK->Prop:=λx lo hi H Q=>∃a xs,x=.ref a/\aq K H a xs/\∀p,H p=none->Q (.ref p) (upd H p (.lst (fu xs lo hi)))
theorem iI:F5 X (DM X.K):=by rintro pins s σ H x v vl vu lo hi sl Q I rx hs pl pu ⟨a,xs,rfl,hx,q⟩;cases rx;obtain⟨its,r,ht,hz⟩:=I.list hx;have hlen:=r.length;refine⟨"list",_,slot_list_getitem.lookup,ht.isList.typeIs,?_⟩;refine ady ht.isList hs pl pu .none (by simp) ?_ (by rw[Zt]<;>omega);rw[tW,<-hlen];refine⟨.ref s.heap.objs.size,_,I.laid (t':=s.toks) (o:=.lst (fu xs lo hi)) (λb ob q=>Zl _ q) (Zn _) ?_,rfl,q _ (I.aL.fresh (Zn _))⟩;exact⟨Zu (nJ xs lo hi) hz,_,0,(r.drop (HT.bq xs.length 0 lo)).take (HT.bq xs.length xs.length hi-HT.bq xs.length 0 lo),Zw _ rfl⟩
def cN:V->Bool
 |.a8=>true
 |.bl _=>true
 |.int _=>true
 |.str _=>true
 |_=>false
def hX:V->V->Bool
 |.a8,.a8=>true
 |.bl a,.bl b=>a==b
 |.bl a,.int b=>(if a then 1 else 0)==b
 |.int a,.bl b=>a==(if b then 1 else 0)
 |.int a,.int b=>a==b
 |.str a,.str b=>a==b
 |_,_=>false
theorem pO(ry:RelV y u)(rx:RelV x v)(fy:cN y=true)(fx:cN x=true):SeqAt.EqAt A s u v (hX y x):=by
 cases y with
 |a8=>
  cases ry;cases x with
  |a8=>cases rx;exact adP _
  |bl b=>cases rx;exact agc b
  |int b=>obtain⟨t,rfl⟩:=rx;exact agf b t
  |str b=>obtain⟨t,rfl⟩:=rx;exact agg b t
  |_=>exact absurd (show false=true from fx) ZM
 |bl a=>
  cases ry;cases x with
  |a8=>cases rx;exact agd a
  |bl b=>cases rx;exact age a b
  |int b=>obtain⟨t,rfl⟩:=rx;exact agh a b t
  |str b=>obtain⟨t,rfl⟩:=rx;exact agi a b t
  |_=>exact absurd (show false=true from fx) ZM
 |int a=>
  obtain⟨t',rfl⟩:=ry;cases x with
  |a8=>cases rx;exact agj a t'
  |bl b=>cases rx;exact agk a t' b
  |int b=>obtain⟨t,rfl⟩:=rx;exact aeJ a t' b t
  |str b=>obtain⟨t,rfl⟩:=rx;exact aeE a t' b t
  |_=>exact absurd (show false=true from fx) ZM
 |str a=>
  obtain⟨t',rfl⟩:=ry;cases x with
  |a8=>cases rx;exact agl a t'
  |bl b=>cases rx;exact agm a t' b
  |int b=>obtain⟨t,rfl⟩:=rx;exact aeF a t' b t
  |str b=>obtain⟨t,rfl⟩:=rx;exact agp a t' b t
  |_=>exact absurd (show false=true from fx) ZM
 |_=>exact absurd (show false=true from fy) ZM
def iW(x:V)(u:Value):Bool:=match u with
 |.none=>hX .a8 x
 |.bool b=>hX (.bl b) x
 |.int i _=>hX (.int i) x
 |.str z _=>hX (.str z) x
 |_=>false
theorem A4(r:RelV y u)(f:cN y=true):iW x u=hX y x:=by
 cases y with
 |a8=>cases r;rfl
 |bl b=>cases r;rfl
 |int i=>obtain⟨t,rfl⟩:=r;rfl
 |str z=>obtain⟨t,rfl⟩:=r;rfl
 |_=>exact absurd (show false=true from f) ZM
theorem jV:∀{xs:List V} {us:List Value},Vals xs us->xs.all cN=true->us.any (iW x)=xs.any λy=>hX y x
 |_,_,.nil,_=>rfl
 |y::xs,u::us,.cons r t,f=>by rw[abE,aa7] at f;rw[abF,abF,A4 r f.1,jV t f.2]
theorem iX(rx:RelV x v)(fx:cN x=true):∀{xs:List V} {us:List Value},Vals xs us->xs.all cN=true->∀u∈us,SeqAt.EqAt A s u v (iW x u)
 |_,_,.nil,_=>λu hu=>by cases hu
 |y::xs,u::us,.cons r t,f=>λu' hu=>by
  rw[abE,aa7] at f;rcases Zs.mp hu with rfl|hu
  ·rw[A4 r f.1];exact pO r rx f.1 fx
  ·exact iX rx fx t f.2 u' hu
def F7(x:V)(xs:List V):Bool:=xs.any λy=>hX y x
def A5(K:PySem.W.Frag)(neg:Bool):R2:=λx y H Q=>∃p xs,y=.ref p/\(aq K H p xs\/aO K H p xs)/\cN x=true/\xs.all cN=true/\Q (.bl (if neg then !F7 x xs else F7 x xs)) H
theorem jy:cL X (compareOp .In) (A5 X.K false):=by
 rintro pins s σ H x y v u Q I rx ry ⟨p,xs,rfl,hq,fx,fs,q⟩;cases ry;rcases hq with hq|hq
 ·obtain⟨its,r,pl,hz⟩:=I.list hq;refine afn (iW x) pl.isList (λw hw=>iX rx fx r fs w (by simpa using hw)) ⟨.bl _,H,I,rfl,?_⟩;rw[show its.toArray.any (iW x)=its.any (iW x) by simp,jV r fs];exact q
 ·obtain⟨its,r,pl,hz⟩:=I.tuple hq;refine SeqAt.in_tupleAt (iW x) pl (λw hw=>iX rx fx r fs w (by simpa using hw)) ⟨.bl _,H,I,rfl,?_⟩;rw[show its.toArray.any (iW x)=its.any (iW x) by simp,jV r fs];exact q
theorem uK:cL X (compareOp .NotIn) (A5 X.K true):=by
 rintro pins s σ H x y v u Q I rx ry ⟨p,xs,rfl,hq,fx,fs,q⟩;cases ry;rcases hq with hq|hq
 ·obtain⟨its,r,pl,hz⟩:=I.list hq;refine SeqAt.notIn_listAt (iW x) pl.isList (λw hw=>iX rx fx r fs w (by simpa using hw)) ⟨.bl _,H,I,rfl,?_⟩;rw[show its.toArray.any (iW x)=its.any (iW x) by simp,jV r fs];exact q
 ·obtain⟨its,r,pl,hz⟩:=I.tuple hq;refine SeqAt.notIn_tupleAt (iW x) pl (λw hw=>iX rx fx r fs w (by simpa using hw)) ⟨.bl _,H,I,rfl,?_⟩;rw[show its.toArray.any (iW x)=its.any (iW x) by simp,jV r fs];exact q
theorem aN:cG X (.builtin "len") (λxs H Q=>∃p ys,xs=[.ref p]/\(aq X.K H p ys\/aO X.K H p ys)/\Q (.int ys.length) H):=by
 rintro pins s σ H xs us Q I r ⟨p,ys,rfl,hq,q⟩;obtain⟨u,rfl,rx⟩:=vals1 r;cases rx;have hn:=hV;rcases hq with hq|hq
 ·obtain⟨its,r',pl,hz⟩:=I.list hq;have hlen:=r'.length;exact Calls.call_len_list pl.isList (by simp only[Zt]<;>omega) ⟨.int ys.length,H,I.tok _,⟨s.toks+1,by rw[Zt,hlen]⟩,q⟩
 ·obtain⟨its,r',pl,hz⟩:=I.tuple hq;have hlen:=r'.length;exact len_tuple pl (by simp only[Zt]<;>omega) ⟨.int ys.length,H,I.tok _,⟨s.toks+1,by rw[Zt,hlen]⟩,q⟩
theorem mf:cG X (.builtin "len") (λxs H Q=>∃z,xs=[.str z]/\z.length<=sizeLine/\Q (.int z.length) H):=by rintro pins s σ H xs us Q I r ⟨z,rfl,hz,q⟩;obtain⟨u,rfl,t,rfl⟩:=vals1 r;have hn:=hV;exact len_str (by omega) ⟨.int z.length,H,I.tok _,⟨_,rfl⟩,q⟩
theorem dB:cG X (.type "list") (λxs H Q=>∃p ys,xs=[.ref p]/\(aq X.K H p ys\/aO X.K H p ys)/\∀l,H l=none->Q (.ref l) (upd H l (.lst ys))):=by
 rintro pins s σ H xs us Q I r ⟨p,ys,rfl,hq,q⟩;obtain⟨u,rfl,rx⟩:=vals1 r;cases rx;have fin:∀(its:List Value),Vals ys its->ys.length<=sizeLine->∀(h':Heap) (c':Nat),(∀b o',s.heap.get? b=some o'->h'.get? b=some o') ->
   h'.get? s.heap.objs.size=some {cls:=.type "list",dict:=none,data:=.seq its.toArray c',slots:=#[]}->EP X pins σ Q (.ref s.heap.objs.size) {s with heap:=h' }:=λits r' hz h' c' kp e=>
  ⟨.ref s.heap.objs.size,_,I.laid (t':=s.toks) kp (Zn _) (show bg X.prog X.w _ h' _ (.lst ys) from⟨hz,its,c',r',e⟩),rfl,q _ (I.aL.fresh (Zn _))⟩
 rcases hq with hq|hq
 ·obtain⟨its,r',pl,hz⟩:=I.list hq;have hlen:=r'.length;obtain⟨o,ho,hc,n,hd⟩:=pl.isList;exact afy p (.inl rfl) ho hc hd (λh' c' kp e=>fin its r' hz h' c' kp e) (by simp only[Zt]<;>omega)
 ·obtain⟨its,r',pl,hz⟩:=I.tuple hq;have hlen:=r'.length;obtain⟨o,ho,hc,n,hd⟩:=pl;exact afy p (.inr rfl) ho hc hd (λh' c' kp e=>fin its r' hz h' c' kp e) (by simp only[Zt]<;>omega)
theorem bY:cG X (.type "tuple") (λxs H Q=>∃p ys,xs=[.ref p]/\((aq X.K H p ys/\∀l,H l=none->Q (.ref l) (upd H l (.tup ys)))\/(aO X.K H p ys/\Q (.ref p) H))):=by
 rintro pins s σ H xs us Q I r ⟨p,ys,rfl,h⟩;obtain⟨u,rfl,rx⟩:=vals1 r;cases rx;rcases h with⟨hq,q⟩|⟨hq,q⟩
 ·obtain⟨its,r',pl,hz⟩:=I.list hq;have hlen:=r'.length;refine call_tuple_list pl.isList (λh' kp=>?_) (by simp only[Zt]<;>omega);have I1:Inv X pins σ H {s with heap:=h' }:=I.kept (t':=s.toks) kp;have I2:Inv X pins σ (upd H h'.objs.size (.tup ys)) {s with heap:=h'.push {cls:=.type "tuple",data:=.seq its.toArray} }:=
   I1.laid (t':=s.toks) (λb o e=>Zl _ e) (Zn _) (show bg X.prog X.w _ _ _ (.tup ys) from⟨hz,its,r',afw _ _⟩)
  exact⟨.ref h'.objs.size,_,I2,rfl,q _ (I1.aL.fresh (Zn _))⟩
 ·obtain⟨its,r',pl,hz⟩:=I.tuple hq;exact call_tuple_same pl ⟨.ref p,H,I,rfl,q⟩
def Ki(K:PySem.W.Frag)(T:String)(x:V)(H:Hp):Prop:=match x with
 |.str _=>T="str"
 |.int _=>T="int"
 |.ref p=>(T="list" /\ ∃xs,aq K H p xs)\/(T="tuple" /\ ∃o,K.lookup p=some o/\o.cls=.type "tuple" /\ o.dict=none) \/
   (T="dict" /\ ((∃kvs,H p=some (.dK kvs))\/∃kvs,H p=some (.dT kvs)))\/(T="set" /\ ∃S n,H p=some (.set S n))
 |_=>False
theorem A6(I:Inv X pins σ H s)(r:RelV x v)(ty:Ki X.K T x H) :
  s.TypeIs v T/\∀a,v=.ref a->∃ob,s.heap.get? a=some ob/\ob.dict=none:=by
 cases x with
 |str z =>obtain⟨t,rfl⟩:=r;cases (show T="str" from ty);exact⟨typeIs_str s z t,λ_ e=>nomatch e⟩
 |int i =>obtain⟨t,rfl⟩:=r;cases (show T="int" from ty);exact⟨typeIs_int s i t,λ_ e=>nomatch e⟩
 |ref p=>
  cases r;rcases ty with⟨rfl,xs,hq⟩|⟨rfl,o,hk,hc,hd⟩|⟨rfl,hk⟩|⟨rfl,S,n,hk⟩
  ·obtain⟨its,_,pl,_⟩:=I.list hq;refine⟨pl.isList.typeIs,λa e=>?_⟩;cases e;obtain⟨o,n,e,c,hd,_⟩:=pl;exact⟨o,e,hd⟩
  ·refine⟨⟨o,I.dW p o hk,hc⟩,λa e=>?_⟩;cases e;exact⟨o,I.dW _ o hk,hd⟩
  ·have z:∃o,s.heap.get? p=some o/\o.ExactDict:=by
    rcases hk with⟨kvs,hk⟩|⟨kvs,hk⟩
    ·obtain⟨_,_,_,_,o,_,_,e,ex,_⟩:=I.aL p _ hk;exact⟨o,e,ex⟩
    ·obtain⟨_,_,_,_,o,_,_,e,ex,_⟩:=I.aL p _ hk;exact⟨o,e,ex⟩
   obtain⟨o,e,ex⟩:=z;refine⟨⟨o,e,ex.1⟩,λa e2=>?_⟩;cases e2;exact⟨o,e,ex.2.1⟩
  ·obtain⟨o,_,_,_,e,ex,_⟩:=I.aL p _ hk;refine⟨⟨o,e,ex.1⟩,λa e2=>?_⟩;cases e2;exact⟨o,e,ex.2.1⟩
 |_=>exact False.elim ty
def RK(K:PySem.W.Frag)(T:String)(r:V->List V->Hp->VK->Prop)(to:TE):TE:=λσ H Q=>to σ H λx H1=>Ki K T x H1/\r x [] H1 Q
def Uj(K:PySem.W.Frag)(T:String)(r:V->List V->Hp->VK->Prop)(to:TE)(t:TA):TE:=λσ H Q=>to σ H λx H1=>Ki K T x H1/\t σ H1 λxs H2=>r x xs H2 Q
variable {o e:Expr}{es:List Expr}{to:TE}{t:TA}{name:Str}{apos iz:Pos}{T id:String}{r:V->List V->Hp->VK->Prop}
theorem uL(pa:PlainAttrs T)(slot:Slot T name id)(hty:typeOf (.builtin id)=pure (.type "method_descriptor"))(hm:A3 X id r)(ho:PE X o to)
  (hbase:attributeBase o name X.env (eval o X.env)=eval o X.env:=by rfl) (hline:(apos.endLine==iz.line)=true:=by rfl):PE X (.Call (.Attribute o name apos) [] [] iz) (RK X.K T r to):=by
 intro pins s σ H Q I h;refine wpAny_Call_method0_late hbase hline (aH (ho pins s σ H _ I h) λv s1 ⟨x,H1,I1,r1,ty,q1⟩=>?_);obtain⟨h1,h2⟩:=A6 I1 r1 ty;exact⟨T,id,pa,slot,hty,h1,h2,ad2 rfl (PySem.evalArgs_none (hm pins s1 σ H1 x [] v [] Q I1 r1 .nil q1))⟩
theorem cP(pa:PlainAttrs T)(slot:Slot T name id)(hty:typeOf (.builtin id)=pure (.type "method_descriptor"))(hm:A3 X id r)(ho:PE X o to)(ha:PA X (e::es) t)
  (hbase:attributeBase o name X.env (eval o X.env)=eval o X.env:=by rfl)
  (hfew:((backTo iz (starEach (e::es) X.env)).all (λx=>!x.1)&&(backToKw iz (keywordEach [] X.env)).all (λx=>x.1.isSome)
  &&decide ((e::es).length+([]:List Keyword).length+(if ([]:List Keyword).isEmpty then 0 else 1)<30))=true:=by rfl)
  (hline:(apos.endLine==iz.line)=true:=by rfl) (hs:starEach (e::es) X.env=(false,eval e X.env)::starEach es X.env:=by rfl) (hplain:(backTo iz (starEach es X.env)).any (·.1)=false:=by rfl) :
  PE X (.Call (.Attribute o name apos) (e::es) [] iz) (Uj X.K T r to t):=by
 intro pins s σ H Q I h;refine wpAny_Call_method_late hbase hfew hline rfl (aH (ho pins s σ H _ I h) λv s1 ⟨x,H1,I1,r1,ty,q1⟩=>?_);obtain⟨h1,h2⟩:=A6 I1 r1 ty;refine⟨T,id,pa,slot,hty,h1,h2,?_⟩;have hA:=ha iz pins s1 σ H1 _ I1 q1;rw[hs] at hA⊢;refine ad2 (by show(false||(backTo iz (starEach es X.env)).any (·.1))=false;rw[hplain]<;>rfl) (Calls.evalArgs_plain ?_);exact aH hA λus s2 ⟨vs,H2,I2,r2,q2⟩=>hm pins s2 σ H2 x vs v us Q I2 r1 r2 q2
end
def A7(X:Cx)(id:String)(r:V->List V->Hp->VK->Prop):Prop:=
 ∀(pins:List (Addr×Obj)) (s:Shared) (σ:St) (H:Hp) (x:V) (xs:List V) (v:Value) (us:List Value) (Q:VK),Inv X pins σ H s->RelV x v->Vals xs us->r x xs H Q ->
  wpAny (model X.prog X.w) X.A (call (.builtin id) (v::us)) (EP X pins σ Q) X.xe s
theorem Vals.one:∀{x:V} {us:List Value},Vals [x] us->∃u,us=[u]/\RelV x u
 |_,_,.cons r .nil=>⟨_,rfl,r⟩
theorem Vals.zero:∀{us:List Value},Vals [] us->us=[]
 |_,.nil=>rfl
theorem Vals.dropLast(h:Vals xs us):Vals xs.dropLast us.dropLast:=by
 induction h with
 |nil=>exact .nil
 |cons r t ih=>
  cases t with
  |nil=>exact .nil
  |cons q t'=>exact .cons r ih
theorem zD(l:List α):l.eraseIdx (l.length-1)=l.dropLast:=by
 induction l with
 |nil=>rfl
 |cons a r ih=>
  cases r with
  |nil=>rfl
  |cons b r=>
   have e:(a::b::r).length-1=((b::r).length-1)+1:=by have h1:(a::b::r).length=r.length+2:=rfl;have h2:(b::r).length=r.length+1:=rfl;omega
   rw[e,List.eraseIdx_cons_succ,ih];all_goals rfl
section
theorem Inv.uM{its its':List Value}{n:Nat}{f:Array Value->Array Value}{t':Nat}(I:Inv X pins σ H s)(hH:H l=some (.lst xs))
  (e:s.heap.get? l=some {cls:=.type "list",data:=.seq its.toArray n}) (hf:f its.toArray=its'.toArray) (hv:Vals ys its') (hz:ys.length<=sizeLine) :
  Inv X pins σ (upd H l (.lst ys)) {s with heap:=s.heap.update l (Obj.mapSeq f),toks:=t' }:=by
 have q:=ags e f;rw[hf] at q;refine I.write (x:=l) (e:=l) (by rw[hH];exact trivial) (.inl rfl) (λb' u hb hu=>(Z3 s.heap (Obj.mapSeq f) (Z0 hb)).trans hu) ⟨_,q⟩ ?_;exact⟨hz,its',_,hv,q⟩
theorem Inv.RM(I:Inv X pins σ H s)(hv:Vals ys its)(hz:ys.length<=sizeLine) :
  Inv X pins σ (upd H s.heap.objs.size (.lst ys)) {s with heap:=s.heap.push {cls:=.type "list",data:=.seq its.toArray},toks:=t' }:=
 I.laid (λ_ _ q=>Zl _ q) (Zn _) ⟨hz,its,0,hv,Zw _ rfl⟩
theorem Inv.fresh(I:Inv X pins σ H s):H s.heap.objs.size=none:=I.aL.fresh (Zn _)
theorem Inv.mh(I:Inv X pins σ H s)(hH:H l=some (.lst xs)):xs.length<=sizeLine/\∃(its:List Value) (n:Nat),Vals xs its/\xs.length=its.length/\s.heap.get? l=some {cls:=.type "list",data:=.seq its.toArray n}:=by obtain⟨z,its,n,r,e⟩:=I.aL l _ hH;exact⟨z,its,n,r,r.length,e⟩
theorem DP(h:n<=sizeLine):Builtin.List.listTooLong n=false:=by unfold Builtin.List.listTooLong;exact decide_eq_false (by omega)
end
section
def HL:V->List V->Hp->VK->Prop:=λx vs H Q=>∃l xs y,x=.ref l/\vs=[y]/\H l=some (.lst xs)/\xs.length<sizeLine/\Q .a8 (upd H l (.lst (xs++[y])))
theorem cA:A7 X "list.append" HL:=by rintro pins s σ H x vs v us Q I rx rv ⟨l,xs,y,rfl,rfl,hH,hz,q⟩;cases rx;obtain⟨u,rfl,ru⟩:=rv.one;obtain⟨z,its,n,r,hl,e⟩:=I.mh hH;refine acM aah ⟨_,e,rfl⟩ F.entry_list_append (F.args_list_append_2 _ _) (PySem.list_append l its.toArray n u (by rw[Zt];omega)) ⟨e,?_⟩;refine⟨.a8,_,I.uM (its':=its++[u]) hH e (by simp) (r.append (.cons ru .nil)) ?_,rfl,q⟩;rw[ZA,aaH];omega
def HM:V->List V->Hp->VK->Prop:=λx vs H Q=>∃l b xs zs,x=.ref l/\vs=[.ref b]/\H l=some (.lst xs)/\H b=some (.lst zs)/\xs.length+zs.length<=sizeLine/\Q .a8 (upd H l (.lst (xs++zs)))
theorem A8:A7 X "list.extend" HM:=by
 rintro pins s σ H x vs v us Q I rx rv ⟨l,b,xs,zs,rfl,rfl,hH,hB,hz,q⟩;cases rx;obtain⟨u,rfl,ru⟩:=rv.one;cases ru;obtain⟨z,its,n,r,hl,e⟩:=I.mh hH;obtain⟨z2,gw,n2,r2,hl2,e2⟩:=I.mh hB;have hsz:its.toArray.size+gw.toArray.size<=sizeLine:=by rw[Zt,Zt];omega
 have N6:¬ (!its.toArray.isEmpty&&Builtin.List.listTooLong (its.toArray.size+gw.toArray.size))=true:=by rw[DP hsz,aby];exact ZM
 refine acM F.slot_list_extend ⟨_,e,rfl⟩ F.entry_list_extend (F.args_list_extend_2 _ _)
  (AutoSeq1.list_extend_list_list_0 l its.toArray n b gw.toArray n2 N6 (by rw[Zt];omega) (by omega)) ⟨e,e2,?_⟩
 refine⟨.a8,_,I.uM (its':=its++gw) hH e (by simp) (r.append r2) ?_,rfl,q⟩;rw[ZA];omega
def RN:V->List V->Hp->VK->Prop:=λx vs H Q=>∃l xs y,x=.ref l/\vs=[]/\H l=some (.lst xs)/\xs[xs.length-1]?=some y/\Q y (upd H l (.lst xs.dropLast))
theorem Kj:A7 X "list.pop" RN:=by
 rintro pins s σ H x vs v us Q I rx rv ⟨l,xs,y,rfl,rfl,hH,hy,q⟩;cases rx;have Kk:=rv.zero;subst Kk;obtain⟨z,its,n,r,hl,e⟩:=I.mh hH;obtain⟨u,hu,ru⟩:=r.get hy;have iC:its.toArray[its.toArray.size-1]?=some u:=by
  show its.toArray[its.length-1]?=some u
  rw[<-aae,<-hl];exact hu
 refine acM F.slot_list_pop ⟨_,e,rfl⟩ F.entry_list_pop (F.args_list_pop_1 _) (MeetsSeq.list_pop_last l its.toArray n u iC (by rw[Zt];omega)) ⟨e,?_⟩;refine⟨y,_,I.uM (its':=its.dropLast) hH e ?_ r.dropLast ?_,ru,q⟩
 ·show its.toArray.eraseIdxIfInBounds (its.toArray.size-1)=its.dropLast.toArray
  rw[Zt,List.eraseIdxIfInBounds_toArray,zD]
 ·rw[List.length_dropLast];omega
def Kl:V->List V->Hp->VK->Prop:=λx vs H Q=>∃l xs,x=.ref l/\vs=[]/\H l=some (.lst xs)/\Q .a8 (upd H l (.lst []))
theorem uN:A7 X "list.clear" Kl:=by rintro pins s σ H x vs v us Q I rx rv ⟨l,xs,rfl,rfl,hH,q⟩;cases rx;have Kk:=rv.zero;subst Kk;obtain⟨z,its,n,r,hl,e⟩:=I.mh hH;refine acM adN ⟨_,e,rfl⟩ F.entry_list_clear (F.args_list_clear_1 _) (AutoSeq1.list_clear_list_0 l its.toArray n (by rw[Zt];omega)) ⟨e,?_⟩;exact⟨.a8,_,I.uM (its':=[]) (ys:=[]) hH e rfl .nil (ZE _),rfl,q⟩
def Km:R2:=λx y H Q=>∃l b xs zs,x=.ref l/\y=.ref b/\H l=some (.lst xs)/\H b=some (.lst zs)/\xs.length+zs.length<=sizeLine/\∀p,H p=none->Q (.ref p) (upd H p (.lst (xs++zs)))
theorem pP:cL X (binaryOp .Add) Km:=by
 rintro pins s σ H x y v u Q I rx ry ⟨l,b,xs,zs,rfl,rfl,hH,hB,hz,q⟩;cases rx;cases ry;obtain⟨z,its,n,r,hl,e⟩:=I.mh hH;obtain⟨z2,gw,n2,r2,hl2,e2⟩:=I.mh hB;refine PySem.P.add_list e e2 ?_ (by rw[Zt,Zt];omega);have ea:its.toArray++gw.toArray=(its++gw).toArray:=by simp
 rw[ea];exact⟨.ref _,_,I.RM (t':=s.toks) (r.append r2) (by rw[ZA];omega),rfl,q _ I.fresh⟩
end
end L2
namespace Pk
open PySem PySem.W PySem.Calls PyProof.Rows
theorem pQ:∀(ns:List Int) (vs:List Value),WellAll P h vs (ns.map WData.int)->IntsAre vs ns:=by
 intro ns;induction ns with
 |nil =>intro vs w;rw[ab7] at w;cases w;exact .nil
 |cons n ns ih=>
  intro vs w;rw[ZI] at w;cases w with
  |cons a b =>cases a;exact .cons _ _ (ih _ b)
theorem A9{l:OpenLaw}(hn:l.most=some n){P:Params}{args:List WData}
  (hpre:l.row.toRowW.claim.pre args=true) (hwl:WellAll P h vals args) :
  ∃a vs ns,vals=[Value.ref a]/\args=[WData.list (ns.map WData.int)]/\h.get? a=some {cls:=.type "list",data:=.seq vs.toArray}/\IntsAre vs ns/\ns.length<=n:=by
 have sk:WShape.hasAll [] args [.list .int]=true:=(pre_splitW hpre).1;have hc:l.pre.holds [] {args:=args}=true:=(pre_splitW hpre).2;obtain⟨d,r,rfl,h1,h2⟩:=hasAllW_cons sk;obtain rfl:=hasAllW_nil h2;obtain⟨xs,rfl,h3⟩:=hasW_list h1;obtain⟨ns,rfl⟩:=items_int h3;have hlen:ns.length<=n:=by
  unfold OpenLaw.pre at hc;have h4:(WTm.not (.lt (.lit (.int (n:Int))) (.len (.arg 0)))).holds [] {args:=[.list (ns.map .int)]}=true:=by have h4:=(holds_andW hc).1;rw[hn] at h4;exact h4
  have h5:=condW_of h4 (w_not (w_lt w_lit (w_len_list (w_arg rfl))));rw[Zj] at h5;refine adz λq=>?_;have q':(n:Int)<((ns.length:Nat):Int):=by omega
  first
   |(rw[decide_eq_true q'] at h5;exact absurd h5 (by decide))
   |(simp at h5;omega)
 cases hwl with
 |cons w1 w2=>
  cases w2;cases w1 with
  |list ho hall=>exact⟨_,_,ns,rfl,rfl,ho,pQ ns _ hall,hlen⟩
theorem A'(l:OpenLaw)(args:List WData):l.row.toRowW.claim.post args (.bool true) args=true:=
 postW_of (r:=l.row.toRowW) (X:=(true==true))
  (show WShape.has [] (.bool true) .bool=true by first|rfl|decide|simp[WShape.has,WShape.arms,WShape.armsAll])
  (show(WTm.eq .res (.lit (.bool true))).value [] {args:=args,res:=some (.bool true),after:=args}=some (.bool (true==true)) from w_eq_bool (w_res rfl) w_lit) rfl
theorem xq{l:OpenLaw}{XP:(Str->Option Value)->Heap->Prop}{YP:World->Heap->Prop}{d:DefRec}
  (hn:l.most=some n) (hdf:d.params.defaults=[])
  (call:∀(w:World) (s₀ s₁:Shared) (mg mb:Str->Option Value) (fa:Addr) (o:Obj) (pm cd doc:Value) (a:Addr) (vs:List Value) (ns:List Int),
   Ground q loose [] XP w s₀ mg mb s₁.heap->YP w s₁.heap ->
   s₁.heap.get? fa=some o->o.data=.func (docDef d.name d.params d.body d.scope pm cd doc)->s₁.heap.CodeRec cd d.name->mg d.name=some (.ref fa) ->
   s₁.heap.get? a=some {cls:=.type "list",data:=.seq vs.toArray}->IntsAre vs ns->ns.length<=n->s₁.gens=#[] ->
   codeAny (model l.prog w) callerA (.call (.ref fa) ⟨[.ref a],[]⟩) (λr s'=>r=.ok (.ret (.bool true))/\OldK s₁.heap s'.heap/\s'.os=s₁.os/\AllBare s'.gens) s₁) :
  WalkO q loose XP YP l.row.toRowW d [] (λf vs=>PySem.call f vs):=by
 intro w s₀ s₁ mg mb G Y fa o pm cd doc dV kV ho hd hcd hD Ba hg args vals as hpre X4 Yc hwl Yd;obtain rfl:dV=.none:=Dflts.none hD hdf;obtain rfl:kV=.none:=Dflts.noKw hD;obtain⟨a,vs,ns,rfl,rfl,DQ,hints,hlen⟩:=A9 hn hpre hwl;refine enter_call (codeAny_mono (call w s₀ s₁ mg mb fa o pm cd doc a vs ns G Y ho (fd_plain hd) hcd Ba DQ hints hlen hg) λr s' hq=>?_);obtain⟨rfl,h2,h3,h4⟩:=hq;exact⟨.inl ⟨.bool true,.bool true,[],rfl,λ_=>rfl,.bool true,A' l _,λ_=>⟨List.Pairwise.nil,λ_ hm=>(nomatch hm)⟩⟩,h2,h3,h4⟩
section
def ledger(h:Heap)(L d:Addr):List (Addr×Obj):=(List.range h.objs.size).filterMap λa=>if a=L\/a=d then none else (h.get? a).map λo=>(a,o)
end
end Pk
namespace L2
open PySem PySem.Spec PyProof.Rows
theorem sr:∀{vs:List Value} {ns:List Int},IntsAre vs ns->Vals (ns.map V.int) vs
 |_,_,.nil=>.nil
 |_,_,.cons n t h=>.cons ⟨t,rfl⟩ (sr h)
def DR(H:Hp):Prop:=∀b,H b=none\/∃o xs,H b=some (.iR o (.lst xs))
theorem DV{P:Program}{w:World}{K:PySem.W.Frag}{mg mb:Str->Option Value}{CX:md}{k:Nat}{fa a:Addr}{fd:FuncData}{x:Str}{sp:Sp}{s₁:Shared}{vs:List Value}{ns:List Int}
  (KX:K.In s₁.heap) (hns:s₁.heap.Ns mainGlobals mg) (hb:s₁.heap.Ns builtinsNs mb) (hbb:∀x:Str,x≠"__name__" -> mb x=bootBuiltins x) (hlim:s₁.heap.NoLimit) (hg:s₁.gens=#[])
  (ha:s₁.heap.get? a=some {cls:=.type "list",data:=.seq vs.toArray}) (hi:IntsAre vs ns) (hl:ns.length<=sizeLine) (hr:cT k callerA)
  (F:∀base:Heap,K.In base->base.Ns mainGlobals mg->aG P w K mg base CX k fa fd [x] sp) (hbind:∀(s:Shared) (u:Value),BindsTo s fd ⟨[u],[]⟩ [(x,u)])
  (hsp:∀H:Hp,DR H->aq K H a (ns.map V.int)->sp [.ref a] H (λv _=>v=.bl true) λ_ _ _=>False)
  (hCX:∀H e s',CX [] H s₁ (λ_ _ _=>False) e s'->False) :
  codeAny (model P w) callerA (.call (.ref fa) ⟨[.ref a],[]⟩) (λr s'=>r=.ok (.ret (.bool true))/\OldK s₁.heap s'.heap/\s'.os=s₁.os/\AllBare s'.gens) s₁:=by
 have rv:=sr hi;have RO:=hi.length;have core:∀H:Hp,DR H->aq K H a (ns.map V.int)->de P w H s₁.heap->(∀b,H b≠none->b=a)->(H a≠none->K.lookup a=none) ->
   codeAny (model P w) callerA (.call (.ref fa) ⟨[.ref a],[]⟩) (λr s'=>r=.ok (.ret (.bool true))/\OldK s₁.heap s'.heap/\s'.os=s₁.os/\AllBare s'.gens) s₁:=by
  intro H hO hS aL hA hK;have base_of:∀{b:Addr} {o:Obj},s₁.heap.get? b=some o->H b=none->(kD s₁.heap H).get? b=some o:=λe n=>Dm e n;have noA:∀{b:Addr} {o:Obj} {es:Array DictEntry} {ep:Nat},s₁.heap.get? b=some o->o.data=.dict es ep->H b=none:=λ{b o es ep} e d=>by
   cases q:H b with
   |none=>rfl
   |some u =>have e':b=a:=hA b (by rw[q];simp);subst e';rw[ha] at e;cases e;have d':Data.seq vs.toArray _=Data.dict es ep:=d;cases d'
  have nsK:∀{b:Addr} {m:Str->Option Value},s₁.heap.Ns b m->(kD s₁.heap H).Ns b m:=λ{b m} ⟨o,es,ep,e,d,r⟩=>⟨o,es,ep,base_of e (noA e d),d,r⟩
  have Pl:K.In (kD s₁.heap H):=λb o e=>base_of (KX b o e) (by
   cases q:H b with
   |none=>rfl
   |some u =>have e':b=a:=hA b (by rw[q];simp);subst e';rw[hK (by rw[q];simp)] at e;cases e)
  have hM:Mod K mg (kD s₁.heap H):=⟨Pl,nsK hns,⟨mb,nsK hb,hbb⟩,let ⟨mc,h1,h2⟩:=hlim;⟨mc,nsK h1,h2⟩⟩
  have e0:oC P w K mg (kD s₁.heap H) callerA [] s₁ H:=⟨rfl,hM,λb o e=>HA e,af0 (AG _ _),trivial,λb hb=>absurd (show b∈([]:List Addr) from hb) (by simp),aL,.of_eq hg⟩
  refine codeAny_mono ((F _ Pl (nsK hns)).run callerA [] s₁ H ⟨[.ref a],[]⟩ [.ref a] [.ref a] _ _ hr e0 (hbind s₁ (.ref a)) (.cons rfl .nil) (hsp H hO hS)) λr s' h=>?_;cases r with
  |error e=>exact(hCX H e s' h).elim
  |ok fl=>
   cases fl with
   |next=>exact False.elim h
   |brk=>exact False.elim h
   |cont=>exact False.elim h
   |ret u=>
    obtain⟨v,H',os,bare,un,RP,r',q⟩:=h;have q':v=.bl true:=q;subst q';obtain rfl:u=Value.bool true:=r';refine⟨rfl,OldK.of_keep λb o e=>?_,os,bare⟩;cases q:H b with
    |none=>exact un.keep b o e q (by intro z;exact absurd (show b∈([]:List Addr) from z) (by simp)) (by simp)
    |some u=>
     rcases hO b with z|⟨ob,xs,z⟩
     ·rw[q] at z;cases z
     ·have z2:=un.jF b ob _ z;obtain⟨e1,_⟩:=aL b _ z;obtain⟨e2,_⟩:=RP b _ z2;rw[e] at e1;cases e1;exact e2
 cases hk:K.lookup a with
 |some o =>have e:=KX a o hk;rw[ha] at e;cases e;refine core (λ_=>none) (λ_=>.inl rfl) (.inr ⟨_,vs.toArray,_,hk,rfl,rfl,rfl,by rw[Zt,RO];exact hl,by simpa using rv⟩) (λb u z=>by have z':(none:Option HO)=some u:=z;cases z') (λb z=>absurd rfl z) λz=>absurd rfl z
 |none=>
  refine core (λb=>if b=a then some (.iR {cls:=.type "list",data:=.seq vs.toArray} (.lst (ns.map V.int))) else none) (λb=>?_) (.inl (.inr ⟨{cls:=.type "list",data:=.seq vs.toArray},if_pos rfl⟩)) (λb u z=>?_) (λb z=>?_) λ_=>hk
  ·by_cases hb:b=a
   ·exact .inr ⟨_,_,if_pos hb⟩
   ·exact .inl (if_neg hb)
  ·by_cases hb:b=a
   ·have z':=(if_pos hb).symm.trans z;cases z';subst hb;exact⟨ha,by rw[Zj];exact hl,vs,_,rv,ha⟩
   ·have z':=(if_neg hb).symm.trans z;cases z'
  ·by_cases hb:b=a
   ·exact hb
   ·exact absurd (if_neg hb) z
abbrev KOf{K:PySem.W.Frag}{h:Heap}(_:K.In h):PySem.W.Frag:=K
theorem HN{l:PySem.W.OpenLaw}{XP:(Str->Option Value)->Heap->Prop}{YP:World->Heap->Prop}{d:DefRec}{K:Params->PySem.W.Frag}{CX:World->md}{sp:World->Sp}
  (hn:l.most=some n) (hn2:n<=sizeLine) (hdf:d.params.defaults=[]) (hr:cT k callerA)
  (hY:∀(w:World) (h:Heap),YP w h->(K w.params).In h)
  (F:∀(w:World) (mg:Str->Option Value) (fa:Addr) (h:Heap),(K w.params).In h->h.Ns mainGlobals mg->mg d.name=some (.ref fa) ->
   ∃fd:FuncData,(∀(s:Shared) (u:Value),BindsTo s fd ⟨[u],[]⟩ [(x,u)]) /\
    ∀base:Heap,(K w.params).In base->base.Ns mainGlobals mg->aG l.prog w (K w.params) mg base (CX w) k fa fd [x] (sp w))
  (hsp:∀(w:World) (H:Hp) (a:Addr) (ns:List Int),ns.length<=n->DR H->aq (K w.params) H a (ns.map V.int)->sp w [.ref a] H (λv _=>v=.bl true) λ_ _ _=>False)
  (hCX:∀(w:World) (H:Hp) (s:Shared) (e:Value) (s':Shared),CX w [] H s (λ_ _ _=>False) e s'->False) :
  PySem.W.WalkO q loose XP YP l.row.toRowW d [] (λf vs=>PySem.call f vs):=by
 refine Pk.xq hn hdf λw s₀ s₁ mg mb fa o pm cd doc a vs ns G Y ho hd hcd Ba DQ hints hlen hg=>?_;have KX:=hY w _ Y;obtain⟨fd,hb,hF⟩:=F w mg fa _ KX G.T.g Ba;exact DV KX G.T.g G.T.b G.T.builtins G.T.nolimit hg DQ hints (Zu hlen hn2) hr hF hb (λH hO hS=>hsp w H a ns hlen hO hS) λH e s'=>hCX w H s₁ e s'
def inClass(s:Stmt)(j:Nat):Stmt:=match s with
 |.ClassDef _ _ _ body _ _ _ _ _ _ _=>body.getD j (.Pass ⟨0,0,0,0⟩)
 |_=>.Pass ⟨0,0,0,0⟩
def dg(s:Stmt):Arguments:=match s with
 |.FunctionDef _ a _ _ _ _ _ _ _ _=>a
 |_=>{posonlyargs:=[],args:=[],vararg:=none,kwonlyargs:=[],kw_defaults:=[],kwarg:=none,defaults:=[]}
def cY(s:Stmt):List Stmt:=match s with
 |.FunctionDef _ _ b _ _ _ _ _ _ _=>b
 |_=>[]
def ar(s:Stmt):Scope:=match s with
 |.FunctionDef _ _ _ _ _ _ sc _ _ _=>sc
 |_=>{kind:=.function,names:=[],isGenerator:=false,isCoroutine:=false}
abbrev aS:md:=λ_ _ _ _ _ _=>False
abbrev E0:XK:=λ_ _ _=>False
theorem aK:Passes aS X E0:=λ_ _ _ _ _ _ _ h=>h.elim
structure bx(K:PySem.W.Frag)(x qual:Str)(st:Stmt)(f:Addr)(fd:FuncData):Prop where
 ex:∃(oc:Value) (od:Option Addr) (kV doc pm:Value) (an:Option Addr) (cdv ct:Value) (osl:Array (Option Value)),
  fd=PySem.W.fnOf x qual (dg st) (cY st) (ar st) .none kV doc pm an cdv ct/\K.lookup f=some ⟨oc,od,.func fd,osl⟩/\PySem.W.codeIn K cdv qual=true
 kp:PySem.W.keepIn K (.ref f)=true
section
variable {P:Program}{w:World}{K:PySem.W.Frag}{mg:Str->Option Value}{base:Heap}
theorem bx.ok{st:Stmt}{sp:Sp}(F:bx K x qual st f fd)(S:aQ N ps (ar st))(len:∀vs H Q E,sp vs H Q E->vs.length=ps.length)
  (hbody:∀(cdv:Value) (A:Around) (outer:List Env) (s:Shared) (H:Hp) (vs:List V) (Q:VK) (E:XK),cT k (A.deeper (envOfC qual (ar st) s.heap.objs.size f cdv))->sp vs H Q E ->
   ∃t,jP (oE aS P w K mg base N qual (ar st) f cdv A outer s H E).AL (cY st) t/\t {nx:=λ_ H'=>Q .a8 H',rt:=Q} (start N vs) H):aG P w K mg base aS (k+1) f fd ps sp:=by
 obtain⟨oc,od,kV,doc,pm,an,cdv,ct,osl,rfl,lk,hcd⟩:=F.ex;refine N0 lk hcd S len λA outer s H vs Q E hr hsp=>?_;obtain⟨t,h,q⟩:=hbody cdv A outer s H vs Q E hr hsp;exact⟨t,h.AL,q⟩
theorem bx.binds{st:Stmt}(F:bx K x qual st f fd)
  (h:∀(kV doc pm:Value) (an:Option Addr) (cdv ct:Value) (us:List Value),us.length=ps.length->bindArgs (PySem.W.fnOf x qual (dg st) (cY st) (ar st) .none kV doc pm an cdv ct) ⟨us,[]⟩=pure (ps.zip us)):Binds K fd ps []:=by
 obtain⟨oc,od,kV,doc,pm,an,cdv,ct,osl,rfl,lk,hcd⟩:=F.ex;exact .all (h kV doc pm an cdv ct)
theorem Bb{x qual:Str}{st:Stmt}{f:Addr}{oc:Value}{od an:Option Addr}{osl:Array (Option Value)}{kV doc pm cdv ct:Value}(l:K.lookup f=some ⟨oc,od,.func (PySem.W.fnOf x qual (dg st) (cY st) (ar st) .none kV doc pm an cdv ct),osl⟩)
  (c:W.codeIn K cdv qual=true) (k:W.keepIn K (.ref f)=true):bx K x qual st f (W.fnOf x qual (dg st) (cY st) (ar st) .none kV doc pm an cdv ct):=⟨⟨oc,od,kV,doc,pm,an,cdv,ct,osl,rfl,l,c⟩,k⟩
end
theorem fh(hr:cT k A):A.units+1<cLine:=Z2 (Nat.add_le_add_left (by decide:1<=64) _) hr.units
theorem hZ(h:n<=1000):n<sizeLine:=Z2 h (by decide)
section
theorem pv(i:Nat)(hN:X.N[i]?=some x:=by rfl)(hv:JH X.env.scope x:=by first|exact Or.inl rfl|exact Or.inr (Or.inl rfl)|exact Or.inr (Or.inr rfl))(hd:(x==("__debug__" : Str))=false:=by decide)
  (hcd:(x==("__classdict__" : Str))=false:=by decide):PE X (.Name x pos) (gM i):=JJ hN hv hd hcd
end
theorem br{A B:Prop}(h:B):if false=true then A else B:=by rw[if_neg ZM];exact h
theorem b6{A B:Prop}(h:A):if true=true then A else B:=by rw[if_pos rfl];exact h
theorem iA{c A B:Prop}[Decidable c](h1:c->A)(h2:¬ c->B):if c then A else B:=by
 by_cases h:c
 ·rw[if_pos h];exact h1 h
 ·rw[if_neg h];exact h2 h
def av(H H':Hp):Prop:=∀b o,H b=some o->H' b=some o
theorem av.refl(H:Hp):av H H:=λ_ _ h=>h
theorem av.trans(a:av H H1)(b:av H1 H2):av H H2:=λc o h=>b c o (a c o h)
theorem av.free(e:av H H')(h:H' l=Option.none):H l=Option.none:=by
 cases q:H l with
 |none=>rfl
 |some o =>rw[e l o q] at h;cases h
theorem av.seq{K:PySem.W.Frag}{H H':Hp}{a:Addr}{xs:List V}(e:av H H')(h:aq K H a xs):aq K H' a xs:=by
 rcases h with(h|⟨o,h⟩)|h
 ·exact .inl (.inl (e _ _ h))
 ·exact .inl (.inr ⟨o,e _ _ h⟩)
 ·exact .inr h
end L2
set_option maxHeartbeats 4000000
namespace L2
open PySem PySem.Spec PyProof.Rows
section
variable {κ:Type}[DecidableEq κ]
def bD(kvs:List (κ×V))(k:κ):Option V:=(kvs.find? λkv=>decide (kv.1=k)).map (·.2)
def putK(kvs:List (κ×V))(k:κ)(v:V):List (κ×V):=
 if (kvs.any λkv=>decide (kv.1=k))=true then kvs.map (λkv=>if kv.1=k then (kv.1,v) else kv) else kvs++[(k,v)]
theorem cK{p:κ×V}{r:List (κ×V)}{k:κ}(e:p.1=k):bD (p::r) k=some p.2:=by simp[bD,abf,e]
theorem cu{p:κ×V}{r:List (κ×V)}{k:κ}(e:¬ p.1=k):bD (p::r) k=bD r k:=by simp[bD,abf,e]
theorem eC(k:κ):∀kvs:List (κ×V),(kvs.any λkv=>decide (kv.1=k))=(bD kvs k).isSome
 |[]=>rfl
 |p::r=>by
  rw[abF];by_cases e:p.1=k
  ·simp only[cK e,decide_eq_true e,Bool.true_or,Option.isSome_some]
  ·rw[cu e,decide_eq_false e,Bool.false_or];exact eC k r
theorem uO(k j:κ)(y:V):∀kvs:List (κ×V),bD (kvs.map λkv=>if kv.1=k then (kv.1,y) else kv) j=(bD kvs j).map λx=>if j=k then y else x
 |[]=>rfl
 |p::r=>by
  have ih:=uO k j y r;rw[ZI];by_cases h:p.1=k
  ·rw[if_pos h];by_cases e:p.1=j
   ·rw[cK (p:=(p.1,y)) e,cK e,aaV,if_pos (e.symm.trans h)]
   ·rw[cu (p:=(p.1,y)) e,cu e,ih]
  ·rw[if_neg h];by_cases e:p.1=j
   ·rw[cK (p:=p) e,cK e,aaV,if_neg (λz=>h (e.trans z))]
   ·rw[cu (p:=p) e,cu e,ih]
theorem su(k j:κ)(y:V):∀kvs:List (κ×V),bD kvs k=none->bD (kvs++[(k,y)]) j=if j=k then some y else bD kvs j
 |[],_=>by
  by_cases e:k=j
  ·rw[if_pos e.symm];exact cK (p:=(k,y)) e
  ·rw[if_neg (λz=>e z.symm)];exact cu (p:=(k,y)) e
 |p::r,hn=>by
  rw[acB];have hk:¬ p.1=k:=λz=>by rw[cK z] at hn;cases hn
  rw[cu hk] at hn;have ih:=su k j y r hn;by_cases e:p.1=j
  ·rw[cK e,cK e,if_neg (λz=>hk (e.trans z))]
  ·rw[cu e,cu e,ih]
theorem uP(kvs:List (κ×V))(k j:κ)(y:V):bD (putK kvs k y) j=if j=k then some y else bD kvs j:=by
 unfold putK;by_cases a:(kvs.any λkv=>decide (kv.1=k))=true
 ·rw[if_pos a,uO];rw[eC] at a;by_cases e:j=k
  ·obtain⟨x,hx⟩:=adw.mp a;rw[if_pos e,e,hx,aaV,if_pos rfl]
  ·rw[if_neg e];cases bD kvs j with
   |none=>rfl
   |some x=>rw[aaV,if_neg e]
 ·rw[if_neg a];refine su k j y kvs ?_;rw[eC] at a;cases q:bD kvs k with
  |none=>rfl
  |some x=>rw[q] at a;exact(a rfl).elim
theorem jH(kvs:List (κ×V))(k:κ)(v:V):(putK kvs k v).length<=kvs.length+1:=by
 unfold putK;split
 ·rw[Zj];omega
 ·rw[ZA,Zz,aaL];omega
theorem iY{kvs:List (κ×V)}{k:κ}(v:V)(h:bD kvs k=none):putK kvs k v=kvs++[(k,v)]:=by unfold putK;rw[eC,h];exact if_neg (by decide)
theorem eR.mi(r:eR o u):o.isSome=u.isSome:=by
 cases o with
 |none=>cases u with
  |none=>rfl
  |some _=>exact(show False from r).elim
 |some _=>cases u with
  |none=>exact(show False from r).elim
  |some _=>rfl
theorem KV.val{kvs:List (κ×V)}{vs:List (κ×Value)}(r:KV kvs vs)(k:κ):eR (bD kvs k) (valueAt vs k):=by
 unfold KV at r;induction r with
 |nil=>exact True.intro
 |@cons p q ps qs h t ih=>
  obtain⟨h1,h2⟩:=h;by_cases e:p.1=k
  ·have e':q.1=k:=h1.symm.trans e;have b:valueAt (q::qs) k=some q.2:=by simp[valueAt,abf,e']
   rw[cK e,b];exact h2
  ·have e':¬ q.1=k:=λz=>e (h1.trans z);have b:valueAt (q::qs) k=valueAt qs k:=by simp[valueAt,abf,e']
   rw[cu e,b];exact ih
theorem KV.any(r:KV kvs vs)(k:κ):(kvs.any λkv=>decide (kv.1=k))=vs.any λkv=>decide (kv.1=k):=by
 unfold KV at r;induction r with
 |nil=>rfl
 |cons h t ih=>rw[abF,abF,ih,h.1]
theorem KV.DX(r:KV kvs vs)(k:κ)(ry:RelV y u) :
  KV (kvs.map λkv=>if kv.1=k then (kv.1,y) else kv) (vs.map λkv=>if kv.1=k then (kv.1,u) else kv):=by
 unfold KV at r⊢;induction r with
 |nil=>exact .nil
 |@cons p q ps qs h t ih=>
  rw[ZI,ZI];refine .cons ?_ ih;obtain⟨h1,h2⟩:=h;by_cases e:p.1=k
  ·rw[if_pos e,if_pos (h1.symm.trans e)];exact⟨h1,ry⟩
  ·rw[if_neg e,if_neg (λz=>e (h1.trans z))];exact⟨h1,h2⟩
theorem KV.put(r:KV kvs vs)(k:κ)(ry:RelV y u):KV (putK kvs k y) (stored vs k u):=by
 unfold putK stored;rw[r.any k];by_cases e:(vs.any λkv=>decide (kv.1=k))=true
 ·rw[if_pos e,if_pos e];exact r.DX k ry
 ·rw[if_neg e,if_neg e];exact aa2 r ⟨rfl,ry⟩
theorem KV.keys{kvs:List (κ×V)}{vs:List (κ×Value)}(r:KV kvs vs):kvs.map (·.1)=vs.map (·.1):=by
 unfold KV at r;induction r with
 |nil=>rfl
 |cons h t ih=>rw[ZI,ZI,ih,h.1]
theorem KV.length(r:KV kvs vs):kvs.length=vs.length:=ZG r
end
theorem mY(r:RelV (kV k) u):(aW P w).is k u=true:=by
 cases k with
 |inl i=>obtain⟨t,e⟩:=(show ∃t,u=Value.int i t from r);subst e;exact xj P w i t
 |inr x=>obtain⟨t,e⟩:=(show ∃t,u=Value.str x t from r);subst e;exact xm P w x t
theorem sA:∀{ks:List Key} {us:List Value},Vals (ks.map kV) us->ItemsAre (aW P w) ks us
 |[],_,r=>by rw[ab7] at r;cases r;exact .nil
 |k::ks,_,r=>by
  rw[ZI] at r;cases r with
  |cons h t=>exact .cons (mY h) (sA t)
abbrev KT(H:Hp):List (List Key×V)->List (List Key×Addr×Value)->Prop:=Paired λp q=>p.1=q.1/\H q.2.1=some (.tup (p.1.map kV))/\RelV p.2 q.2.2
theorem KT.val(r:KT H kvs xs)(k:List Key):eR (bD kvs k) ((atKey xs k).map (·.2)):=by
 induction r with
 |nil=>exact True.intro
 |@cons p q ps qs h t ih=>
  obtain⟨h1,_,h2⟩:=h;by_cases e:p.1=k
  ·have e':q.1=k:=h1.symm.trans e;have b:atKey (q::qs) k=some q.2:=by simp[atKey,abf,e']
   rw[cK e,b];exact h2
  ·have e':¬ q.1=k:=λz=>e (h1.trans z);have b:atKey (q::qs) k=atKey qs k:=by simp[atKey,abf,e']
   rw[cu e,b];exact ih
theorem KT.DX(r:KT H kvs xs)(k:List Key)(ry:RelV y u) :
  KT H (kvs.map λkv=>if kv.1=k then (kv.1,y) else kv) (xs.map (putAt k u)):=by
 induction r with
 |nil=>exact .nil
 |@cons p q ps qs h t ih=>
  rw[ZI,ZI];refine .cons ?_ ih;obtain⟨h1,h2,h3⟩:=h;unfold putAt;by_cases e:p.1=k
  ·rw[if_pos e,if_pos (h1.symm.trans e)];exact⟨h1,h2,ry⟩
  ·rw[if_neg e,if_neg (λz=>e (h1.trans z))];exact⟨h1,h2,h3⟩
theorem KT.put(r:KT H kvs xs)(k:List Key)(hb:H b=some (.tup (k.map kV)))(ry:RelV y u) :
  KT H (putK kvs k y) (storedH xs k b u):=by
 have e:(kvs.any λkv=>decide (kv.1=k))=(atKey xs k).isSome:=by rw[eC,(r.val k).mi,ae0]
 unfold putK storedH;rw[e];by_cases q:(atKey xs k).isSome=true
 ·rw[if_pos q,if_pos q];exact r.DX k ry
 ·rw[if_neg q,if_neg q];exact aa2 r ⟨rfl,hb,ry⟩
theorem KT.keeps(r:KT H kvs xs)(ht:∀b ys,H b=some (.tup ys)->H' b=some (.tup ys)):KT H' kvs xs:=
 Paired.gp r λ_ _ z=>⟨z.1,ht _ _ z.2.1,z.2.2⟩
section
theorem F8(ok:de P w H h)(e:Rd H a u):bg P w H h a u:=e.ok ok
theorem ud(ok:de P w H h)(e:Rd H a (.dK kvs)):kvs.length<=sizeLine/\(a==sysModules)=false/\∃vs,KV kvs vs/\h.DictOf (aW P w) a vs:=
 show bg P w H h a (.dK kvs) from F8 ok e
theorem zE(ok:de P w H h)(e:H a=some (.dK kvs)):kvs.length<=sizeLine/\(a==sysModules)=false/\∃vs,KV kvs vs/\h.DictOf (aW P w) a vs:=ud ok (.inl e)
theorem jW(ok:de P w H h)(e:H a=some (.tup (ks.map kV))):(tupleKind (aW P w)).is h ks a:=by
 obtain⟨_,its,r,o,h1,h2,n,h3⟩:=(show bg P w H h a (.tup (ks.map kV)) from ok a _ e)
 exact⟨o,its.toArray,n,h1,h2,h3,by simpa using sA r⟩
theorem ue(ok:de P w H h)(e:Rd H a (.dT kvs)):kvs.length<=sizeLine/\(a==sysModules)=false /\
  ∃xs,KT H kvs xs/\h.DictOfH (tupleKind (aW P w)) a xs:=by
 obtain⟨z,y,xs,r,o,es,ep,h1,h2,h3,h4,h5⟩:=(show bg P w H h a (.dT kvs) from F8 ok e)
 refine⟨z,y,xs,r,o,es,ep,h1,h2,h3,h4,λx hx=>?_,h5⟩;have all:∀{l:List (List Key×V)} {m:List (List Key×Addr×Value)},KT H l m->∀x∈m,(tupleKind (aW P w)).is h x.1 x.2.1:=by
  intro l m q;induction q with
  |nil=>intro x hx;exact nomatch hx
  |@cons p q ps qs hq t ih=>
   intro x hx;rcases Zs.mp hx with e|hx
   ·subst e;exact jW ok (by rw[<-hq.1];exact hq.2.1)
   ·exact ih x hx
 exact all r x hx
theorem zF(ok:de P w H h)(e:H a=some (.dT kvs)):kvs.length<=sizeLine/\(a==sysModules)=false /\
  ∃xs,KT H kvs xs/\h.DictOfH (tupleKind (aW P w)) a xs:=ue ok (.inl e)
end
def c7(H:Hp)(a:Addr)(y:V)(r:Option V):Prop:=
 (∃kvs k,Rd H a (.dK kvs)/\y=kV k/\r=bD kvs k)\/∃kvs k b,Rd H a (.dT kvs)/\y=.ref b/\H b=some (.tup (k.map kV))/\r=bD kvs k
def jI(H:Hp)(a:Addr)(y v:V)(H':Hp):Prop:=
 (∃kvs k,H a=some (.dK kvs)/\y=kV k/\kvs.length<sizeLine/\H'=upd H a (.dK (putK kvs k v))) \/
 ∃kvs k b,H a=some (.dT kvs)/\y=.ref b/\H b=some (.tup (k.map kV))/\kvs.length<sizeLine/\H'=upd H a (.dT (putK kvs k v))
theorem c7.k{kvs:List (Key×V)}{k:Key}(e:H a=some (.dK kvs)):c7 H a (kV k) (bD kvs k):=.inl ⟨kvs,k,.inl e,rfl,rfl⟩
theorem c7.t{kvs:List (List Key×V)}{k:List Key}(e:H a=some (.dT kvs))(eb:H b=some (.tup (k.map kV))):c7 H a (.ref b) (bD kvs k):=.inr ⟨kvs,k,b,.inl e,rfl,eb,rfl⟩
theorem jI.k{kvs:List (Key×V)}{k:Key}(e:H a=some (.dK kvs))(hl:kvs.length<sizeLine):jI H a (kV k) v (upd H a (.dK (putK kvs k v))):=.inl ⟨kvs,k,e,rfl,hl,rfl⟩
theorem jI.t{kvs:List (List Key×V)}{k:List Key}(e:H a=some (.dT kvs))(eb:H b=some (.tup (k.map kV)))(hl:kvs.length<sizeLine) :
  jI H a (.ref b) v (upd H a (.dT (putK kvs k v))):=.inr ⟨kvs,k,b,e,rfl,eb,hl,rfl⟩
section
theorem Inv.big(I:Inv X pins σ H s):sysModules<s.heap.objs.size:=by have h:mainGlobals<s.heap.objs.size:=(I.mod.glob.keeps I.bk).lt;exact acN (by decide) h
theorem Bc(hu:A.units+1<cLine)(I:Inv X pins σ H s)(g:c7 H a y (some v))(ry:RelV y u)(h:∀w' s',Inv X pins σ H s'->RelV v w'->Q w' s') :
  wpAny (model X.prog X.w) A (getItem (.ref a) u) Q E s:=by
 rcases g with⟨kvs,k,e,ey,l⟩|⟨kvs,k,b,e,ey,eb,l⟩
 ·subst ey;obtain⟨z,hd,vs,rel,dd⟩:=ud I.aL e;obtain⟨w',hw,pN⟩:=eR.some_of (v:=v) (o:=valueAt vs k) (by rw[l];exact rel.val k);exact wpAny_getItem_of (mY ry) dd.mapOf hw (h w' _ (I.tok _) pN)
 ·subst ey;cases (show u=Value.ref b from ry);obtain⟨z,hd,xs,rel,dd⟩:=ue I.aL e;obtain⟨w',hw,pN⟩:=eR.some_of (v:=v) (o:=(atKey xs k).map (·.2)) (by rw[l];exact rel.val k);obtain⟨p,hp,hp2⟩:=Zp.mp hw;refine wpAny_getItem_heap (tupleKind_room_in1 hu) (jW I.aL eb) dd hp ?_;rw[hp2];exact h w' _ (I.tok _) pN
theorem HP(hu:A.units+1<cLine)(I:Inv X pins σ H s)(g:c7 H a y o)(ry:RelV y u)(h:∀s',Inv X pins σ H s'->Q (.bool (!o.isSome)) s') :
  wpAny (model X.prog X.w) A (compareOp .NotIn u (.ref a)) Q E s:=by
 rcases g with⟨kvs,k,e,ey,l⟩|⟨kvs,k,b,e,ey,eb,l⟩
 ·subst ey;obtain⟨z,hd,vs,rel,dd⟩:=ud I.aL e;refine wpAny_notIn_of (mY ry) hd dd.mapOf ?_;rw[<-(rel.val k).mi,<-l];exact h _ (I.tok _)
 ·subst ey;cases (show u=Value.ref b from ry);obtain⟨z,hd,xs,rel,dd⟩:=ue I.aL e;refine wpAny_notIn_heap (tupleKind_room_in1 hu) (jW I.aL eb) hd dd ?_;have q:=(rel.val k).mi;rw[ae0] at q;rw[<-q,<-l];exact h _ (I.tok _)
theorem mZ(I:Inv X pins σ H s)(mu:AF (H a))(hs:Heap.SameBut a s.heap h')(he:∃q,h'.get? a=some q)(new:bg X.prog X.w (upd H a ob) h' a ob) :
  Inv X pins σ (upd H a ob) {s with heap:=h',toks:=t' }:=
 I.write (x:=a) (e:=a) mu (.inl rfl) (λb q hb z=>(hs.2 b hb).trans z) he new
theorem Bd(z:kvs.length<=sizeLine)(hd:(a==sysModules)=false)(rel:KV kvs vs)(dd:h'.DictOf (aW P w) a vs) :
  bg P w H' h' a (.dK kvs):=⟨z,hd,vs,rel,dd⟩
theorem Be(hu:A.units+1<cLine)(I:Inv X pins σ H s)(g:jI H a y v H')(ry:RelV y u)(rv:RelV v r)(h:∀s',Inv X pins σ H' s'->Q () s') :
  wpAny (model X.prog X.w) A (setItem (.ref a) u r) Q E s:=by
 rcases g with⟨kvs,k,e,ey,l,eH⟩|⟨kvs,k,b,e,ey,eb,l,eH⟩
 ·subst ey eH;obtain⟨z,hd,vs,rel,dd⟩:=zE I.aL e;have hz:vs.length<=sizeLine:=by rw[<-rel.length];exact z
  have hl:(putK kvs k v).length<=sizeLine:=by have:=jH kvs k v;omega
  refine wpAny_setItem_pairs (hsz:=hz) (mY ry) dd λh' pR hs=>h _ ?_;have he:∃q,h'.get? a=some q:=let ⟨q,_,_,hq,_⟩:=pR;⟨q,hq⟩
  exact mZ I (by rw[e];exact True.intro) hs he (Bd hl hd (rel.put k rv) pR)
 ·subst ey eH;cases (show u=Value.ref b from ry);obtain⟨z,hd,xs,rel,dd⟩:=zF I.aL e;have hz:xs.length<=sizeLine:=by rw[<-ZG rel];exact z
  have hl:(putK kvs k v).length<=sizeLine:=by have:=jH kvs k v;omega
  refine wpAny_setItem_heap (hsz:=hz) (tupleKind_room_in1 hu) (jW I.aL eb) dd λh' pR hs=>h _ ?_;obtain⟨q,es,ep,hq,h2,h3,h4,_,h5⟩:=pR;refine mZ I (by rw[e];exact True.intro) hs ⟨q,hq⟩ ⟨hl,hd,_,(rel.put k eb rv).keeps λc ys ec=>?_,q,es,ep,hq,h2,h3,h4,h5⟩;rw[ak (cg ec e (λz=>nomatch z))];exact ec
end
def Kn(i:Expr):Prop:=∀ov iv,subscripted i false ov iv=operate [ov,iv] (getItem ov iv)
theorem HQ{E:Value->Shared->Prop}{env:Env}{value slice:Expr}{pos:Pos}{T id:String}{Q:Value->Shared->Prop}
  (hl:typeLookup (.type T) "__getitem__" = pure (some (.builtin id))) (hs:Kn slice)
  (h:wpAny (model prog w) A (eval value env) (λo s₁=>wpAny (model prog w) A (eval slice env) (λi s₂=>s₂.TypeIs o T/\wpAny (model prog w) A (getItem o i) Q E s₂) E s₁) E s) :
  wpAny (model prog w) A (eval (.Subscript value slice pos) env) Q E s:=by
 refine aen (wpAny_mono h (λo s₁ h₁=>wpAny_mono h₁ (λi s₂ h₂=>?_) λ_ _ x=>x) λ_ _ x=>x);obtain⟨hT,h₂⟩:=h₂;unfold subscriptTail;refine wpAny_bind ?_;rw[getitemInPython_of_ne hT.not_modules];refine wpAny_bind (wpAny_specialOf hT hl ?_);have fin:wpAny (model prog w) A (subscripted slice false o i) (λr s₃=>wpAny (model prog w) A (letTemporaryGo value o r>>=λ_=>pure r) Q E s₃) E s₂:=by rw[hs o i];exact wpAny_operating (wpAny_mono h₂ (λr s₃ h₃=>wpAny_bind (wpAny_letTemporaryGo (wpAny_pure h₃))) λ_ _ x=>x)
 first
  |exact wpAny_pure (wpAny_bind fin)
  |exact wpAny_bind (wpAny_pure (wpAny_bind fin))
  |exact wpAny_bind fin
theorem xt(I:Inv X pins σ H s)(g:c7 H a y o):s.TypeIs (.ref a) "dict" := by
 rcases g with⟨kvs,k,e,_,_⟩|⟨kvs,k,b,e,_,_,_⟩
 ·obtain⟨_,_,vs,_,dd⟩:=ud I.aL e;exact dd.typeIs
 ·obtain⟨_,_,xs,_,dd⟩:=ue I.aL e;exact dd.typeIs
def zG(td ty:TE):TE:=λσ H Q=>td σ H λx H1=>ty σ H1 λy H2=>∃a v,x=.ref a/\c7 H2 a y (some v)/\Q v H2
def HR(ty td:TE):TE:=λσ H Q=>ty σ H λy H1=>td σ H1 λx H2=>∃a o,x=.ref a/\c7 H2 a y o/\Q (.bl (!o.isSome)) H2
def N7(td ty tv:TE):TS:=λD σ H=>tv σ H λv H1=>td σ H1 λx H2=>ty σ H2 λy H3=>∃a H4,x=.ref a/\jI H3 a y v H4/\D.nx σ H4
section
theorem gO(hu:X.A.units+1<cLine)(ho:PE X o td)(hi:PE X i ty)(hs:Kn i):PE X (.Subscript o i pos) (zG td ty):=by intro pins s σ H Q I h;refine HQ PySem.F.slot_dict_getitem.lookup hs (aH (ho pins s σ H _ I h) λu s1 ⟨x,H1,I1,rx,q1⟩=>aH (hi pins s1 σ H1 _ I1 q1) λiv s2 ⟨y,H2,I2,ry,a,v,ex,g,q2⟩=>?_);subst ex;obtain rfl:u=Value.ref a:=rx;exact⟨xt I2 g,Bc hu I2 g ry λw' s3 I3 pN=>⟨v,H2,I3,pN,q2⟩⟩
theorem sC(hu:X.A.units+1<cLine)(hi:PE X i ty)(ho:PE X o td):PC X .NotIn i o (HR ty td):=by intro pins s σ H Q I h;refine aH (hi pins s σ H _ I h) λiv s1 ⟨y,H1,I1,ry,q1⟩=>aH (ho pins s1 σ H1 _ I1 q1) λu s2 ⟨x,H2,I2,rx,a,ov,ex,g,q2⟩=>?_;subst ex;obtain rfl:u=Value.ref a:=rx;exact HP hu I2 g ry λs3 I3=>⟨.bl (!ov.isSome),H2,I3,rfl,q2⟩
theorem m5(hu:X.A.units+1<cLine)(ho:PE X o td)(hi:PE X i ty)(hv:PE X value tv)(hs:swapsWith value (some (.Subscript o i pos')) pos.line X.env=pure false) :
  PS X (.Assign [.Subscript o i pos'] value pos) (N7 td ty tv):=by
 intro pins s σ H D I h;refine wpAny_Assign_Subscript (aH (hv pins s σ H _ I h) λr s1 ⟨v,H1,I1,rv,q1⟩=>aH (ho pins s1 σ H1 _ I1 q1) λu s2 ⟨x,H2,I2,rx,q2⟩=>aH (hi pins s2 σ H2 _ I2 q2) λiv s3 ⟨y,H3,I3,ry,a,H4,ex,g,q3⟩=>?_) hs;subst ex;obtain rfl:u=Value.ref a:=rx;exact Be hu I3 g ry rv λs4 I4=>⟨σ,H4,I4,q3⟩
end
theorem DY(h:Heap)(hb:sysModules<h.objs.size):bg P w H (h.push {cls:=.type "dict",data:=.dict #[]}) h.objs.size (.dK []):=
 ⟨ZE _,beq_eq_false_iff_ne.mpr (Z0 (ZQ hb)),[],.nil,afo h⟩
theorem DZ(h:Heap)(hb:sysModules<h.objs.size):bg P w H (h.push {cls:=.type "dict",data:=.dict #[]}) h.objs.size (.dT []):=
 ⟨ZE _,beq_eq_false_iff_ne.mpr (Z0 (ZQ hb)),[],.nil,_,#[],0,Zw _ rfl,⟨rfl,rfl,rfl⟩,rfl,rfl,abz⟩
def Ko:TE:=λ_ H Q=>∀p,H p=none->Q (.ref p) (upd H p (.dT []))
section
theorem kM:PE X (.Dict [] [] pos) Ko:=λpins s σ H Q I h =>wpAny_Dict_empty ⟨.ref s.heap.objs.size,_,I.laid (a:=s.heap.objs.size) (o:=.dT []) (t':=s.toks) (λ_ _ q=>Zl _ q) (Zn _) (DZ s.heap I.big),rfl,h _ (I.aL.fresh (Zn _))⟩
end
def uQ:List (TE×TE)->St->Hp->(List (V×V)->Hp->Prop)->Prop
 |[],_,H,Q=>Q [] H
 |(tk,tv)::r,σ,H,Q=>tk σ H λx H1=>tv σ H1 λy H2=>uQ r σ H2 λps H3=>Q ((x,y)::ps) H3
abbrev VV:List (V×V)->List (Value×Value)->Prop:=Paired λp q=>RelV p.1 q.1/\RelV p.2 q.2
def F9(X:Cx)(pos:Pos)(keys:List (Option Expr))(values:List Expr)(trs:List (TE×TE)):Prop:=
 ∀(pins:List (Addr×Obj)) (s:Shared) (σ:St) (H:Hp) (Q:List (V×V)->Hp->Prop),Inv X pins σ H s->uQ trs σ H Q ->
  wpAny (model X.prog X.w) X.A (evalPairs (pairTrees keys values X.env pos)) (λvs s'=>∃ps H',Inv X pins σ H' s'/\VV ps vs/\Q ps H') X.xe s
theorem HS:F9 X pos [] [] []:=λpins s σ H Q I h=>pairTrees_nil_walk ⟨[],H,I,.nil,h⟩
theorem D4(hk:PE X k tk)(hv:PE X v tv)(hr:F9 X pos ks vs trs) :
  F9 X pos (some k::ks) (v::vs) ((tk,tv)::trs):=λpins s σ H Q I h=>
 pairTrees_cons_walk (aH (hk pins s σ H _ I h) λu s1 ⟨x,H1,I1,rx,q1⟩=>aH (hv pins s1 σ H1 _ I1 q1) λw2 s2 ⟨y,H2,I2,ry,q2⟩ =>aH (hr pins s2 σ H2 _ I2 q2) λws s3 ⟨ps,H3,I3,rel,q3⟩=>⟨(x,y)::ps,H3,I3,.cons ⟨rx,ry⟩ rel,q3⟩)
def jX(kvs more:List (Key×V)):List (Key×V):=more.foldl (λacc kv=>putK acc kv.1 kv.2) kvs
theorem KV.merge:∀{more:List (Key×V)} {rs:List (Key×Value)} {kvs:List (Key×V)} {vs:List (Key×Value)},KV more rs->KV kvs vs->KV (jX kvs more) (merged vs rs):=by
 intro more rs kvs vs r;unfold KV at r;induction r generalizing kvs vs with
 |nil=>intro q;exact q
 |@cons p q ps qs h t ih=>
  intro r0;have e:KV (putK kvs p.1 p.2) (stored vs q.1 q.2):=by
   have:=r0.put p.1 h.2
   rw[<-h.1];exact this
  exact ih e
theorem lH:∀(more kvs:List (Key×V)),(jX kvs more).length<=kvs.length+more.length
 |[],kvs=>by show kvs.length<=kvs.length+0;omega
 |p::r,kvs=>by
  have h1:=lH r (putK kvs p.1 p.2);have h2:=jH kvs p.1 p.2;show(jX (putK kvs p.1 p.2) r).length<=_
  rw[Zz];omega
theorem pS:∀{kvs:List (Key×V)} {ws:List (Value×Value)},VV (kvs.map λkv=>(kV kv.1,kv.2)) ws->∃rs,Carries (aW P w) ws rs/\KV kvs rs
 |[],_,r=>by rw[ab7] at r;cases r;exact⟨[],True.intro,.nil⟩
 |p::kvs,_,r=>by
  rw[ZI] at r;cases r with
  |@cons a b as bs h t =>obtain⟨rs,c,q⟩:=pS (P:=P) (w:=w) t;obtain⟨b1,b2⟩:=b;exact⟨(p.1,b2)::rs,⟨mY h.1,rfl,c⟩,.cons ⟨rfl,h.2⟩ q⟩
def N8(trs:List (TE×TE)):TE:=λσ H Q=>∀p,H p=none->uQ trs σ (upd H p (.dK [])) λps H2=>H2 p=some (.dK [])/\∃kvs:List (Key×V),ps=kvs.map (λkv=>(kV kv.1,kv.2))/\kvs.length<=15/\Q (.ref p) (upd H2 p (.dK (jX [] kvs)))
theorem HU(h:F9 X pos keys values trs)(hall:keys.all (·.isSome)=true)(hl:keys.length=values.length)(h0:keys≠[])
  (h15:keys.length<=15):PE X (.Dict keys values pos) (N8 trs):=by
 intro pins s σ H Q I q;have hn:=I.aL.fresh (Zn s.heap.objs.size);have I1:=I.laid (a:=s.heap.objs.size) (o:=.dK []) (h':=s.heap.push {cls:=.type "dict",data:=.dict #[]}) (t':=s.toks) (λ_ _ q=>Zl _ q) (Zn _) (DY s.heap I.big);refine wpAny_Dict_walk (knd:=aW X.prog X.w) hall hl h0 h15 (aH (h pins _ σ _ _ I1 (q _ hn)) λws s2 ⟨ps,H2,I2,rel,e,kvs,ep,lk,q2⟩=>?_);subst ep;obtain⟨rs,c,rk⟩:=pS (P:=X.prog) (w:=X.w) rel;obtain⟨z,hd,Ye,r0,dd⟩:=zE I2.aL e;cases r0;refine⟨rs,c,dd,λh' pR hs=>⟨.ref s.heap.objs.size,_,?_,rfl,q2⟩⟩;have hz:(jX [] kvs).length<=sizeLine:=by have h1:=lH kvs [];rw[aaL] at h1;rw[acq];omega
 have he:∃q,h'.get? s.heap.objs.size=some q:=let ⟨q,_,_,hq,_⟩:=pR;⟨q,hq⟩
 exact mZ I2 (by rw[e];exact True.intro) hs he (Bd hz hd (rk.merge .nil) pR)
section
variable {κ:Type}[DecidableEq κ]
theorem HV{kvs:List (κ×V)}{k:κ}(h:bD kvs k=some v):k∈kvs.map (·.1):=by
 have q:(kvs.any λkv=>decide (kv.1=k))=true:=by rw[eC,h];all_goals rfl
 obtain⟨p,hp,e⟩:=aa8.mp q;exact ZD.mpr ⟨p,hp,of_decide_eq_true e⟩
theorem jY:∀{l:List κ} {k:κ},l.Nodup->¬ k∈l->(l++[k]).Nodup
 |[],k,_,_=>by simp
 |a::r,k,h,hk=>by
  obtain⟨h1,h2⟩:=ZT.mp h;show(a::(r++[k])).Nodup
  refine ZT.mpr ⟨λm=>?_,jY h2 λm=>hk (Zs.mpr (Or.inr m))⟩;rcases Zv.mp m with q|q
  ·exact h1 q
  ·exact hk (Zs.mpr (Or.inl (ZJ.mp q).symm))
end
section
def cj(env:Env):List (Str×NameKind)->List (Str×Addr)->List (Str×Addr)
 |[],acc=>acc
 |(n,k)::r,acc=>if (k==NameKind.free)=true then cj env r ((n,(env.cells.lookup n).getD 0)::acc) else cj env r acc
theorem mj(f:Str×NameKind->List (Str×Addr)->Sem (ForInStep (List (Str×Addr))))
  (hf:∀n k cs,f (n,k) cs=if (k==NameKind.free)=true then (do let a <-cellOf env n;pure (.yield ((n,a)::cs))) else pure (.yield cs)) :
  ∀(names:List (Str×NameKind)) (acc:List (Str×Addr)),(∀p∈names,p.2=.free->∃c,env.cells.lookup p.1=some c)->forIn names acc f=pure (cj env names acc)
 |[],acc,_=>by rw[abQ];rfl
 |(n,k)::r,acc,h=>by
  have hr:∀p∈r,p.2=.free->∃c,env.cells.lookup p.1=some c:=λp hp=>h p (ZC _ hp);rw[abp,hf,cj];by_cases hk:(k==NameKind.free)=true
  ·obtain⟨c,hc⟩:=h (n,k) Zy (by simpa using hk);have dA:env.cells.lookup n=some c:=hc;rw[if_pos hk,if_pos hk];have e:cellOf env n=pure c:=by unfold cellOf;rw[dA]
   rw[e,dA];exact mj f hf r _ hr
  ·rw[if_neg hk,if_neg hk];exact mj f hf r _ hr
theorem dh(h:∀p∈sc.names,p.2=.free->∃c,env.cells.lookup p.1=some c):closureFor sc env=pure (cj env sc.names []):=by unfold closureFor;have e:=mj (env:=env) (λ(x:Str×NameKind) (r:List (Str×Addr))=>if (x.2==NameKind.free)=true then (do let a <-cellOf env x.1;pure (ForInStep.yield ((x.1,a)::r))) else pure (ForInStep.yield r)) (λ_ _ _=>rfl) sc.names [] h;exact(congrArg (λm=>m>>=λcs=>pure cs) e)
theorem oF:∀{names:List (Str×NameKind)} {acc:List (Str×Addr)},(x,c)∈cj env names acc->(x,c)∈acc\/((x,NameKind.free)∈names/\c=(env.cells.lookup x).getD 0)
 |[],_,h=>.inl h
 |(n,k)::r,acc,h=>by
  unfold cj at h;split at h
  ·rename_i hk
   have dP:k=.free:=by simpa using hk
   rcases oF h with q|⟨q,e⟩
   ·rcases Zs.mp q with q|q
    ·cases q;exact .inr ⟨by rw[dP];exact Zy,rfl⟩
    ·exact .inl q
   ·exact .inr ⟨ZC _ q,e⟩
  ·rcases oF h with q|⟨q,e⟩
   ·exact .inl q
   ·exact .inr ⟨ZC _ q,e⟩
theorem gA:∀{l:List (Str×β)},(x,c)∈l->∃c',l.lookup x=some c'
 |[],h=>nomatch h
 |(n,k)::r,h=>by
  cases hx:x==n with
  |true=>exact⟨k,by simp[Z1,hx]⟩
  |false=>
   rcases Zs.mp h with q|q
   ·cases q;simp at hx
   ·obtain⟨c',e⟩:=gA q;exact⟨c',by simp[Z1,hx,e]⟩
theorem kN:∀{names:List (Str×NameKind)} {acc:List (Str×Addr)},((x,NameKind.free)∈names\/∃c,(x,c)∈acc)->∃c,(x,c)∈cj env names acc
 |[],acc,h=>by
  rcases h with h|⟨c,h⟩
  ·exact nomatch h
  ·exact⟨c,h⟩
 |(n,k)::r,acc,h=>by
  unfold cj;split
  ·rename_i hk
   apply kN;rcases h with h|⟨c,h⟩
   ·rcases Zs.mp h with q|q
    ·cases q;exact .inr ⟨_,Zy⟩
    ·exact .inl q
   ·exact .inr ⟨c,ZC _ h⟩
  ·rename_i hk
   apply kN;rcases h with h|⟨c,h⟩
   ·rcases Zs.mp h with q|q
    ·cases q;simp at hk
    ·exact .inl q
   ·exact .inr ⟨c,h⟩
theorem c8:∀(names:List (Str×NameKind)) (n:Nat) (acc:List (Str×Addr)),cellsFrom n names acc=cellsFrom n names []++acc
 |[],_,_=>rfl
 |(x,k)::r,n,acc=>by
  unfold cellsFrom;split
  ·rw[c8 r (n+1) ((x,n)::acc),c8 r (n+1) [(x,n)]];simp
  ·exact c8 r n acc
theorem iB:∀{names:List (Str×NameKind)} {n:Nat} {acc:List (Str×Addr)},(x,c)∈cellsFrom n names acc->(x,c)∈acc\/(x,NameKind.cell)∈names
 |[],_,_,h=>.inl h
 |(m,k)::r,n,acc,h=>by
  unfold cellsFrom at h;split at h
  ·rename_i hk
   have dP:k=.cell:=by simpa using hk
   rcases iB h with q|q
   ·rcases Zs.mp q with q|q
    ·cases q;exact .inr (by rw[dP];exact Zy)
    ·exact .inl q
   ·exact .inr (ZC _ q)
  ·rcases iB h with q|q
   ·exact .inl q
   ·exact .inr (ZC _ q)
theorem fi:∀{names:List (Str×NameKind)} {n:Nat} {acc:List (Str×Addr)},((x,NameKind.cell)∈names\/∃c,(x,c)∈acc)->∃c,(x,c)∈cellsFrom n names acc
 |[],n,acc,h=>by
  rcases h with h|⟨c,h⟩
  ·exact nomatch h
  ·exact⟨c,h⟩
 |(m,k)::r,n,acc,h=>by
  unfold cellsFrom;split
  ·apply fi;rcases h with h|⟨c,h⟩
   ·rcases Zs.mp h with q|q
    ·cases q;exact .inr ⟨_,Zy⟩
    ·exact .inl q
   ·exact .inr ⟨c,ZC _ h⟩
  ·rename_i hk
   apply fi;rcases h with h|⟨c,h⟩
   ·rcases Zs.mp h with q|q
    ·cases q;simp at hk
    ·exact .inl q
   ·exact .inr ⟨c,h⟩
theorem kO:∀(l1 l2:List (Str×β)),(l1++l2).lookup x=(l1.lookup x).or (l2.lookup x)
 |[],_=>by simp
 |(n,k)::r,l2=>by
  cases hx:x==n with
  |true=>simp[Z1,hx]
  |false=>simp[Z1,hx,kO r l2]
theorem eY
  (hQ:Q {scope,locals:=s.heap.objs.size,globals,cells:=cellsFrom (s.heap.objs.size+1) scope.names cl,qual,func:=none,code:=env.code,frame:=env.frame,builtins:=env.builtins}
   {s with heap:=pushCells (s.heap.push {cls:=.type "dict",data:=.dict #[]}) scope.names}) :
  wpAny M A (newFunctionEnv scope globals cl [] qual none .none (some env)) Q E s:=by
 have z:(s.heap.push {cls:=.type "dict",data:=.dict #[]}).objs.size=s.heap.objs.size+1:=Z' ..;show wpAny M A (alloc {cls:=.type "dict",data:=.dict #[]}>>=_) Q E s
 apply wpAny_bind;apply wpAny_alloc;apply wpAny_bind;refine wpAny_layCells _ (λ_ k _=>by by_cases y:k=NameKind.cell<;>simp[y]) _ _ _ _ ?_;dsimp only;rw[abQ,z];exact wpAny_bind (wpAny_pure (wpAny_pure hQ))
theorem gP{env:Env}:∀(names:List (Str×NameKind)),
  (names.map λ(n,k)=>if (k==NameKind.free&&env.scope.kind==.function&&env.kindOf n==some .cell) then (n,NameKind.cell) else (n,k)).lookup x =
   (names.lookup x).map λk=>if (k==NameKind.free&&env.scope.kind==.function&&env.kindOf x==some .cell)=true then NameKind.cell else k
 |[]=>by simp
 |(n,k)::r=>by
  have ih:=gP (env:=env) (x:=x) r;cases hx:x==n with
  |true=>
   have e:x=n:=by simpa using hx
   subst e;rw[ZI];dsimp only;by_cases hc:(k==NameKind.free&&env.scope.kind==.function&&env.kindOf x==some .cell)=true
   ·rw[if_pos hc,Z1,Z1,hx];dsimp only[aaV];rw[if_pos hc]
   ·rw[if_neg hc,Z1,Z1,hx];dsimp only[aaV];rw[if_neg hc]
  |false=>
   rw[ZI];dsimp only;by_cases hc:(k==NameKind.free&&env.scope.kind==.function&&env.kindOf n==some .cell)=true
   ·rw[if_pos hc,Z1,Z1,hx];exact ih
   ·rw[if_neg hc,Z1,Z1,hx];exact ih
end
def bJ(X:Cx)(own:List Str)(fr:List Nat)(scope:Scope)(s2:Shared)(H2:Hp)(fp:List Addr):Cx where
 prog:=X.prog
 w:=X.w
 K:=X.K
 mg:=X.mg
 base:=X.base
 A:=X.A
 N:=own++fr.map (λi=>X.N.getD i Str.empty)
 s₀:=s2
 H₀:=H2
 env:={scope:=relabel scope X.env,locals:=s2.heap.objs.size+1,globals:=X.env.globals,cells:=cellsFrom (s2.heap.objs.size+2) scope.names (cj X.env scope.names []),qual:=X.env.qual,func:=none,code:=X.env.code,frame:=X.env.frame,builtins:=X.env.builtins}
 outer:=X.stack
 stack:=X.stack
 ex:=fp
 fn:=λx=>scope.names.lookup x==some .cell
 calm:=X.calm
 pn:=[]
 xe:=λ_ _=>False
def cI(own:List Str)(fr:List Nat)(σ:St):St:=List.replicate own.length none++fr.map λi=>(σ[i]?).join
def Bf(osc:List (Str×NameKind))(N:List Str)(own:List Str)(fr:List Nat)(sc:Scope):Bool:=
 decide (sc.kind=.function)&&decide ((sc.names.map (·.1)).Nodup) &&
 sc.names.all (λy=>!(y.2==.free)||(osc.lookup y.1==some .cell||osc.lookup y.1==some .free)) &&
 fr.all (λi=>decide (i<N.length)&&(sc.names.lookup (N.getD i Str.empty)==some .free))
structure dD(X:Cx)(own:List Str)(fr:List Nat)(sc:Scope):Prop where
 kind:sc.kind=.function
 nd:(sc.names.map (·.1)).Nodup
 sE:∀y∈sc.names,y.2=.free->X.env.scope.names.lookup y.1=some .cell\/X.env.scope.names.lookup y.1=some .free
 Uk:∀i∈fr,i<X.N.length
 Ul:∀i∈fr,sc.names.lookup (X.N.getD i Str.empty)=some .free
theorem bA(h1:X.env.scope.names=osc)(h2:X.N=N)(h:Bf osc N own fr sc=true):dD X own fr sc:=by
 unfold Bf at h;simp only[aa7,decide_eq_true_eq,abk] at h;obtain⟨⟨⟨h3,h4⟩,h5⟩,h6⟩:=h;refine⟨h3,h4,λy hy hf=>?_,λi hi=>?_,λi hi=>?_⟩
 ·have:=h5 y hy
  rw[h1];simpa [hf] using this
 ·rw[h2];exact(h6 i hi).1
 ·rw[h2];simpa using(h6 i hi).2
theorem bH:∀{l:List (Str×NameKind)},(l.map (·.1)).Nodup->(x,k)∈l->l.lookup x=some k
 |[],_,h=>nomatch h
 |(n,q)::r,nd,h=>by
  rcases Zs.mp h with e|e
  ·cases e;simp[Z1]
  ·have nd':=ZT.mp nd;have hne:(x==n)=false:=by
    have:x≠n:=λz=>nd'.1 (by rw[<-z];exact ZD.mpr ⟨_,e,rfl⟩)
    simpa using this
   rw[Z1,hne];exact bH nd'.2 e
section
abbrev hC(s:Shared)(sc:Scope)(h1:Heap):Heap:=pushCells (h1.push {cls:=.type "dict",data:=.dict #[]}) sc.names
theorem iZ(I:Inv X pins σ H s)(S:dD X own fr sc)(hfp:∀b∈fp,c5 X pins H b)(hz:h1.objs.size=s.heap.objs.size+1)(hk:∀b o,s.heap.get? b=some o->h1.get? b=some o)(hfl:∀b∈fp,@LT.lt Nat _ b s.heap.objs.size) :
  Inv (bJ X own fr sc s H fp) [] (cI own fr σ) H {s with heap:=hC s sc h1}:=by
 have kk:∀b o,s.heap.get? b=some o->(hC s sc h1).get? b=some o:=λb o e=>pushCells_keeps _ _ b o (Zl _ (hk b o e));have Um:(hC s sc h1).Ns (s.heap.objs.size+1) (λ_=>none):=by have q:=(Heap.Ns.new h1 (.type "dict")).keeps (pushCells_keeps sc.names _);rw[hz] at q;exact q
 have ok:=cellsFrom_ok sc.names (h1.push {cls:=.type "dict",data:=.dict #[]}) (s.heap.objs.size+2) [] ⟨λ_ _ hm=>(nomatch hm),List.Pairwise.nil⟩ (by rw[Z',hz];exact Zn _);rw[Z',hz] at ok;have N9:∀y∈sc.names,y.2=.free->∃c,X.env.cells.lookup y.1=some c:=λy hy hf=>I.ok.has y.1 (by
  rcases S.sE y hy hf with q|q
  ·exact .inl q
  ·exact .inr q)
 have old:∀x c,(cj X.env sc.names []).lookup x=some c->X.env.cells.lookup x=some c/\(x,NameKind.free)∈sc.names:=λx c e=>by
  rcases oF (aaj e) with q|⟨q,e2⟩
  ·exact nomatch q
  ·obtain⟨c',e3⟩:=N9 _ q rfl;have Pm:X.env.cells.lookup x=some c':=e3;rw[Pm] at e2
   have:c=c':=e2
   subst this;exact⟨Pm,q⟩
 have cs:∀x c,(bJ X own fr sc s H fp).env.cells.lookup x=some c->((cellsFrom (s.heap.objs.size+2) sc.names []).lookup x=some c/\@LE.le Nat _ (s.heap.objs.size+2) c)\/(X.env.cells.lookup x=some c/\(x,NameKind.free)∈sc.names/\@LT.lt Nat _ c s.heap.objs.size):=λx c e=>by
  have e':(cellsFrom (s.heap.objs.size+2) sc.names (cj X.env sc.names [])).lookup x=some c:=e;rw[c8,kO] at e';cases q:(cellsFrom (s.heap.objs.size+2) sc.names []).lookup x with
  |some c'=>
   rw[q] at e'
   have:c'=c:=by simpa using e'
   subst this;exact .inl ⟨rfl,(ok.empty x c' (aaj q)).2⟩
  |none =>rw[q] at e';obtain⟨e1,e2⟩:=old x c (by simpa using e');obtain⟨v,hv⟩:=I.cell x c e1;exact .inr ⟨e1,e2,hv.lt⟩
 have Uo:(bJ X own fr sc s H fp).Ok:=by
  refine⟨I.ok.mod,S.kind,I.ok.glob,I.ok.blt,aaR _,λx y c h1 h2=>?_,λx hx=>?_,λx c hf e=>?_,I.ok.hd,I.ok.frames,.inl rfl,λb hb=>⟨?_,λx c e=>?_⟩,λb o e=>I.bs b o e,Zu I.ok.pz I.sz,λb o e hb=>?_,λb hb z=>?_,I.stack,I.xE⟩
  ·rcases cs x c h1 with⟨q1,g1⟩|⟨q1,_,g1⟩
   ·rcases cs y c h2 with⟨q2,g2⟩|⟨q2,_,g2⟩
    ·exact name_of_addr ok.apart (aaj q1) (aaj q2)
    ·omega
   ·rcases cs y c h2 with⟨q2,g2⟩|⟨q2,_,g2⟩
    ·omega
    ·exact I.ok.inj x y c q1 q2
  ·-- a cell or free name of Kq block has its cell
   have xO:(relabel sc X.env).names.lookup x=some .cell\/(relabel sc X.env).names.lookup x=some .free:=hx;have hl:sc.names.lookup x=some .cell\/sc.names.lookup x=some .free:=by
    unfold relabel at xO;rw[gP] at xO;cases q:sc.names.lookup x with
    |none=>rw[q] at xO;simp at xO
    |some k =>rw[q] at xO;cases k<;>simp at xO⊢
   have hm:∃c,(x,c)∈cellsFrom (s.heap.objs.size+2) sc.names (cj X.env sc.names []):=by
    rcases hl with hl|hl
    ·exact fi (.inl (aaj hl))
    ·exact fi (.inr (kN (.inl (aaj hl))))
   obtain⟨c,hm⟩:=hm;exact gA hm
  ·have Po:sc.names.lookup x=some .cell:=by simpa using(show(sc.names.lookup x==some .cell)=true from hf)
   show @LE.le Nat _ s.heap.objs.size c
   rcases cs x c e with⟨_,g⟩|⟨_,q,_⟩
   ·omega
   ·rw[bH S.nd q] at Po;cases Po
  ·have:=hfl b hb
   show @Ne Nat b (s.heap.objs.size+1)
   omega
  ·intro z;subst z;rcases cs x c e with⟨_,g⟩|⟨q,_,_⟩
   ·have:=hfl c hb;omega
   ·exact(hfp c hb).2.2.2.2.1 x c q rfl
  ·rcases(hfp b hb).2.2.2.1 with z|z
   ·exact I.ok.uv b o e z
   ·have z1:@LT.lt Nat _ b X.base.objs.size:=Zx e;have z2:X.base.objs.size<=X.s₀.heap.objs.size:=I.ok.pz;have z3:@LE.le Nat _ X.s₀.heap.objs.size b:=z;omega
  ·rcases Zs.mp (I.dz b z) with e|e
   ·exact(hfp b hb).2.1 e
   ·exact(hfp b hb).2.2.1 e
 refine⟨Uo,rfl,I.bare,Un.kept kk,⟨_,Um,λi x v h1 h2 h3=>?_⟩,λx c e=>?_,I.aL.fresh (aaR _),λx c e=>?_,λp hp=>absurd (show p∈([]:List (Addr×Obj)) from hp) (by simp),I.aL.kept kk,?_⟩
 ·-- an outer name X5 is read
  have hi:own.length<=i:=by
   by_cases hi:i<own.length
   ·exfalso;unfold cI at h2;rw[ZZ (by simpa using hi),aaO] at h2;split at h2<;>cases h2
   ·omega
  have h1':(own++fr.map (λi=>X.N.getD i Str.empty))[i]?=some x:=h1;rw[aal hi,Zo] at h1';unfold cI at h2;rw[aal (by simpa using hi),Zo,aa'] at h2;cases e:fr[i-own.length]? with
  |none=>rw[e] at h1';cases h1'
  |some k=>
   rw[e] at h1' h2;have Pp:k∈fr:=Zr e;have ex:X.N.getD k Str.empty=x:=by simpa using h1'
   have ev:(σ[k]?).join=some v:=by simpa using h2
   have Up:=S.Uk k Pp;have eN:X.N[k]?=some x:=by rw[<-ex];simp[List.getD,Up]
   have eσ:σ[k]?=some (some v):=by
    cases q:σ[k]? with
    |none=>rw[q] at ev;cases ev
    |some o=>rw[q] at ev;cases o with
     |none=>cases ev
     |some v'=>have:v'=v:=(by simpa using ev);subst this;rfl
   have Bg:=S.Ul k Pp;rw[ex] at Bg;have hmem:(x,NameKind.free)∈sc.names:=aaj Bg;have Uq:=S.sE _ hmem rfl;have hkd':X.env.scope.names.lookup x=some .cell\/X.env.scope.names.lookup x=some .free:=Uq;obtain⟨m,hn,hl⟩:=I.loc;obtain⟨u,r,l⟩:=hl k x v eN eσ (hkd'.elim (λz=>.inr (.inl z)) λz=>.inr (.inr z));refine⟨u,r,?_⟩;rcases l with⟨z,_⟩|⟨_,c,hc,kF⟩
   ·exfalso;have z':X.env.scope.names.lookup x=some .local:=z;rcases hkd' with q|q<;>(rw[q] at z';cases z')
   ·refine .inr ⟨?_,c,?_,kF.keeps kk⟩
    ·show(relabel sc X.env).names.lookup x=some .cell\/(relabel sc X.env).names.lookup x=some .free
     unfold relabel;rw[gP,Bg];simp only[aaV];split
     ·exact .inl rfl
     ·exact .inr rfl
    ·show(cellsFrom (s.heap.objs.size+2) sc.names (cj X.env sc.names [])).lookup x=some c
     rw[c8,kO];have h0:(cellsFrom (s.heap.objs.size+2) sc.names []).lookup x=none:=by
      cases q:(cellsFrom (s.heap.objs.size+2) sc.names []).lookup x with
      |none=>rfl
      |some c'=>
       exfalso;rcases iB (aaj q) with z|z
       ·exact nomatch z
       ·rw[bH S.nd z] at Bg;cases Bg
     rw[h0];obtain⟨c',F'⟩:=kN (env:=X.env) (acc:=[]) (.inl hmem);obtain⟨c2,e2⟩:=gA F';obtain⟨e3,_⟩:=old x c2 e2;rw[hc] at e3;rw[e2];simpa using e3.symm
 ·rcases cs x c e with⟨q,_⟩|⟨q,_,_⟩
  ·exact⟨_,(ok.empty x c (aaj q)).1⟩
  ·obtain⟨v,hv⟩:=I.cell x c q;exact⟨v,hv.keeps kk⟩
 ·rcases cs x c e with⟨_,g⟩|⟨q,_,_⟩
  ·exact I.aL.fresh (by omega)
  ·exact I.e9 x c q
 ·unfold cI;show _=(own++fr.map (λi=>X.N.getD i Str.empty)).length
  simp
theorem i3
  (I:Inv X pins σ H s) (hfp:∀b∈fp,c5 X pins H b) (I1:Inv (bJ X own fr sc s H fp) X0 σ1 H1 s1) (hD:@LE.le Nat _ s.heap.objs.size D) (hDn:H1 D=none) (hDC:D≠s.heap.objs.size+1)
  (hs:Heap.SameBut (s.heap.objs.size+1) s1.heap h') (hO:bg X.prog X.w (upd H1 D o) h' D o) (tk:Nat):Inv X pins σ (upd H1 D o) {s1 with heap:=h',toks:=tk}:=by
 have u:=I1.base;have Pq:H1 (s.heap.objs.size+1)=none:=I1.free;have hDo:∀b ob,s.heap.get? b=some ob->b≠D:=λb ob e z=>by
  have:=Zx e
  have z':@Eq Nat b D:=z;have q:@LT.lt Nat _ b s.heap.objs.size:=this;omega
 have hCo:∀b ob,s.heap.get? b=some ob->b≠s.heap.objs.size+1:=λb ob e z=>by have q:@LT.lt Nat _ b s.heap.objs.size:=Zx e;have z':@Eq Nat b (s.heap.objs.size+1):=z;omega
 have Kr:H D=none:=I.aL.fresh hD;have cut:∀b ob,s.heap.get? b=some ob->∀oc,s1.heap.get? b=some oc->h'.get? b=some oc:=λb ob e oc q=>(hs.2 b (hCo b ob e)).trans q;refine Inv.mV (ch:=fp) I (s':={s1 with heap:=h',toks:=tk}) I1.os ?_ ?_ I1.bare λb hb=>⟨(hfp b hb).2.2.2.1,(hfp b hb).2.1,(hfp b hb).2.2.2.2.1,(hfp b hb).2.2.2.2.2⟩
 ·refine⟨λb ob e n hb hx=>cut b ob e _ (u.keep b ob e n hb hx),λb ob e n hb hx=>?_,λb ob e n hx=>?_,λb ob e hx=>?_,λb xs e=>?_,λb ob xs e=>?_,λb ps e=>?_⟩
  ·obtain⟨sl,q⟩:=u.slot b ob e n hb hx;exact⟨sl,cut b ob e _ q⟩
  ·rw[ak (hDo b ob e)];exact u.free b ob e n hx
  ·obtain⟨o',q⟩:=u.there b ob e hx;exact⟨o',cut b ob e _ q⟩
  ·rw[ak (aw e Kr)];exact u.kB b xs e
  ·rw[ak (aw e Kr)];exact u.jF b ob xs e
  ·rw[ak (aw e Kr)];exact u.kC b ps e
 ·intro b ob e;by_cases hb:b=D
  ·subst hb;rw[ai] at e;cases e;exact hO
  ·rw[ak hb] at e;refine(I1.aL b ob e).iw (λc q hc g=>?_) (λc q=>by rw[ak (aw q hDn)];exact q) λc xs q=>by rw[ak (aw q hDn)];exact q
   refine(hs.2 c ?_).trans g;rcases hc with z|z
   ·rw[z];exact aw e Pq
   ·exact aw z Pq
end
abbrev gB:Value->Shared->Prop:=λ_ _=>False
def HW(env:Env)(c:Expr)(b:Bool):Sem (ForInStep Bool):=
 if b=true then (isTrue c env (eval c env)>>=λb'=>pure (.yield b')) else pure (.yield b)
def kP(env:Env)(cs:List Expr):Sem Bool:=forIn cs true (HW env)
structure dq where
 add:Expr
 pT:Expr
 src:Expr
 cs:List Expr
 sc:Scope
 pos:Pos
namespace dq
variable (B:dq)
abbrev expr:Expr:=.ListComp B.add [⟨B.pT,B.src,B.cs,0⟩] B.sc B.pos
section
variable (prog:Program)(w:World)(A:Around)(env:Env)(it acc:Value)
abbrev Tame{α:Type}(e:Sem α)(Q:α->Shared->Prop)(s:Shared):Prop:=wpAny (model prog w) A e Q gB s
def D5(J:Shared->Prop):Bool->Shared->Prop
 |false,s=>J s
 |true,s=>Tame prog w A (eval B.add env) (λx=>Tame prog w A (call (.builtin "list.append") [acc,x]) λ_=>J) s
def zH(J:Shared->Prop)(v:Value):Shared->Prop:=
 Tame prog w A (letOwnedTupleGo B.pT it v) λ_=>Tame prog w A (assign B.pT env v) λ_=>Tame prog w A (kP env B.cs) (B.D5 prog w A env acc J)
def zI(D J:Shared->Prop):Option Value->Shared->Prop
 |none=>D
 |some v=>B.zH prog w A env it acc J v
end
theorem loops(G:Nat->Shared->Prop)
  (turn:∀k t,G k t->Tame prog w A (pyNext it) (B.zI prog w A env it acc (R (.ok .next)) λu=>∃j,j<k/\G j u) t)
  {k:Nat} {t:Shared} (g:G k t):codeAny (model prog w) A (.compLoop B.expr 0 it acc env) R t:=by
 have one:∀k t,G k t->Tame prog w A (compTurn B.expr 0 it acc env) (λx t'=>match x with|.done r=>R (.ok r) t'|.again c=>c=.compLoop B.expr 0 it acc env/\∃j,j<k/\G j t') t:=by
  intro k t g;rw[show B.expr=.ListComp B.add [⟨B.pT,B.src,B.cs,0⟩] B.sc B.pos from rfl,compTurn_list];apply wpAny_bind;apply wpAny_standAt;apply wpAny_bind;refine aH (turn k t g) λx t1 h1=>?_;match x,h1 with
  |none,h1=>exact wpAny_pure h1
  |some v,h1=>
   apply wpAny_bind;refine aH h1 λ_ t2 h2=>?_;apply wpAny_bind;refine aH h2 λ_ t3 h3=>?_;apply wpAny_bind;refine aH h3 λb t4 h4=>?_;match b,h4 with
   |false,h4=>exact wpAny_pure ⟨rfl,h4⟩
   |true,h4 =>apply wpAny_bind;apply wpAny_bind;refine aH h4 λy t5 h5=>?_;apply wpAny_bind;refine aH h5 λ_ t6 h6=>?_;exact wpAny_pure (wpAny_pure ⟨rfl,h6⟩)
 exact acO rfl G (λk t g=>wpAny_noted (wpAny_mono (one k t g) (λ_ _ q=>q) λ_ _ f=>f.elim)) k g
end dq
def dJ(X:Cx)(ifs:List Expr)(t:TT):Prop:=
 ∀(pins:List (Addr×Obj)) (s:Shared) (σ:St) (H:Hp) (Q:Bool->Hp->Prop),Inv X pins σ H s->t σ H Q ->
  wpAny (model X.prog X.w) X.A (kP X.env ifs) (TP X pins σ Q) X.xe s
def cD:TT:=λ_ H Q=>Q true H
theorem bp:dJ X [] cD:=λ_ _ _ H _ I h=>wpAny_tests_nil ⟨H,I,h⟩
theorem oG(h:PT X c t):dJ X [c] t:=λpins s σ H Q I q=>wpAny_tests_one (h pins s σ H Q I q)
def GK(n:Nat)(g:TG):Prop:=∀v σ H Q,g v σ H Q->g v σ H λσ' H'=>Q σ' H'/\σ'.length=σ.length/\∀j,n<=j->σ'[j]?=σ[j]?
def Ga(n:Nat)(g:uA):Prop:=∀vs σ H Q,g vs σ H Q->g vs σ H λσ' H'=>Q σ' H'/\σ'.length=σ.length/\∀j,n<=j->σ'[j]?=σ[j]?
theorem bP(h:i<n):GK n (bj i):=λv σ H Q q=>⟨q,by simp,λj hj=>by rw[abV (by omega)]⟩
theorem HX:Ga n qK:=λvs σ H Q q=>⟨q.1,q.2,rfl,λ_ _=>rfl⟩
theorem uR(m:∀v σ H Q Q',(∀σ' H',Q σ' H'->Q' σ' H')->t v σ H Q->t v σ H Q')(mu:∀v σ H Q Q',(∀σ' H',Q σ' H'->Q' σ' H')->u v σ H Q->u v σ H Q')(h1:GK n t)(h2:Ga n u):Ga n (jv t u):=λvs σ H Q ⟨v,r,e,q⟩ =>⟨v,r,e,m _ _ _ _ _ (λσ' H' ⟨q',l1,k1⟩=>mu _ _ _ _ _ (λσ2 H2 ⟨q2,l2,k2⟩=>⟨q2,l2.trans l1,λj hj=>(k2 j hj).trans (k1 j hj)⟩) (h2 _ _ _ _ q')) (h1 _ _ _ _ q)⟩
theorem Ks{K:PySem.W.Frag}{n k:Nat}{t:uA}(h:Ga n t):GK n (zc K k t):=λv σ H Q ⟨a,xs,e,sq,l,q⟩=>⟨a,xs,e,sq,l,h _ _ _ _ q⟩
theorem qQ:∀v σ H Q Q',(∀σ' H',Q σ' H'->Q' σ' H')->bj i v σ H Q->bj i v σ H Q':=λ_ _ _ _ _ m q=>m _ _ q
theorem sG:∀v σ H Q Q',(∀σ' H',Q σ' H'->Q' σ' H')->qK v σ H Q->qK v σ H Q':=λ_ _ _ _ _ m q=>⟨q.1,m _ _ q.2⟩
theorem zJ(m:∀v σ H Q Q',(∀σ' H',Q σ' H'->Q' σ' H')->t v σ H Q->t v σ H Q')(mu:∀v σ H Q Q',(∀σ' H',Q σ' H'->Q' σ' H')->u v σ H Q->u v σ H Q'):∀v σ H Q Q',(∀σ' H',Q σ' H'->Q' σ' H')->jv t u v σ H Q->jv t u v σ H Q':=
 λ_ _ _ _ _ mq ⟨v,r,e,q⟩=>⟨v,r,e,m _ _ _ _ _ (λ_ _ q'=>mu _ _ _ _ _ mq q') q⟩
theorem gC{K:PySem.W.Frag}{n k i j:Nat}(h1:i<n)(h2:j<n):GK n (zc K k (jv (bj i) (jv (bj j) qK))):=
 Ks (uR qQ (zJ qQ sG) (bP h1) (uR qQ sG (bP h2) HX))
def dE(own:List Str)(fr:List Nat)(g:TG)(tt:TT)(te:TE)(σ:St)(Q:VK)(J:It)(H1:Hp):Prop:=
 ∃W:Nat->Nat->List V->Hp->Prop,(∃m,W 0 m [] H1)/\∀i m ys H2,W i m ys H2->ys.length<=sizeLine /\
  ((J.stop i H2/\∀D,H2 D=none->Q (.ref D) (upd H2 D (.lst ys))) \/
  (J.go i H2/\∀x H3,J.jw i H2 x H3->g x (cI own fr σ) H3 λσ4 H4=>tt σ4 H4 λb H5=>if b=true then te σ4 H5 λy H6=>∃m',m'<m/\W (i+1) m' (ys++[y]) H6 else ∃m',m'<m/\W (i+1) m' ys H5))
def Pr(own:List Str)(fr:List Nat)(wi:TI)(g:TG)(tt:TT)(te:TE):TE:=λσ H Q=>wi σ H (dE own fr g tt te σ Q)
section
variable {X:Cx}{own:List Str}{fr:List Nat}{sc:Scope}{tg iter elt:Expr}{ifs:List Expr}{pos:Pos}{wi:TI}{g:TG}{tt:TT}{te:TE}
theorem xP{pins:List (Addr×Obj)}{tn:Nat->Heap->Prop}{J:It}{RR:Value->Addr->Result->Shared->Prop}{E:Value->Shared->Prop}(hc:X.calm=true)(S:dD X own fr sc)(gk:GK own.length g)
  (hg:∀s H fp,PG (bJ X own fr sc s H fp) tg g) (ht:∀s H fp,dJ (bJ X own fr sc s H fp) ifs tt) (he:∀s H fp,PE (bJ X own fr sc s H fp) elt te)
  (I2:Inv X pins σ H2 s2) (T:Turn X.prog X.w X.K tg J fp it tn) (st2:tn 0 s2.heap) (f2:∀b∈fp,c5 X pins H2 b) (L:dE own fr g tt te σ Q J H2)
  (hRR:∀D C s',(∃m,s'.heap.Ns C m)->@LE.le Nat _ s2.heap.objs.size C->(∃H',H' C=none/\Q (.ref D) H'/\∀h' tk,Heap.SameBut C s'.heap h'->Inv X pins σ H' {s' with heap:=h',toks:=tk})->RR (.ref D) C (.ok .next) s') :
  wpAny (model X.prog X.w) X.A (newList []) (λacc s₃=>wpAny (model X.prog X.w) X.A (newFunctionEnv sc X.env.globals (cj X.env sc.names []) [] X.env.qual none .none (some X.env)) (λgE s₄ =>codeAny (model X.prog X.w) X.A (.compStart (.ListComp elt [⟨tg,iter,ifs,0⟩] sc pos) 0 (.ref it) acc {gE with scope:=relabel sc X.env}) (RR acc gE.locals) s₄) E s₃) E s2:=by
 obtain⟨W,⟨m0,w0⟩,turn⟩:=L;refine wpAny_newObj_type (eY ?_);dsimp only;generalize dv:s2.heap.push {cls:=.type "list",dict:=none,data:=.seq ([]:List Value).toArray}=h1;have hz:h1.objs.size=s2.heap.objs.size+1:=by rw[<-dv,Z']
 have hk1:∀b o,s2.heap.get? b=some o->h1.get? b=some o:=λb o e=>by rw[<-dv];exact Zl _ e
 have lI:h1.get? s2.heap.objs.size=some {cls:=.type "list",data:=.seq ([]:List Value).toArray}:=by rw[<-dv];exact Zw _ rfl
 have hfl:∀b∈fp,@LT.lt Nat _ b s2.heap.objs.size:=λb hb=>by obtain⟨o,e,_⟩:=T.obj _ _ st2 b hb;exact Zx e
 have I3:=iZ I2 S f2 hz hk1 hfl;rw[hz];generalize hY:bJ X own fr sc s2 H2 fp=Y at I3;have jZ:(hC s2 sc h1).get? s2.heap.objs.size=some {cls:=.type "list",data:=.seq ([]:List Value).toArray}:=pushCells_keeps _ _ _ _ (Zl _ lI);have hG:tn 0 (hC s2 sc h1):=T.keep _ _ _ st2 λb _ o e=>pushCells_keeps _ _ _ _ (Zl _ (hk1 b o e));have eP:Y.prog=X.prog:=by rw[<-hY];rfl
 have eW:Y.w=X.w:=by rw[<-hY];rfl
 have eK:Y.K=X.K:=by rw[<-hY];rfl
 have eA:Y.A=X.A:=by rw[<-hY];rfl
 have eX:Y.xe=gB:=by rw[<-hY];rfl
 have ecm:Y.calm=true:=by rw[<-hY];exact hc
 have kQ:({scope:=relabel sc X.env,locals:=s2.heap.objs.size+1,globals:=X.env.globals,cells:=cellsFrom (s2.heap.objs.size+1+1) sc.names (cj X.env sc.names []),qual:=X.env.qual,func:=none,code:=X.env.code,frame:=X.env.frame,builtins:=X.env.builtins}:Env)=Y.env:=by rw[<-hY];rfl
 have eL:Y.env.locals=s2.heap.objs.size+1:=by rw[<-hY];rfl
 rw[kQ];have i4:PG Y tg g:=hY▸hg s2 H2 fp;have i5:dJ Y ifs tt:=hY▸ht s2 H2 fp;have i6:PE Y elt te:=hY▸he s2 H2 fp;have dfp:s2.heap.objs.size∉fp:=λz=>ZX _ (hfl _ z);have dC:s2.heap.objs.size≠s2.heap.objs.size+1:=ZQ (aav _);have iF:∀x c,Y.env.cells.lookup x=some c->c≠s2.heap.objs.size:=λx c e z=>by obtain⟨v,o,q,d⟩:=I3.cell x c e;rw[z] at q;have q':=jZ.symm.trans q;cases q';cases d
 have jJ:s2.heap.objs.size∉Y.fs:=by
  rw[<-hY];intro z;rcases Zs.mp (I2.dz _ z) with e|e
  ·exact ZX _ (by have:=I2.lt;rw[<-e] at this;exact this)
  ·exact I2.qI (Zn _) e
 have mv:@LE.le Nat _ Y.s₀.heap.objs.size s2.heap.objs.size:=by rw[<-hY];exact Zn _
 have fpY:∀{H':Hp} {pp:List (Addr×Obj)},(∀b∈fp,H' b=none)->(∀p∈pp,p.1∉fp)->∀b∈fp,c5 Y pp H' b:=λ{H' pp} hn hp b hb=>by
  refine⟨hn b hb,?_,?_,?_,?_,λp hq z=>?_⟩
  ·have:=hfl b hb;rw[eL];intro z;have z':@Eq Nat b (s2.heap.objs.size+1):=z;omega
  ·rw[<-hY];intro z;rcases Zs.mp (I2.dz _ z) with e|e
   ·exact(f2 b hb).2.1 e
   ·exact(f2 b hb).2.2.1 e
  ·exact .inl (by rw[<-hY];exact hb)
  ·exact(I3.ok.uu b (by rw[<-hY];exact hb)).2
  ·rcases Zv.mp hq with q|q
   ·have:p∈([]:List (Addr×Obj)):=by rw[<-hY] at q;exact q
    exact nomatch this
   ·exact hp p q (z▸hb)
 have i7:∀{H':Hp} {s':Shared} {σ':St} {ob:Obj},Inv Y [] σ' H' s'->H' s2.heap.objs.size=none->s'.heap.get? s2.heap.objs.size=some ob->(∀v,ob.data≠.cell v)->Inv Y [(s2.heap.objs.size,ob)] σ' H' s':=λ{H' s' σ' ob} J0 hn e d=>
  J0.bG λp hp=>by
   have:p=(s2.heap.objs.size,ob):=by simpa using hp
   subst this;exact⟨e,hn,by rw[eL];exact dC,jJ,d⟩
 have gF:∀{ob:Obj} (p:Addr×Obj),p∈[(s2.heap.objs.size,ob)]->p.1∉fp:=λ{ob} p hp=>by
  have:p=(s2.heap.objs.size,ob):=by simpa using hp
  subst this;exact dfp
 have loop:codeAny (model X.prog X.w) X.A (.compLoop (.ListComp elt [⟨tg,iter,ifs,0⟩] sc pos) 0 (.ref it) (.ref s2.heap.objs.size) Y.env) (RR (.ref s2.heap.objs.size) (s2.heap.objs.size+1)) {s2 with heap:=hC s2 sc h1}:=by
  refine dq.loops (B:=⟨elt,tg,iter,ifs,sc,pos⟩) (λn s'=>∃i ys us k H',W i n ys H'/\Inv Y [] (cI own fr σ) H' s'/\tn i s'.heap/\(∀b∈fp,H' b=none)/\H' s2.heap.objs.size=none/\s'.heap.get? s2.heap.objs.size=some {cls:=.type "list",data:=.seq (List.toArray us) k}/\Vals ys us) ?_ (k:=m0)
   ⟨0,[],[],_,H2,w0,I3,hG,λb hb=>(f2 b hb).1,I2.aL.fresh (Zn _),jZ,.nil⟩
  rintro n s' ⟨i,ys,us,k,H',w',J0,cV,ic,hDn,hDo,rv⟩;obtain⟨lJ,eD⟩:=turn i n ys H' w';have J1:=i7 J0 hDn hDo (λv z=>nomatch z);rcases eD with⟨stop,fin⟩|⟨go,step⟩
  ·have d0:=T.done Y eP eW eK ecm i _ s' _ H' gB J1 (fpY ic gF) cV stop;rw[eA] at d0;refine wpAny_mono d0 (λr s4 ⟨hr,J4⟩=>?_) λ_ _ z=>z;subst hr;have pD:=(J4.pin (s2.heap.objs.size,_) (Zm _ Zy)).1;refine hRR _ _ s4 ?_ (aaR _) ⟨upd H' s2.heap.objs.size (.lst ys),?_,fin _ hDn,λh' tk hs=>?_⟩
   ·obtain⟨m,hn,_⟩:=J4.loc;rw[eL] at hn;exact⟨m,hn⟩
   ·rw[ak (Z0 dC),<-eL];exact J4.free
   ·subst hY;have hO:bg X.prog X.w (upd H' s2.heap.objs.size (.lst ys)) h' s2.heap.objs.size (.lst ys):=⟨lJ,us,k,rv,(hs.2 _ dC).trans pD⟩
    exact i3 I2 f2 J4 (Zn _) hDn dC hs hO tk
  ·have d0:=T.item Y eP eW eK ecm i _ s' _ H' gB J1 (fpY ic gF) cV go;rw[eA] at d0;refine wpAny_mono d0 (λr s4 ⟨u,hr,h4⟩=>?_) λ_ _ z=>z;subst hr;refine wpAny_mono h4 (λ_ s5 ⟨x,H5,J5,r5,y5,st5,jQ⟩=>?_) λ_ _ z=>z;have mw:=J5.pinned (fpY jQ gF) (T.obj _ _ st5);have s1:=i4 _ s5 _ H5 x u _ mw r5 (gk _ _ _ _ (step x H5 y5));rw[eP,eW,eA,eX] at s1;refine wpAny_mono s1 (λ_ s6 ⟨σ6,H6,J6,q6,jz⟩=>?_) λ_ _ z=>z;have s2':=i5 _ s6 σ6 H6 _ J6 q6;rw[eP,eW,eA,eX] at s2';refine wpAny_mono s2' (λok s7 ⟨H7,J7,q7⟩=>?_) λ_ _ z=>z;have low:∀{H8:Hp} {s8:Shared},Inv Y ([(s2.heap.objs.size,({cls:=.type "list",data:=.seq (List.toArray us) k}:Obj))]++cb fp s5.heap) σ6 H8 s8 ->
     Inv Y (cb fp s5.heap) σ6 H8 s8/\H8 s2.heap.objs.size=none/\s8.heap.get? s2.heap.objs.size=some {cls:=.type "list",data:=.seq (List.toArray us) k}/\(∀b∈fp,H8 b=none)/\tn (i+1) s8.heap:=λ{H8 s8} J8=>by
    have p8:=J8.pin (s2.heap.objs.size,_) (Zm _ (ZN _ Zy));refine⟨J8.bG λp hp=>J8.pin p (Zm _ (Zm _ hp)),p8.2.1,p8.1,λb hb=>?_,T.keep _ _ _ st5 λb hb o e=>(J8.pin (b,o) (Zm _ (Zm _ (bM hb e)))).1⟩;obtain⟨o,e,d⟩:=T.obj _ _ st5 b hb;exact(J8.pin (b,o) (Zm _ (Zm _ (bM hb e)))).2.1
   have weak:∀{H8:Hp} {s8:Shared} {pp:List (Addr×Obj)},Inv Y pp σ6 H8 s8->Inv Y [] (cI own fr σ) H8 s8:=λ{H8 s8 pp} J8=>(J8.weak jz.1.symm (λj v e=>by
    by_cases hj:j<own.length
    ·exfalso;unfold cI at e;rw[ZZ (by simpa using hj),aaO] at e;split at e<;>cases e
    ·rw[jz.2 j (acP.mp hj)];exact e)).bG λp hp=>nomatch hp
   cases ok with
   |false=>
    obtain⟨m',hm,w7⟩:=(show ∃m',m'<n/\W (i+1) m' ys H7 by simpa using q7)
    obtain⟨_,l1,l2,l3,l4⟩:=low J7;exact⟨m',hm,i+1,ys,us,k,H7,w7,weak J7,l4,l3,l1,l2,rv⟩
   |true=>
    have pU:te σ6 H7 λy H6=>∃m',m'<n/\W (i+1) m' (ys++[y]) H6:=by simpa using q7
    have s3:=i6 _ s7 σ6 H7 _ J7 pU;rw[eP,eW,eA,eX] at s3;show wpAny _ _ _ _ _ _
    refine wpAny_mono s3 (λxv s8 ⟨y,H8,J8,r8,m',hm,w8⟩=>?_) λ_ _ z=>z;obtain⟨Kt,l1,l2,l3,l4⟩:=low J8;refine append_at (hsz:=by rw[Zt,<-rv.length];exact lJ) l2 λh' hs' uS=>?_;have J9:Inv Y [] (cI own fr σ) H8 {s8 with heap:=h' }:=by
     refine(weak Kt).turned (t':=s8.toks) (it:=s2.heap.objs.size) (λb o hb e=>(hs'.2 b hb).trans e) l1 (by rw[eL];exact dC) (.inr mv) iF λp hp=>?_
     have:p∈([]:List (Addr×Obj)):=by rw[<-hY] at hp;exact hp
     exact nomatch this
    refine⟨m',hm,i+1,ys++[y],us++[xv],k+1,H8,w8,J9,?_,l3,l1,?_,rv.append (.cons r8 .nil)⟩
    ·exact T.keep _ _ _ l4 λb hb o e=>(hs'.2 b (λz=>dfp (z▸hb))).trans e
    ·rw[uS];simp
 exact ad3 loop (T.self X.A 0 _ _ _ hG loop)
theorem dw(own:List Str)(fr:List Nat)(hc:X.calm=true)(S:dD X own fr sc)(gk:GK own.length g)(hi:PI X tg iter wi)
  (hg:∀s H fp,PG (bJ X own fr sc s H fp) tg g) (ht:∀s H fp,dJ (bJ X own fr sc s H fp) ifs tt) (he:∀s H fp,PE (bJ X own fr sc s H fp) elt te)
  (hs:∀x,foldedSetIterable iter X.env x=pure x:=by intro _;rfl):PE X (.ListComp elt [⟨tg,iter,ifs,0⟩] sc pos) (Pr own fr wi g tt te):=by
 intro pins s σ H Q I h;rw[afz];have gG:closureFor sc X.env=pure (cj X.env sc.names []):=dh λy hy hf=>I.ok.has y.1 (by
  rcases S.sE y hy hf with q|q
  ·exact .inl q
  ·exact .inr q)
 refine wpAny_comprehension_free (use:=none) rfl hs gG S.kind (λy hy hl=>bH S.nd (by rw[<-hl];exact hy)) ?_;refine aH (hi pins s σ H _ I h) λv s1 h1=>aH h1 λitv s2 h2=>?_;obtain⟨it,fp,tn,J,H2,e,I2,T,st2,f2,L⟩:=h2;subst e;exact xP hc S gk hg ht he I2 T st2 f2 L λD C s' ⟨m,hn⟩ _ ⟨H',_,q,hi⟩=>⟨m,hn,λh' hs'=>⟨.ref D,H',hi h' s'.toks hs',rfl,q⟩⟩
end
theorem pW{X:Cx}{pins:List (Addr×Obj)}{pos':Pos}{R:St->Hp->Prop}{E:Value->Shared->Prop}(I2:Inv X pins σ H2 s2)(hN:X.N.Nodup)(hi:X.N[i]?=some x)(hx:X.env.scope.names.lookup x=some .local)
  (ns:∃m,s'.heap.Ns C m) (le:@LE.le Nat _ s2.heap.objs.size C) (h:∃H',H' C=none/\R (σ.set i (some (.ref D))) H'/\∀h' tk,Heap.SameBut C s'.heap h'->Inv X pins σ H' {s' with heap:=h',toks:=tk}) :
  wpAny (model X.prog X.w) X.A (assign (.Name x pos') X.env (.ref D)) (λ_ uF=>∃m,uF.heap.Ns C m/\∀h',Heap.SameBut C uF.heap h'->∃σ1 H1,Inv X pins σ1 H1 {uF with heap:=h' }/\R σ1 H1) E s':=by
 obtain⟨H',hC,q,hv⟩:=h;have I':Inv X pins σ H' s':=hv s'.heap s'.toks (adl _ _);have lt:∀{b:Addr} {o:Obj},s2.heap.get? b=some o->b≠C:=λ{b o} e z=>by have l1:@LT.lt Nat _ b s2.heap.objs.size:=Zx e;have z':@Eq Nat b C:=z;omega
 have Pt:X.env.locals≠C:=by obtain⟨m,⟨o,_,_,e,_⟩,_⟩:=I2.loc;exact lt e
 have kF:∀y c,X.env.cells.lookup y=some c->c≠C:=λy c e=>by obtain⟨v,o,e1,_⟩:=I2.cell y c e;exact lt e1
 refine aeV (rS I' hN hi (.inl hx) (show RelV (.ref D) (.ref D) from rfl) (λs3 I3 ⟨a,hs,ha⟩=>?_) (.inr hx));have aC:a≠C:=by
  rcases ha with e|e
  ·rw[e];exact Pt
  ·exact kF _ _ e
 obtain⟨m,hn⟩:=ns;refine⟨m,hn.sameBut hs (Z0 aC),λh' hs'=>⟨_,H',?_,q⟩⟩;refine I3.turned (t':=s3.toks) (it:=C) (λb o hb e=>(hs'.2 b hb).trans e) hC (Z0 Pt) (.inr ?_) kF λp hp=>?_
 ·have:=I2.sz
  exact Zu this le
 ·exact lt (I2.pin p hp).1
theorem gQ{X:Cx}{sc:Scope}{tg iter elt:Expr}{ifs:List Expr}{pos uT pos':Pos}(own:List Str)(fr:List Nat)(hN:X.N.Nodup)(hix:X.N[i]?=some x)(hx:X.env.scope.names.lookup x=some .local)(hc:X.calm=true)(S:dD X own fr sc)(gk:GK own.length g)(hi:PI X tg iter wi)
  (hg:∀s H fp,PG (bJ X own fr sc s H fp) tg g) (ht:∀s H fp,dJ (bJ X own fr sc s H fp) ifs tt) (he:∀s H fp,PE (bJ X own fr sc s H fp) elt te)
  (hsw:swapsWith (.ListComp elt [⟨tg,iter,ifs,0⟩] sc pos) (some (.Name x pos')) uT.line X.env=pure true:=by rfl)
  (hs:∀x,foldedSetIterable iter X.env x=pure x:=by intro _;rfl):PS X (.Assign [.Name x pos'] (.ListComp elt [⟨tg,iter,ifs,0⟩] sc pos) uT) (zd (Pr own fr wi g tt te) (bj i)):=by
 intro pins s σ H D I h;rw[aeb _ _ _ _ hsw];apply wpAny_bind;apply wpAny_standAt;apply wpAny_bind;show wpAny _ _ (comprehension (.ListComp elt [⟨tg,iter,ifs,0⟩] sc pos) sc X.env _ (newList []) false (eval iter X.env) (some (assign (.Name x pos') X.env))>>=_) _ _ s
 apply wpAny_bind;have gG:closureFor sc X.env=pure (cj X.env sc.names []):=dh λy hy hf=>I.ok.has y.1 (by
  rcases S.sE y hy hf with q|q
  ·exact .inl q
  ·exact .inr q)
 refine wpAny_mono (wpAny_comprehension_free (use:=some (assign (.Name x pos') X.env)) (Q:=λ_ s'=>SP X pins D .next s') rfl hs gG S.kind (λy hy hl=>bH S.nd (by rw[<-hl];exact hy)) ?_) (λ_ s' q=>wpAny_pure (wpAny_pure q)) λ_ _ z=>z;refine aH (hi pins s σ H _ I h) λv s1 h1=>aH h1 λitv s2 h2=>?_;obtain⟨it,fp,tn,J,H2,e,I2,T,st2,f2,L⟩:=h2;subst e;exact xP hc S gk hg ht he I2 T st2 f2 L λD0 C s' ns le h=>pW (R:=D.nx) I2 hN hix hx ns le h
def Gb(x:Str):It:=⟨λi _=>i<x.cps.size,λi H v H'=>H'=H/\∃c,x.cps[i]?=some c/\v=.str ⟨#[c]⟩,λi _=>i=x.cps.size⟩
theorem Ku(hQ:Q () s):wpAny M A (letOwnedTupleGo tg (.ref it) (.str x t)) Q E s:=by unfold letOwnedTupleGo;cases tg<;>exact wpAny_pure hQ
theorem D7{P:Program}{w:World}{K:PySem.W.Frag}{tg:Expr}{it:Addr}{x:Str}{t:Tok}{ty:String}(W:∀A:Around,A.handled=none->Walks P w A it [it] [it] x.cps.size (SignAt x) (λi h=>h.IsStrIter it ty x t i))
  (hself:∀(A:Around) (i:Nat) (s:Shared) (Q:Value->Shared->Prop) (E:Value->Shared->Prop),s.heap.IsStrIter it ty x t i->Q (.ref it) s->wpAny (model P w) A (pyIter (.ref it)) Q E s) :
  Turn P w K tg (Gb x) [it] it (λi h=>h.IsStrIter it ty x t i) where
 mem:=by simp
 obj:=λi h st b hb=>by
  have e:b=it:=by simpa using hb
  subst e;obtain⟨o,e,c,d⟩:=st;exact⟨o,e,λv z=>by rw[d] at z;cases z⟩
 keep:=λi h h' st k=>by obtain⟨o,e,r⟩:=st;exact⟨o,k it (by simp) o e,r⟩
 item:=by intro X hP hw hK hc i pins s σ H E I hf st hg;subst hP hw hK;obtain⟨f0,f1,f2,f3,f4,f5⟩:=hf it (by simp);refine(W X.A (I.ok.hd hc)).item i s _ _ hg st λv h' tk hv cV kk=>?_;obtain⟨c,u,hx,rfl⟩:=hv;have I1:Inv X pins σ H {s with heap:=h',toks:=tk}:=I.turned (λb o hb e=>kk b o (by simpa using hb) e) f0 f1 f3 f4 f5;exact⟨_,rfl,Ku ⟨.str ⟨#[c]⟩,H,I1,⟨u,rfl⟩,⟨rfl,c,hx,rfl⟩,cV,λb hb=>(hf b hb).1⟩⟩
 done:=by intro X hP hw hK hc i pins s σ H E I hf st hg;subst hP hw hK;obtain⟨f0,f1,f2,f3,f4,f5⟩:=hf it (by simp);have i4:i=x.cps.size:=hg;subst i4;exact(W X.A (I.ok.hd hc)).done s _ _ st λh' tk kk=>⟨rfl,I.turned (λb o hb e=>kk b o (by simpa using hb) e) f0 f1 f3 f4 f5⟩
 self:=hself
section
def RQ(tl:TE):TI:=λσ H R=>tl σ H λx H1=>∃z,x=.str z/\R (Gb z) H1
theorem Bi{l:Expr}{tl:TE}(hl:PE X l tl):PI X tg l (RQ tl):=by
 intro pins s σ H R I h;refine aH (hl pins s σ H _ I h) λv s1 ⟨x,H1,I1,r1,q1⟩=>?_;obtain⟨z,rfl,q⟩:=q1;obtain⟨t,rfl⟩:=r1;have fin:∀ty:String,(∀A:Around,A.handled=none->Walks X.prog X.w A s1.heap.objs.size [s1.heap.objs.size] [s1.heap.objs.size] z.cps.size (SignAt z) (λi h=>h.IsStrIter s1.heap.objs.size ty z t i)) ->
   (∀(A:Around) (i:Nat) (s:Shared) (Q:Value->Shared->Prop) (E:Value->Shared->Prop),s.heap.IsStrIter s1.heap.objs.size ty z t i->Q (.ref s1.heap.objs.size) s->wpAny (model X.prog X.w) A (pyIter (.ref s1.heap.objs.size)) Q E s) ->
   JQ X pins σ tg R (.ref s1.heap.objs.size) {s1 with heap:=s1.heap.push {cls:=.type ty,data:=.fields #[.str z t,.int 0 0]} }:=λty W hself=>by
  refine⟨s1.heap.objs.size,[s1.heap.objs.size],_,_,H1,rfl,I1.kept (t':=s1.toks) λb o e=>Zl _ e,D7 W hself,⟨_,Zw _ rfl,rfl,rfl⟩,λb hb=>?_,q⟩;have e:b=s1.heap.objs.size:=by simpa using hb
  subst e;exact I1.oq (Zn _) (I1.aL.fresh (Zn _))
 cases ha:z.cps.all (· < 128)
 ·exact wpAny_pyIter_wide ha (fin _ (λA hA=>Walks.strWide hA _ z t) λA i s Q E st q=>wpAny_pyIter_striter_wide st q)
 ·exact wpAny_pyIter_ascii ha (fin _ (λA hA=>Walks.strAscii hA _ z t) λA i s Q E st q=>wpAny_pyIter_striter_ascii st q)
theorem jK:∀{bs:List Bool} {us:List Value} {i:Nat} {u:Value},Vals (bs.map V.bl) us->us[i]?=some u->∃b,bs[i]?=some b/\u=.bool b
 |[],_,i,u,.nil,e=>by simp at e
 |b::bs,_,0,u,.cons r _,e=>by simp at e;subst e;exact⟨b,rfl,r⟩
 |b::bs,_,i+1,u,.cons _ t,e=>by obtain⟨b',h1,h2⟩:=jK (i:=i) (u:=u) t (by simpa using e);exact⟨b',by simpa using h1,h2⟩
theorem range_all(bs:List Bool):((List.range bs.length).all λi=>bs.getD i false)=bs.all id:=by
 induction bs with
 |nil=>rfl
 |cons b bs ih=>
  rw[Zz,acs,abE,ab8,abE];have e:((λi=>(b::bs).getD i false)∘Nat.succ)=λi=>bs.getD i false:=by funext i;simp
  rw[e,ih];simp
theorem range_any(bs:List Bool):((List.range bs.length).any λi=>bs.getD i false)=bs.any id:=by
 induction bs with
 |nil=>rfl
 |cons b bs ih=>
  rw[Zz,acs,abF,af2,abF];have e:((λi=>(b::bs).getD i false)∘Nat.succ)=λi=>bs.getD i false:=by funext i;simp
  rw[e,ih];simp
theorem i8(hc:X.calm=true):cG X (.builtin "all") (λxs H Q=>∃(p:Addr) (bs:List Bool),xs=[.ref p]/\aq X.K H p (bs.map V.bl)/\Q (.bl (bs.all id)) H):=by
 rintro pins s σ H xs us Q I r ⟨p,bs,rfl,hq,q⟩;obtain⟨u,rfl,rx⟩:=vals1 r;cases rx;obtain⟨its,rv,pl,hz⟩:=I.list hq;have hlt:p<s.heap.objs.size:=by obtain⟨o,n,e,_⟩:=pl;exact Zx e
 have hlen:its.length=bs.length:=by rw[<-rv.length,Zj]
 refine call_all_walk (wpAny_pyIter_list pl.isList ?_);refine⟨s.heap.objs.size,_,_,its.toArray.size,_,_,λi=>bs.getD i false,rfl,aeo (A:=X.A.in1) (I.ok.hd hc) s.heap.objs.size p (ZQ hlt) its.toArray,⟨⟨_,Zw _ rfl,rfl,rfl⟩,pl.isList.push _⟩,λi v s' Q' E' hP hQ=>?_,λh' tk hk=>?_⟩
 ·obtain⟨b,h1,rfl⟩:=jK rv (by simpa using hP);refine wpAny_truthy_bool ?_;have e:bs.getD i false=b:=by rw[List.getD,h1];rfl
  rw[<-e];exact hQ
 ·rw[Zt,hlen,range_all];refine⟨.bl _,H,?_,rfl,q⟩;have J:Inv X pins σ H {s with heap:=h',toks:=tk}:=I.kept λb o e=>hk b o (λz=>absurd (Zx e) (by rw[ZJ.mp z];exact ZX _)) (Zl _ e);exact J
theorem D9(hc:X.calm=true):cG X (.builtin "any") (λxs H Q=>∃(p:Addr) (bs:List Bool),xs=[.ref p]/\aq X.K H p (bs.map V.bl)/\Q (.bl (bs.any id)) H):=by
 rintro pins s σ H xs us Q I r ⟨p,bs,rfl,hq,q⟩;obtain⟨u,rfl,rx⟩:=vals1 r;cases rx;obtain⟨its,rv,pl,hz⟩:=I.list hq;have hlt:p<s.heap.objs.size:=by obtain⟨o,n,e,_⟩:=pl;exact Zx e
 have hlen:its.length=bs.length:=by rw[<-rv.length,Zj]
 refine call_any_walk (wpAny_pyIter_list pl.isList ?_);refine⟨s.heap.objs.size,_,_,its.toArray.size,_,_,λi=>bs.getD i false,rfl,aeo (A:=X.A.in1) (I.ok.hd hc) s.heap.objs.size p (ZQ hlt) its.toArray,⟨⟨_,Zw _ rfl,rfl,rfl⟩,pl.isList.push _⟩,λi v s' Q' E' hP hQ=>?_,λh' tk hk=>?_⟩
 ·obtain⟨b,h1,rfl⟩:=jK rv (by simpa using hP);refine wpAny_truthy_bool ?_;have e:bs.getD i false=b:=by rw[List.getD,h1];rfl
  rw[<-e];exact hQ
 ·rw[Zt,hlen,range_any];refine⟨.bl _,H,?_,rfl,q⟩;have J:Inv X pins σ H {s with heap:=h',toks:=tk}:=I.kept λb o e=>hk b o (λz=>absurd (Zx e) (by rw[ZJ.mp z];exact ZX _)) (Zl _ e);exact J
theorem cp:cG X (.builtin "isinstance") (λxs H Q=>∃x t b,xs=[x,.ty T]/\eT X.K H x t/\PySem.W.kitOne X.K t (.type T)=some b/\Q (.bl b) H):=by rintro pins s σ H xs us Q I r ⟨x,t,b,rfl,ty,e,q⟩;obtain⟨u,v,rfl,ru,rv⟩:=vals2 r;cases rv;exact AW I ru ty e λtk=>⟨.bl b,H,I.tok _,rfl,q⟩
theorem iJ:∀{ys:List Str} {us:List Value},Vals (ys.map V.str) us->StrsAre us ys
 |[],_,.nil=>.nil
 |y::ys,_,.cons r t=>by obtain⟨k,rfl⟩:=(show ∃k,_=Value.str y k from r);exact .cons y k (iJ t)
theorem HY:A3 X "str.join" (λx vs H Q=>∃(sep:Str) (p:Addr) (ys:List Str),x=.str sep/\vs=[.ref p]/\aq X.K H p (ys.map V.str)/\(ys.map (·.length)).sum+ys.length*sep.length<=16777216/\Q (.str (Txt.join sep ys)) H):=by rintro pins s σ H x xs v us Q I rx r ⟨sep,p,ys,rfl,rfl,hq,hl,q⟩;obtain⟨u,rfl,ru⟩:=vals1 r;cases ru;obtain⟨t,rfl⟩:=rx;obtain⟨its,rv,pl,hz⟩:=I.list hq;exact join_list pl.isList (by simpa using iJ rv) hl λt' k=>⟨.str _,H,I.tok _,⟨t',rfl⟩,q⟩
theorem sH:cL X (compareOp .LtE) (λx y H Q=>∃i j,x=.str i/\y=.str j/\Q (.bl (!decide (j.cps.toList<i.cps.toList))) H):=by rintro pins s σ H x y v u Q I rx ry ⟨i,j,rfl,rfl,q⟩;obtain⟨t,rfl⟩:=rx;obtain⟨t',rfl⟩:=ry;exact PySem.P.le_str ⟨.bl _,H,I,rfl,by simpa using q⟩
end
theorem uU{own:List Str}{fr:List Nat}{g:TG}{tt:TT}{te:TE}{σ:St}{Q:VK}{lo:Int}{n:Nat}{H:Hp}(Pv:Nat->List V->Hp->Prop)(h0:Pv 0 [] H)(hlen:∀i ys H,i<=n->Pv i ys H->ys.length<=sizeLine)
  (hs:∀i ys H (R:List V->Hp->Prop),i<n->Pv i ys H->(∀cB H',Pv (i+1) cB H'->R cB H')->g (.int (lo+i)) (cI own fr σ) H λσ4 H4=>tt σ4 H4 λb H5=>if b=true then te σ4 H5 λy H6=>R (ys++[y]) H6 else R ys H5)
  (hd:∀ys H,Pv n ys H->∀D,H D=none->Q (.ref D) (upd H D (.lst ys))):dE own fr g tt te σ Q (uC lo n) H:=by
 refine⟨λi m ys H=>m=n-i/\i<=n/\Pv i ys H,⟨n,rfl,ZE _,h0⟩,?_⟩;rintro i m ys H2 ⟨rfl,hi,p⟩;refine⟨hlen i ys H2 hi p,?_⟩;by_cases h:i<n
 ·refine .inr ⟨h,λx H3 hy=>?_⟩;obtain⟨rfl,rfl⟩:=hy;exact hs i ys _ (λcB H'=>∃m',m'<n-i/\(m'=n-(i+1)/\i+1<=n/\Pv (i+1) cB H')) h p λcB H' q=>⟨n-(i+1),by omega,rfl,h,q⟩
 ·have e:i=n:=by omega
  subst e;exact .inl ⟨Zn _,hd ys H2 p⟩
theorem cQ{K:PySem.W.Frag}{a:Addr}{xs:List V}{own:List Str}{fr:List Nat}{g:TG}{tt:TT}{te:TE}{σ:St}{Q:VK}{H:Hp}(Pv:Nat->List V->Hp->Prop)(h0:Pv 0 [] H)(hlen:∀i ys H,i<=xs.length->Pv i ys H->ys.length<=sizeLine)
  (hl:∀i ys H,i<=xs.length->Pv i ys H->aq K H a xs)
  (hs:∀i x ys H (R:List V->Hp->Prop),xs[i]?=some x->Pv i ys H->(∀cB H',Pv (i+1) cB H'->R cB H')->g x (cI own fr σ) H λσ4 H4=>tt σ4 H4 λb H5=>if b=true then te σ4 H5 λy H6=>R (ys++[y]) H6 else R ys H5)
  (hd:∀ys H,Pv xs.length ys H->∀D,H D=none->Q (.ref D) (upd H D (.lst ys))):dE own fr g tt te σ Q (lF K a) H:=by
 refine⟨λi m ys H=>m=xs.length-i/\i<=xs.length/\Pv i ys H,⟨xs.length,rfl,ZE _,h0⟩,?_⟩;rintro i m ys H2 ⟨rfl,hi,p⟩;refine⟨hlen i ys H2 hi p,?_⟩;have q:=hl i ys H2 hi p;by_cases h:i<xs.length
 ·refine .inr ⟨⟨xs,xs[i],q,by simp[h]⟩,λx H3 hy=>?_⟩;obtain⟨rfl,hy⟩:=hy;exact hs i x ys _ (λcB H'=>∃m',m'<xs.length-i/\(m'=xs.length-(i+1)/\i+1<=xs.length/\Pv (i+1) cB H')) (hy xs q) p λcB H' q=>⟨xs.length-(i+1),by omega,rfl,h,q⟩
 ·have e:i=xs.length:=by omega
  subst e;exact .inl ⟨⟨xs,q,Zn _⟩,hd ys H2 p⟩
theorem Kv{K:PySem.W.Frag}{a:Addr}{xs:List V}{own:List Str}{fr:List Nat}{g:TG}{tt:TT}{te:TE}{σ:St}{Q:VK}{H:Hp}(Pv:Nat->List V->Hp->Prop)(h0:Pv 0 [] H)(hlen:∀i ys H,i<=xs.length->Pv i ys H->ys.length<=sizeLine)
  (hl:∀i ys H,i<=xs.length->Pv i ys H->aO K H a xs)
  (hs:∀i x ys H (R:List V->Hp->Prop),xs[i]?=some x->Pv i ys H->(∀cB H',Pv (i+1) cB H'->R cB H')->g x (cI own fr σ) H λσ4 H4=>tt σ4 H4 λb H5=>if b=true then te σ4 H5 λy H6=>R (ys++[y]) H6 else R ys H5)
  (hd:∀ys H,Pv xs.length ys H->∀D,H D=none->Q (.ref D) (upd H D (.lst ys))):dE own fr g tt te σ Q (uB K a) H:=by
 refine⟨λi m ys H=>m=xs.length-i/\i<=xs.length/\Pv i ys H,⟨xs.length,rfl,ZE _,h0⟩,?_⟩;rintro i m ys H2 ⟨rfl,hi,p⟩;refine⟨hlen i ys H2 hi p,?_⟩;have q:=hl i ys H2 hi p;by_cases h:i<xs.length
 ·refine .inr ⟨⟨xs,xs[i],q,by simp[h]⟩,λx H3 hy=>?_⟩;obtain⟨rfl,hy⟩:=hy;exact hs i x ys _ (λcB H'=>∃m',m'<xs.length-i/\(m'=xs.length-(i+1)/\i+1<=xs.length/\Pv (i+1) cB H')) (hy xs q) p λcB H' q=>⟨xs.length-(i+1),by omega,rfl,h,q⟩
 ·have e:i=xs.length:=by omega
  subst e;exact .inl ⟨⟨xs,q,Zn _⟩,hd ys H2 p⟩
theorem bg.there{P:Program}{w:World}{H:Hp}{h:Heap}{a:Addr}{o:HO}(x:bg P w H h a o):∃u,h.get? a=some u:=by
 cases o with
 |lst xs=>obtain⟨_,_,_,_,e⟩:=x;exact⟨_,e⟩
 |tup xs=>obtain⟨_,_,_,o,e,_⟩:=x;exact⟨_,e⟩
 |dK kvs=>obtain⟨_,_,_,_,o,_,_,e,_⟩:=x;exact⟨_,e⟩
 |dT kvs=>obtain⟨_,_,_,_,o,_,_,e,_⟩:=x;exact⟨_,e⟩
 |set S n=>obtain⟨o,_,_,_,e,_⟩:=x;exact⟨_,e⟩
 |ins C dx fs=>obtain⟨_,_,_,e,_⟩:=x;exact⟨_,e⟩
 |own y=>exact x
 |xd fs=>obtain⟨_,⟨_,_,_,e,_⟩,_⟩:=x;exact⟨_,e⟩
 |FQ lo hi=>obtain⟨_,_,_,e⟩:=x;exact⟨_,e⟩
 |iR ob u=>obtain⟨e,_⟩:=x;exact⟨_,e⟩
 |rR ps=>exact⟨_,(show h.get? a=some _ from x)⟩
 |met f y=>exact⟨_,(show h.get? a=some _ from x)⟩
 |ext φ=>obtain⟨_,e,_⟩:=x;exact e
section
variable {CX:md}{P:Program}{w:World}{K:PySem.W.Frag}{mg:Str->Option Value}{base:Heap}{N:List Str}{qual:Str}{scope:Scope}{f:Addr}{cdv:Value}{A:Around}{outer:List Env}{s s1 s2:Shared}{H H1 H2:Hp}{E:XK}
 {pins:List (Addr×Obj)} {σ:St} {a:Addr} {cls a0:Value} {B h':Heap}
end
def jL(σ:List Str)(z:Str):List Str:=if z∈σ then σ else z::σ
def dist(zs:List Str):List Str:=zs.foldl jL []
theorem uV:k∈jL σ z ↔ k∈σ\/k=z:=by
 unfold jL;split
 ·exact⟨.inl,λh=>h.elim id λe=>by rw[e];assumption⟩
 ·rw[Zs];exact or_comm
theorem oH(σ:List Str)(z:Str):(jL σ z).length=if z∈σ then σ.length else σ.length+1:=by unfold jL;split<;>simp
theorem sI(zs:List Str)(z:Str):dist (zs++[z])=jL (dist zs) z:=by simp[dist,List.foldl_append]
theorem xQ:∀(zs σ:List Str),(zs.foldl jL σ).length<=σ.length+zs.length
 |[],σ=>by simp
 |z::zs,σ=>by have h:=xQ zs (jL σ z);rw[oH] at h;simp only[acQ,Zz];split at h<;>omega
theorem HZ(zs:List Str):(dist zs).length<=zs.length:=by have h:=xQ zs [];rw[aaL,abA] at h;exact h
theorem xR:∀(zs σ:List Str),zs.Nodup->(∀z∈zs,z∉σ)->(zs.foldl jL σ).length=σ.length+zs.length
 |[],σ,_,_=>by simp
 |z::zs,σ,nd,h=>by
  rw[ZT] at nd;simp only[acQ,Zz];rw[xR zs (jL σ z) nd.2 λy hy q=>?_,oH,if_neg (h z Zy)]
  ·omega
  ·rcases uV.mp q with q|q
   ·exact h y (ZC _ hy) q
   ·exact nd.1 (q▸hy)
theorem Ia(nd:zs.Nodup):(dist zs).length=zs.length:=by have h:=xR zs [] nd λ_ _ h=>nomatch h;rw[aaL,abA] at h;exact h
theorem Ib:∀{its:List Value} {zs:List Str} {i:Nat} {v:Value},StrsAre its zs->its[i]?=some v->∃z t,zs[i]?=some z/\v=.str z t:=by
 intro its zs i v h;induction h generalizing i with
 |nil=>intro e;simp at e
 |cons z t _ ih=>
  intro e;cases i with
  |zero=>simp at e;exact⟨z,t,rfl,e.symm⟩
  |succ i=>exact ih (by simpa using e)
theorem kS:∀{its:List Value} {zs:List Str},StrsAre its zs->its.length=zs.length:=by
 intro its zs h;induction h with
 |nil=>rfl
 |cons z t _ ih=>simp[ih]
theorem xT:∀{its:List Value} {zs:List Str},StrsAre its zs->Vals (zs.map V.str) its:=by
 intro its zs h;induction h with
 |nil=>exact .nil
 |cons z t _ ih=>exact .cons ⟨t,rfl⟩ ih
section
variable {prog:Program}{w:World}{A:Around}{I S:Addr}{fp wr:List Addr}{G:Array GenState->Array GenState->Prop}{P:Nat->Value->Prop}{St:Nat->Shared->Prop}{zs:List Str}{R:Result->Shared->Prop}
abbrev eZ(prog:Program)(w:World)(h:Heap)(S:Addr)(zs:List Str):Prop:=h.SetOf (strKind prog w) S (λk=>decide (k∈dist zs)) (dist zs).length
theorem eZ.keep(x:eZ prog w h S zs)(k:∀o,h.get? S=some o->h'.get? S=some o):eZ prog w h' S zs:=by obtain⟨o,es,ep,t,ho,r⟩:=x;exact⟨o,es,ep,t,k o ho,r⟩
theorem eZ.more(x:h.SetOf (strKind prog w) S (λk=>decide (k∈dist zs)||decide (k=z)) (if decide (z∈dist zs)=true then (dist zs).length else (dist zs).length+1)):eZ prog w h S (zs++[z]):=by
 have e1:(λk=>decide (k∈dist (zs++[z])))=λk=>decide (k∈dist zs)||decide (k=z):=by funext k;rw[sI,aat];simp[uV]
 have e2:(dist (zs++[z])).length=if decide (z∈dist zs)=true then (dist zs).length else (dist zs).length+1:=by rw[sI,oH];simp
 unfold eZ;rw[e1,e2];exact x
theorem uW(W:WalksS prog w A.in1 I fp wr G zs.length P St)(off:S∉fp)(hz:∀i v,P i v->∃z t,zs[i]?=some z/\v=.str z t)(small:zs.length+1<scanBound) :
  ∀(left i:Nat) (s:Shared),i+left=zs.length->St i s->eZ prog w s.heap S (zs.take i) ->
   (∀s',Moved (S::wr) G s s'->eZ prog w s'.heap S zs->R (.ok (.ret .none)) s')->codeAny (model prog w) A (.builtin "set.update.loop" ⟨[.ref S,.ref I],[]⟩) R s
 |0,i,s,hi,st,x,k=>by have e:zs.take i=zs:=aab (by omega);rw[show i=zs.length by omega] at st;refine codeAny_builtin adI ?_;rw[aaQ ach _];apply wpAny_bind;refine W.done s _ _ st λs' m=>?_;exact wpAny_pure (k s' (m.mono λb hb=>ZC _ hb) (by rw[e] at x;exact x.keep λo ho=>m.heap S o (λhs=>off (W.sub _ hs)) ho))
 |left+1,i,s,hi,st,x,k=>by
  refine codeAny_builtin adI ?_;rw[aaQ ach _];apply wpAny_bind;refine W.item i s _ _ (by omega) st λv s1 p Ur m=>?_;obtain⟨z,t,ez,rfl⟩:=hz i v p;have x1:=x.keep λo ho=>m.heap S o (λhs=>off (W.sub _ hs)) ho;have et:zs.take (i+1)=zs.take i++[z]:=by rw[ZO,ez];rfl
  have yes:(strKind prog w).is z (.str z t)=true:=by show Value.isStrOf z (.str z t)=true;simp[Value.isStrOf]
  show wpAny _ A.in1 (holding [Value.str z t] (setAdd S (.str z t))>>=_) _ _ s1
  apply wpAny_bind;apply wpAny_holding;show wpAny _ A.in1 (holding _ _) _ _ _
  apply wpAny_holding;apply wpAny_bind;refine(strKind prog w).pyHash yes ?_;have aP:=HZ (zs.take i);rw[ZK] at aP;refine wpAny_setAddHashed_of (knd:=strKind prog w) (s:={s1 with toks:=s1.toks+1}) yes rfl x1 (by omega) λh2 sb x2=>?_;refine wpAny_pure ⟨abt ach _,uW W off hz small left (i+1) _ (by omega) ?_ (by rw[et];exact eZ.more x2) λs3 m3 x3=>?_⟩
  ·exact W.frame _ s1 _ _ Ur (aaR _) λb hb o e=>(sb.2 b λz'=>off (z'▸hb)).trans e
  ·refine k s3 (Moved.trans W.gtrans ((m.mono λb hb=>ZC _ hb).then_heap (aaR _) λb o hb e=>?_) m3) x3;exact(sb.2 b λz'=>hb (by rw[z'];exact Zy)).trans e
end
section
theorem Ic(ft:TypeCalled T newId Kw)(hc:checkTypeCall T ⟨args,[]⟩=pure ())
  (h:codeAny (model prog w) A.in1 (.call (.builtin newId) ⟨.type T::args,[]⟩) (wants (λx t=>t.TypeIs x T/\codeAny (model prog w) A.in1 (.call (.builtin Kw) ⟨x::args,[]⟩) (wants (λr t'=>r=.none/\Q x t') E) t) E) s) :
  wpAny (model prog w) A (call (.type T) args) Q E s:=by
 have q1:=ft.made;have q2:=ft.sub;have q3:=ft.notType;have q4:=ft.canCreate;have q5:=ft.init.lookup;obtain⟨_,_,q6⟩:=ft.mro;apply afm;apply adQ;show wpAny _ _ (callAny (.type T) _) _ _ _
 apply wpAny_pure;refine⟨Code.quiet_builtin _ (by decide +kernel),codeAny_builtin PySem.F.entry_type_call ?_⟩;rw[Around.under_plain (weight_type_call_type T args []) rfl];repeat (any_goals (first|wp_step|assumption))
 apply codeAny_mono h;rintro(e|f) t k
 ·exact k
 cases f<;>first|exact k.elim|skip
 rename_i x
 have q7:=ft.init.bind x;obtain⟨ty,k⟩:=k;repeat (any_goals (first|wp_step|assumption))
 apply codeAny_mono k;rintro(e|f) t' k'
 ·exact k'
 cases f<;>first|exact k'.elim|skip
 obtain⟨z,k'⟩:=k';cases z;repeat (any_goals (first|wp_step|assumption))
theorem Bj(hh:A.handled=none)(hl:s.heap.IsList l its.toArray)(hz:StrsAre its zs)(small:zs.length+1<scanBound)
  (h:∀(h':Heap) (tk:Nat),eZ prog w h' s.heap.objs.size zs->(∀b o,s.heap.get? b=some o->h'.get? b=some o)->Q (.ref s.heap.objs.size) {s with heap:=h',toks:=tk}) :
  wpAny (model prog w) A (call (.type "set") [.ref l]) Q E s:=by
 refine Ic aeO (PySem.F.typeCall_set_1 _) (code_set_new_1 (.ref l) λled=>?_);generalize dv:s.heap.push {cls:=.type "set",dict:=none,data:=.set #[] 0 (.fresh 0 0 led)}=h1;have kp:∀b o,s.heap.get? b=some o->h1.get? b=some o:=λb o e=>by rw[<-dv];exact Zl _ e
 have sz:h1.objs.size=s.heap.objs.size+1:=by rw[<-dv];exact Z' ..
 have new:h1.get? s.heap.objs.size=some {cls:=.type "set",dict:=none,data:=.set #[] 0 (.fresh 0 0 led)}:=by rw[<-dv];exact Zw _ rfl
 have ty:({s with heap:=h1}:Shared).TypeIs (.ref s.heap.objs.size) "set" := ⟨_,new,rfl⟩
 refine⟨ty,codeAny_call_builtin aeO.init.plain PySem.F.entry_set_init (check_set_init_1 ty ?_)⟩;have el:its.length=zs.length:=kS hz;obtain⟨⟨c,d,dt,sl⟩,ho,rfl,n,rfl⟩:=hl;have lK:=kp _ _ ho;have lt:@LT.lt Nat _ l s.heap.objs.size:=Zx ho;have il:h1.IsList l its.toArray:=⟨_,lK,rfl,n,rfl⟩
 have n1:=PySem.F.sub_list_set;have n2:=PySem.F.sub_list_frozenset;have n3:(Value.type "list"==Value.type "dict")=false:=by decide
 unfold Builtin.«set.__init__» noKeywords Builtin.Frozenset.updateFrom;generalize pi:pyIter=it;wp_walk
 subst pi;apply wpAny_pyIter_list il;apply wpAny_bind;apply wpAny_runValue;have W:=(aeo (prog:=prog) (w:=w) (A:=A.in1.in1.in1) (by simpa using hh) h1.objs.size l (by rw[sz];exact ZQ (abj lt)) its.toArray).toS;have e0:its.toArray.size=zs.length:=by rw[Zt];exact el
 rw[e0] at W;refine uW (zs:=zs) W ?_ (λi v p=>?_) small zs.length 0 _ (abA _) ⟨⟨_,Zw _ rfl,rfl,rfl⟩,il.push _⟩ ?_ λt m x=>?_
 ·rw[sz];intro q;rcases Zs.mp q with q|q
  ·exact absurd q (ZQ (aav _))
  ·exact absurd (ZJ.mp q) (acK lt)
 ·have p':its[i]?=some v:=by simpa using p
  exact Ib hz p'
 ·exact(setObjOf_fresh (knd:=strKind prog w) led).setOf (Zl _ new) (by decide)
 ·obtain⟨h2,g2,d2,t2,o2⟩:=t;cases (show g2=s.gens from m.gens);cases (show d2=s.drawn from m.drawn);cases (show o2=s.os from m.os);apply wpAny_pure;refine wpAny_pure ⟨rfl,h h2 t2 x λb o e=>m.heap b o ?_ (Zl _ (kp b o e))⟩;have lb:@LT.lt Nat _ b s.heap.objs.size:=Zx e;rw[sz];intro q;rcases Zs.mp q with q|q
  ·exact absurd q (ZQ lb)
  ·exact absurd (ZJ.mp q) (ZQ (abj lb))
end
def fZ(a b:Str):Bool:=decide (a.cps.toList<=b.cps.toList)
theorem f':fZ a b=true ↔ a.cps.toList<=b.cps.toList:=by simp[fZ]
theorem sJ(h:fZ a b=true)(k:fZ b c=true):fZ a c=true:=f'.mpr (List.le_trans (f'.mp h) (f'.mp k))
theorem D'(h:fZ a b=true)(k:fZ b a=true):a=b:=by have e:=afd (f'.mp h) (f'.mp k);cases a;cases b;simp only[af3];exact abX.mp e
theorem Bk(a b:Str):(fZ a b||fZ b a)=true:=by
 rcases List.le_total a.cps.toList b.cps.toList with h|h
 ·simp[f'.mpr h]
 ·simp[f'.mpr h]
def aY(zs:List Str):List Str:=zs.mergeSort fZ
theorem i9(zs:List Str):(aY zs).Perm zs:=List.mergeSort_perm _ _
theorem Bl(zs:List Str):(aY zs).Pairwise λa b=>fZ a b=true:=List.pairwise_mergeSort (le:=fZ) (λ_ _ _ h k=>sJ h k) Bk zs
theorem sL:∀(l:List Str) (p:Str),risingS p l=true->(p::l).Pairwise λa b=>fZ a b=true
 |[],p,_=>by simp
 |x::r,p,h=>by
  have h':(!ltCps x.cps.toList p.cps.toList&&risingS x r)=true:=h;rw[aa7] at h';have ih:=sL r x h'.2;have px:fZ p x=true:=by
   have:=h'.1
   rw[ltCps_eq] at this;refine f'.mpr ?_;intro q;rw[decide_eq_true q] at this;cases this
  refine abn.mpr ⟨λy hy=>?_,ih⟩;rcases Zs.mp hy with rfl|hy
  ·exact px
  ·exact sJ px ((abn.mp ih).1 y hy)
theorem sN:∀(l:List Str),sortedS l=true->l.Pairwise λa b=>fZ a b=true
 |[],_=>.nil
 |x::r,h=>sL r x h
theorem xU:∀{l m:List Str},l.Perm m->(l.Pairwise λa b=>fZ a b=true)->(m.Pairwise λa b=>fZ a b=true)->l=m
 |[],m,p,_,_=>(List.nil_perm.mp p).symm
 |x::l,[],p,_,_=>absurd p (by simp)
 |x::l,y::m,p,a,b=>by
  have a':=abn.mp a;have b':=abn.mp b;have e:x=y:=by
   rcases Zs.mp (p.mem_iff.mp Zy) with q|q
   ·exact q
   rcases Zs.mp (p.mem_iff.mpr Zy) with q'|q'
   ·exact q'.symm
   ·exact D' (a'.1 y q') (b'.1 x q)
  subst e;rw[xU ((List.perm_cons _).mp p) a'.2 b'.2]
theorem pX(p:ss.Perm zs)(h:ss.Pairwise λa b=>fZ a b=true):ss=aY zs:=xU (p.trans (i9 zs).symm) h (Bl zs)
theorem gg(zs:List Str):(aY zs).length=zs.length:=(i9 zs).length_eq
section
theorem jA:cG X (.builtin "sorted") (λxs H Q=>∃(p:Addr) (zs:List Str),xs=[.ref p]/\aq X.K H p (zs.map V.str)/\zs.length<64/\∀l,H l=none->Q (.ref l) (upd H l (.lst ((aY zs).map V.str)))):=by
 rintro pins s σ H xs us Q I r ⟨p,zs,rfl,hq,aP,q⟩;obtain⟨u,rfl,rx⟩:=vals1 r;cases rx;obtain⟨its,rv,pl,hz⟩:=I.list hq;have el:=kS (iJ rv);refine sorted_strs pl.isList (iJ rv) (by omega) λout ss a1 a2 a3=>?_;have e:=pX a2 (sN ss a3);subst e;obtain⟨n,hn⟩:=sortedAll_at s.heap its out;have lb:((aY zs).map V.str).length<=sizeLine:=by rw[Zj,gg];exact Zu (aag aP) (by decide)
 refine⟨.ref (s.heap.objs.size+1),_,I.laid (t':=s.toks) (o:=.lst ((aY zs).map V.str)) (λb o e=>sortedAll_old e) (aaR _) ?_,rfl,q _ (I.aL.fresh (aaR _))⟩;exact⟨lb,out.toList,n,xT a1,by rw[hn]⟩
end
def Al(K:PySem.W.Frag)(H:Hp):Nat->V->V->Prop
 |0,x,y=>cN x=true/\x=y
 |n+1,x,y=>(cN x=true/\x=y)\/∃p q xs ys,x=.ref p/\y=.ref q/\((aq K H p xs/\aq K H q ys)\/(aO K H p xs/\aO K H q ys))/\xs.length=ys.length/\∀(i:Nat) a b,xs[i]?=some a->ys[i]?=some b->Al K H n a b
def Bm(K:PySem.W.Frag)(H:Hp)(n:Nat)(x y:V):Prop:=
 ∃p q xs ys,x=.ref p/\y=.ref q/\((aq K H p xs/\aq K H q ys)\/(aO K H p xs/\aO K H q ys))/\xs.length=ys.length/\∀(i:Nat) a b,xs[i]?=some a->ys[i]?=some b->Al K H n a b
theorem Al.txt{K:PySem.W.Frag}{H:Hp}{n:Nat}{z:Str}:Al K H n (.str z) (.str z):=by
 cases n
 ·exact⟨rfl,rfl⟩
 ·exact .inl ⟨rfl,rfl⟩
theorem oI(h:cN x=true):hX x x=true:=by cases x<;>first|(exact absurd h ZM)|simp[hX]
theorem all_range(n:Nat):(List.range n).all (λ_=>true)=true:=by simp
section
theorem Oa(I:Inv X pins σ H s):∀(n:Nat) (x y:V) (u v:Value) (A:Around),Al X.K H n x y->RelV x u->RelV y v->A.units+n<cLine->SeqAt.EqAt A s u v true:=by
 intro n;induction n with
 |zero =>rintro x y u v A ⟨f,rfl⟩ ru rv _;have h:=pO (A:=A) (s:=s) ru rv f f;rw[oI f] at h;exact h
 |succ n ih=>
  rintro x y u v A h ru rv hu;rcases h with⟨f,rfl⟩|⟨p,q,xs,ys,rfl,rfl,h,el,k⟩
  ·have h:=pO (A:=A) (s:=s) ru rv f f;rw[oI f] at h;exact h
  ·cases ru;cases rv;by_cases xV:p=q
   ·subst xV;exact adP _
   refine aeP xV ?_;have low:A.in1.units+n<cLine:=by rw[adR];omega
   have item:∀{is js:List Value},Vals xs is->Vals ys js->∀j (h1:j<is.toArray.size) (h2:j<js.toArray.size),SeqAt.EqAt A.in1 s is.toArray[j] js.toArray[j] true:=λ{is js} ri rj j h1 h2=>by
    have b1:j<xs.length:=by rw[ri.length];simpa using h1
    have b2:j<ys.length:=by rw[rj.length];simpa using h2
    obtain⟨u',e1,r1⟩:=ri.get (Zk b1);obtain⟨v',e2,r2⟩:=rj.get (Zk b2);have c1:is.toArray[j]=u':=by
     rw[abg]
     have:=Zk (l:=is) (i:=j) (by simpa using h1)
     rw[this] at e1;exact ZH e1
    have c2:js.toArray[j]=v':=by
     rw[abg]
     have:=Zk (l:=js) (i:=j) (by simpa using h2)
     rw[this] at e2;exact ZH e2
    rw[c1,c2];exact ih _ _ _ _ _ (k j _ _ (Zk b1) (Zk b2)) r1 r2 low
   rcases h with⟨hp,hq⟩|⟨hp,hq⟩
   ·obtain⟨is,ri,pi,_⟩:=I.list hp;obtain⟨js,rj,pj,_⟩:=I.list hq;have z:=agt (A:=A) (e:=λ_=>true) pi.isList pj.isList (by simp only[Zt];rw[<-ri.length,<-rj.length];exact el) (by omega) (item ri rj);rw[all_range] at z;exact z
   ·obtain⟨is,ri,pi,_⟩:=I.tuple hp;obtain⟨js,rj,pj,_⟩:=I.tuple hq;have z:=ae1 (A:=A) (e:=λ_=>true) pi pj (by omega) (item ri rj);have e:(is.toArray.size==js.toArray.size)=true:=by simp only[Zt,beq_iff_eq];rw[<-ri.length,<-rj.length];exact el
    rw[all_range,e] at z;exact z
theorem jB(I:Inv X pins σ H s){n:Nat}{xs ys:List V}{A:Around}(low:A.in1.units+n<cLine)(k:∀(i:Nat) a b,xs[i]?=some a->ys[i]?=some b->Al X.K H n a b){is js:List Value}(ri:Vals xs is)(rj:Vals ys js) :
  ∀j (h1:j<is.toArray.size) (h2:j<js.toArray.size),SeqAt.EqAt A.in1 s is.toArray[j] js.toArray[j] true:=λj h1 h2=>by
 have b1:j<xs.length:=by rw[ri.length];simpa using h1
 have b2:j<ys.length:=by rw[rj.length];simpa using h2
 obtain⟨u',e1,r1⟩:=ri.get (Zk b1);obtain⟨v',e2,r2⟩:=rj.get (Zk b2);have c1:is.toArray[j]=u':=by
  rw[abg]
  have:=Zk (l:=is) (i:=j) (by simpa using h1)
  rw[this] at e1;exact ZH e1
 have c2:js.toArray[j]=v':=by
  rw[abg]
  have:=Zk (l:=js) (i:=j) (by simpa using h2)
  rw[this] at e2;exact ZH e2
 rw[c1,c2];exact Oa I n _ _ _ _ _ (k j _ _ (Zk b1) (Zk b2)) r1 r2 low
end
section
theorem Ea(n:Nat)(hu:X.A.units+n+1<cLine):cL X (compareOp .Eq) (λx y H Q=>Bm X.K H n x y/\Q (.bl true) H):=by
 rintro pins s σ H x y v u Q I rx ry ⟨⟨p,q,xs,ys,rfl,rfl,h,el,k⟩,fin⟩;cases rx;cases ry;have low:X.A.in1.units+n<cLine:=by rw[adR];omega
 rcases h with⟨hp,hq⟩|⟨hp,hq⟩
 ·obtain⟨is,ri,pi,_⟩:=I.list hp;obtain⟨js,rj,pj,_⟩:=I.list hq;refine afp (e:=λ_=>true) pi.isList pj.isList (by simp only[Zt];rw[<-ri.length,<-rj.length];exact el) (by omega) (jB I low k ri rj) ?_;exact aX I fin (all_range _).symm
 ·obtain⟨is,ri,pi,_⟩:=I.tuple hp;obtain⟨js,rj,pj,_⟩:=I.tuple hq;refine afe (e:=λ_=>true) pi pj (by omega) (jB I low k ri rj) ?_;have e:(is.toArray.size==js.toArray.size)=true:=by simp only[Zt,beq_iff_eq];rw[<-ri.length,<-rj.length];exact el
  refine aX I fin ?_;rw[all_range,e];rfl
theorem uX(n:Nat)(hu:X.A.units+n+1<cLine):cL X (compareOp .NotEq) (λx y H Q=>Bm X.K H n x y/\Q (.bl false) H):=by
 rintro pins s σ H x y v u Q I rx ry ⟨⟨p,q,xs,ys,rfl,rfl,h,el,k⟩,fin⟩;cases rx;cases ry;have low:X.A.in1.units+n<cLine:=by rw[adR];omega
 rcases h with⟨hp,hq⟩|⟨hp,hq⟩
 ·obtain⟨is,ri,pi,_⟩:=I.list hp;obtain⟨js,rj,pj,_⟩:=I.list hq;refine aaZ (aeQ (e:=λ_=>true) pi.isList pj.isList (by simp only[Zt];rw[<-ri.length,<-rj.length];exact el) (by omega) (jB I low k ri rj)) ?_;refine aX I fin ?_;rw[all_range];rfl
 ·obtain⟨is,ri,pi,_⟩:=I.tuple hp;obtain⟨js,rj,pj,_⟩:=I.tuple hq;refine aaZ (aex (e:=λ_=>true) pi pj (by omega) (jB I low k ri rj)) ?_;have e:(is.toArray.size==js.toArray.size)=true:=by simp only[Zt,beq_iff_eq];rw[<-ri.length,<-rj.length];exact el
  refine aX I fin ?_;rw[all_range,e];rfl
def Ie(K:PySem.W.Frag)(te:TE):TE:=λσ H Q=>te σ H λx H1=>∃(p:Addr) (zs:List Str),x=.ref p/\aq K H1 p (zs.map V.str)/\zs.length+1<scanBound/\Q (.int (dist zs).length) H1
theorem Bn(hc:X.calm=true)(he:PE X e te)(gl:Gl X xl)(ml:X.mg xl=none)(vl:bootBuiltins xl=some (.builtin "len"))(gs:Gl X xs)(ms:X.mg xs=none)(vs:bootBuiltins xs=some (.type "set"))
  (hn1:xl≠"__name__" := by decide) (hd1:(xl==("__debug__" : Str))=false:=by decide) (hn2:xs≠"__name__" := by decide) (hd2:(xs==("__debug__" : Str))=false:=by decide)
  (hs:starEach [e] X.env=[(false,eval e X.env)]:=by rfl):PE X (.Call (.Name xl p1) [.Call (.Name xs p2) [e] [] Kx] [] X6) (Ie X.K te):=by
 intro pins s σ H Q I h;refine aaN (gu I gl ml vl ?_ hn1 hd1);refine acL ?_ rfl rfl;show wpAny _ _ (spliced [(false,eval (.Call (.Name xs p2) [e] [] Kx) X.env)]) _ _ s
 refine aeH ?_;refine aaN (gu I gs ms vs ?_ hn2 hd2);refine aaM (aH (aa he af hs Kx pins s σ H (λvs H1=>∃x,vs=[x]/\∃(p:Addr) (zs:List Str),x=.ref p/\aq X.K H1 p (zs.map V.str)/\zs.length+1<scanBound/\Q (.int (dist zs).length) H1) I ?_) λus s1 h1=>?_) hs rfl
 ·have mono:=h;refine ?_;show te σ H _
  exact(show te σ H (λx H1=>∃x',[x]=[x']/\∃(p:Addr) (zs:List Str),x'=.ref p/\aq X.K H1 p (zs.map V.str)/\zs.length+1<scanBound/\Q (.int (dist zs).length) H1) from by
   have e:(λ(x:V) (H1:Hp)=>∃x',[x]=[x']/\∃(p:Addr) (zs:List Str),x'=.ref p/\aq X.K H1 p (zs.map V.str)/\zs.length+1<scanBound/\Q (.int (dist zs).length) H1)=λx H1=>∃(p:Addr) (zs:List Str),x=.ref p/\aq X.K H1 p (zs.map V.str)/\zs.length+1<scanBound/\Q (.int (dist zs).length) H1:=by
    funext x H1
    refine propext ⟨λ⟨x',e,r⟩=>?_,λr=>⟨x,rfl,r⟩⟩;cases e;exact r
   rw[e];exact h)
 ·obtain⟨Yf,H1,I1,r1,x,rfl,p,zs,rfl,hq,small,q⟩:=h1;obtain⟨u,rfl,ru⟩:=vals1 r1;cases ru;obtain⟨its,rv,pl,_⟩:=I1.list hq;refine Bj (I1.ok.hd hc) pl.isList (iJ rv) small λh' tk T kp=>?_;refine aeY ?_;obtain⟨o,es,ep,t,ho,hex,hd,_,_,hb,hf,hN⟩:=T;have I2:Inv X pins σ H1 {s1 with heap:=h',toks:=tk}:=I1.kept (t':=tk) kp;have fit:(es.size:Int)<2 ^ 63:=by
   have:es.size<scanBound:=hb
   have z:scanBound<=4096:=by decide
   have:(es.size:Int)<4096:=by omega
   exact Int.lt_of_lt_of_le this (by decide)
  rw[<-hN] at q;exact call_len_set ho hex hd hf fit ⟨.int es.size,H1,I2.tok _,⟨_,rfl⟩,q⟩
end
section
theorem uY:cG X (.builtin "divmod") (λxs H Q=>∃i j,xs=[.int i,.int j]/\0<j/\j<2 ^ 64/\∀p,H p=none->Q (.ref p) (upd H p (.tup [.int (i / j),.int (i % j)]))):=by
 rintro pins s σ H xs us Q I r ⟨i,j,rfl,h1,h2,q⟩;obtain⟨u,w',rfl,⟨t,rfl⟩,⟨t',rfl⟩⟩:=vals2 r;have small:j.natAbs.log2<9000:=by
  have a:j.natAbs<2 ^ 64:=by omega
  have b:j.natAbs≠0:=by omega
  have c:=(af8 b).mpr a;omega
 refine divmod_int (by omega) ?_ (.inl (PyProof.noPylong_of_log2 small));rw[ada i (by omega),adb i (by omega)];refine⟨.ref s.heap.objs.size,_,I.laid (o:=.tup [.int (i / j),.int (i % j)]) (λb o e=>Zl _ e) (Zn _) ⟨?_,[.int (i / j) s.toks,.int (i % j) (s.toks+1)],.cons ⟨_,rfl⟩ (.cons ⟨_,rfl⟩ .nil),⟨_,Zw s.heap rfl,rfl,0,rfl⟩⟩,rfl,q _ I.fresh⟩;show 2<=sizeLine
 decide
end
end L2
namespace cM
open PySem PySem.Spec PyProof.Rows L2
theorem ck{CX:md}{P:Program}{w:World}{K:PySem.W.Frag}{mg:Str->Option Value}{base:Heap}{N:List Str}{q:Str}{sc:Scope}{f:Addr}{cd:Value}{A:Around}{o:List Env}{s:Shared}{H:Hp}{E:XK}:(oE CX P w K mg base N q sc f cd A o s H E).AL.K=K:=rfl
def top(i:Nat):Stmt:=PySem.Challenge.pw_cutmeet_k71_flats_told.main.body.getD i (.Pass ⟨0,0,0,0⟩)
abbrev ja:Stmt:=top 8
abbrev kU:Stmt:=top 9
abbrev m6:Stmt:=top 13
abbrev jb:Stmt:=top 14
abbrev qR:Stmt:=top 15
abbrev m7:Stmt:=top 16
abbrev pY:Stmt:=inClass (top 17) 0
abbrev m9:Stmt:=inClass (top 17) 1
abbrev ug:Stmt:=inClass (top 17) 2
abbrev uh:Stmt:=inClass (top 17) 4
abbrev kW:Stmt:=top 49
structure Df(K:PySem.W.Frag)(mg:Str->Option Value)(x:Str)(st:Stmt)(ps:List Str)(f:Addr)(fd:FuncData):Prop where
 fn:bx K x x st f fd
 bK:mg x=some (.ref f)
 b:Binds K fd ps []
def cC(p:Addr)(H H':Hp):Prop:=∀b o,H b=some o->b≠p->H' b=some o
def Row(H:Hp)(p:Addr):Prop:=∃a b:Int,H p=some (.lst [.int a,.int b])
def j0:Sp:=λvs H Q _=>∃(p:Addr) (m:Int),vs=[.ref p,.int m]/\Row H p/\0<m/\m<2 ^ 64/\∀(d:Int) (H':Hp),0<=d->d<m->Row H' p->cC p H H'->Q (.int d) H'
structure cm(mg:Str->Option Value):Prop where
 divmod:mg "divmod" = none
 len:mg "len" = none
 all:mg "all" = none
 e7:mg "isinstance" = none
 str:mg "str" = none
 range:mg "range" = none
 max:mg "max" = none
 min:mg "min" = none
 bool:mg "bool" = none
 list:mg "list" = none
 int:mg "int" = none
 tuple:mg "tuple" = none
 set:mg "set" = none
 sorted:mg "sorted" = none
 longest:∃t,mg "LONGEST" = some (.int 8 t)
 places:∃t,mg "MOST_PLACES" = some (.int 12 t)
 RS:∃t,mg "MOST_TIES" = some (.int 30 t)
section
variable {P:Program}{w:World}{K:PySem.W.Frag}{mg:Str->Option Value}{base:Heap}
def lo(c:Nat):Bool:=!decide ((⟨#[c]⟩:Str).cps.toList<("a" : Str).cps.toList)
def hi(c:Nat):Bool:=!decide (("z" : Str).cps.toList<(⟨#[c]⟩:Str).cps.toList)
def nm(z:Str):Bool:=(decide (1<=z.length)&&decide (z.length<=8))&&(z.cps.toList.map λc=>lo c&&hi c).all id
theorem zK{K:PySem.W.Frag}{z:Str}{H:Hp}{Q:VK}{te:TE}{σ:L2.St}{x:Str}(hz:z.cps.size<=sizeLine)(f:Nat->Bool)
  (he:∀(c:Nat) (H:Hp) (Q:VK),Q (.bl (f c)) H->te [some (V.str ⟨#[c]⟩)] H Q) (k:∀D,H D=none->Q (.ref D) (upd H D (.lst ((z.cps.toList.map f).map V.bl)))) :
  dE [x] [] (bj 0) cD te σ Q (Gb z) H:=by
 refine⟨λi m ys H2=>H2=H/\i<=z.cps.size/\m=z.cps.size-i/\ys=((z.cps.toList.take i).map f).map V.bl,⟨z.cps.size,rfl,ZE _,rfl,rfl⟩,?_⟩;rintro i m ys H2 ⟨rfl,hi,rfl,rfl⟩;refine⟨by simp;omega,?_⟩;by_cases h:i<z.cps.size
 ·refine .inr ⟨h,λx H3 hy=>?_⟩;obtain⟨rfl,c,hc,rfl⟩:=hy;simp only[cD,bj,Z7];refine he c _ _ ⟨z.cps.size-(i+1),by omega,rfl,h,rfl,?_⟩;have e:(z.cps.toList.take (i+1))=z.cps.toList.take i++[c]:=by
   rw[ZO]
   have:z.cps.toList[i]?=some c:=by simpa using hc
   rw[this];rfl
  rw[e];simp
 ·have e:i=z.cps.size:=by omega
  subst e;refine .inl ⟨rfl,λD hD=>?_⟩;have q:=k D hD;rw[aab (by simp)];exact q
def Bo:Sp:=λvs H Q _=>(∃z:Str,vs=[.str z]/\z.length<=1000/\∀H',av H H'->Q (.bl (nm z)) H')\/∃x t,vs=[x]/\eT K H x t/\PySem.W.kitOne K t (.type "str")=some false/\Q (.bl false) H
theorem Us:aQ ["thing"] ["thing"] (ar kU):=⟨rfl,rfl,rfl,by decide +kernel,rfl,by decide +kernel,by decide +kernel⟩
theorem Ig{f:Addr}{fd:FuncData}(F:bx K "is_name" "is_name" kU f fd)(T:cm mg):aG P w K mg base aS 1 f fd ["thing"] (Bo (K:=K)):=by
 refine F.ok Us (λvs H Q E h=>?_) (λcdv A outer s H vs Q E hr h=>?_)
 ·rcases h with⟨z,rfl,_⟩|⟨x,t,rfl,_⟩<;>rfl
 ·obtain⟨t8,h8⟩:=T.longest;refine⟨_,ao (bQ (PW.pt (fg (cq (di (aA (cp (T:="str")) (by rfl) T.e7 aaW (aa (pv 0) (aa (dR (v:=.ty "str") rfl T.str aec rfl) af))) (λ_=>rfl)))
    (dM (cq (uD kJ kJ aD (aA mf (by rfl) T.len ZW (aa (pv 0) af)) (mW (v:=.int 8) rfl h8 ⟨_,rfl⟩)))))) (au (aT dX)) bu)
   (au (aT (aA (i8 rfl) (by rfl) T.all aep (aa (dw ["sign"] [] rfl (bA (osc:=(ar kU).names) (N:=["thing"]) rfl rfl (by decide +kernel)) (bP (by decide)) (Bi (pv 0)) (λ_ _ _=>aE (i:=0) (show(["sign"]:List Str).Nodup by decide +kernel) rfl (Or.inl rfl)) (λ_ _ _=>bp)
    (λ_ _ _=>oz sH sH pA (pv 0) pA)) af)))),?_⟩
  try rw[ck]
  rcases h with⟨z,rfl,hz,k⟩|⟨x,t,rfl,ty,ki,k⟩
  ·have Pu:z.length<=sizeLine:=Zu hz (by decide);refine⟨_,rfl,_,_,true,rfl,.str z,rfl,_,rfl,?_⟩;refine br ?_;refine⟨_,rfl,z,rfl,Pu,_,_,rfl,rfl,_,rfl,?_⟩;refine iA (λh1=>?_) (λh1=>?_)
   ·refine⟨_,_,rfl,rfl,_,rfl,?_⟩;refine iA (λh2=>?_) (λh2=>?_)
    ·have e:nm z=false:=by
      have:¬ z.length<=8:=by simp at h2;omega
      simp[nm,this]
     exact e▸k H (av.refl _)
    ·have e:nm z=(z.cps.toList.map λc=>lo c&&hi c).all id:=by
      have a1:1<=z.length:=by simp at h1;omega
      have a2:z.length<=8:=by simp at h2;omega
      unfold nm;rw[decide_eq_true a1,decide_eq_true a2];rfl
     refine⟨_,rfl,z,rfl,zK (K:=K) Pu (λc=>lo c&&hi c) (λc H Q q=>?_) (λD hD=>⟨D,_,rfl,aq.of ai,?_⟩)⟩
     ·refine⟨_,rfl,_,_,rfl,rfl,_,rfl,?_⟩;have q':Q (.bl (lo c&&hi c)) H:=q;refine iA (λh=>?_) (λh=>?_)
      ·refine⟨_,_,rfl,rfl,?_⟩;have e1:lo c=true:=h;rw[e1,ab1] at q';exact q'
      ·have e1:lo c=false:=by simpa using(show ¬ lo c=true from h)
       rw[e1,ac2] at q';exact q'
     ·exact e▸k _ λc o q=>by rw[ak (aw q hD)];exact q
   ·refine⟨_,rfl,?_⟩;have e:nm z=false:=by
     have:¬ 1<=z.length:=by simp at h1;omega
     simp[nm,this]
    exact b6 (e▸k H (av.refl _))
  ·refine⟨_,rfl,_,_,false,rfl,ty,ki,_,rfl,?_⟩;exact b6 k
theorem cC.trans(a:cC p H H1)(b:cC p H1 H2):cC p H H2:=λc o h n=>b c o (a c o h n) n
theorem cC.laid(a:cC p H H1)(hq:H1 q=none)(hp:Row H1 p):cC p H (upd H1 q o)/\Row (upd H1 q o) p:=by obtain⟨x,y,hp⟩:=hp;exact⟨λc u h n=>by rw[ak (aw (a c u h n) hq)];exact a c u h n,x,y,by rw[ak (aw hp hq)];exact hp⟩
theorem Bp:("abcdefghijklmnopqrstuvwxyz" : Str).length=26:=by decide +kernel
theorem Ky{z:Str}{d:Int}(h0:0<=d)(h1:d<(z.length:Int)):∃c,iV z.cps.toList d=some c:=by
 obtain⟨n,rfl⟩:=aas h0;have hn:n<z.cps.toList.length:=by
  have:n<z.length:=by omega
  rw[Z9];exact this
 exact⟨z.cps.toList[n],cw (by simp[hn])⟩
theorem aj(h:H a=none):av H (upd H a o):=λb u e=>by rw[ak (aw e h)];exact e
def xW:Sp:=λvs H Q _=>∃x t b1 b2,vs=[x]/\eT K H x t/\PySem.W.kitOne K t (.type "int")=some b1/\PySem.W.kitOne K t (.type "bool")=some b2/\Q (.bl (b1&&!b2)) H
theorem RT:aQ ["thing"] ["thing"] (ar ja):=⟨rfl,rfl,rfl,by decide +kernel,rfl,by decide +kernel,by decide +kernel⟩
theorem Eb(F:bx K "is_whole" "is_whole" ja f fd)(T:cm mg):aG P w K mg base aS 1 f fd ["thing"] (xW (K:=K)):=by
 refine F.ok RT (λvs H Q E h=>?_) (λcdv A outer s H vs Q E hr h=>?_)
 ·obtain⟨x,t,b1,b2,rfl,_⟩:=h;rfl
 ·obtain⟨x,t,b1,b2,rfl,ty,e1,e2,k⟩:=h;refine⟨_,au (aT (iT (aA (cp (T:="int")) (by rfl) T.e7 aaW (aa (pv 0) (aa (dR (v:=.ty "int") rfl T.int aga rfl) af)))
   (lV (JK (aA (cp (T:="bool")) (by rfl) T.e7 aaW (aa (pv 0) (aa (dR (v:=.ty "bool") rfl T.bool af9 rfl) af))))))),?_⟩
  try rw[ck]
  refine⟨_,rfl,x,t,b1,rfl,ty,e1,_,rfl,?_⟩;cases b1
  ·exact br k
  ·exact b6 ⟨_,rfl,x,t,b2,rfl,ty,e2,_,rfl,k⟩
structure pZ(ns:List Str):Prop where
 one:1<=ns.length
 aP:ns.length<=12
 Ut:∀z∈ns,nm z=true
 nd:ns.Nodup
theorem Kz(h:nm z=true):z.length<=8:=by unfold nm at h;simp only[aa7,decide_eq_true_eq] at h;exact h.1.2
def Bq:Sp:=λvs H Q _=>∃(a:Addr) (ns:List Str),vs=[.ref a]/\H a=some (.lst (ns.map V.str))/\pZ ns/\∀H',av H H'->Q .a8 H'
theorem RU:aQ ["places"] ["places"] (ar m6):=⟨rfl,rfl,rfl,by decide +kernel,rfl,by decide +kernel,by decide +kernel⟩
theorem Ih(F:bx K "check_places" "check_places" m6 f fd)(DN:Df K mg "is_name" kU ["thing"] fN uZ)(T:cm mg):aG P w K mg base aS 2 f fd ["places"] Bq:=by
 have GN:aG P w K mg base aS 1 fN uZ ["thing"] (Bo (K:=K)):=Ig DN.fn T;refine F.ok RU (λvs H Q E h=>?_) (λcdv A outer s H vs Q E hr h=>?_)
 ·obtain⟨a,ns,rfl,_⟩:=h;rfl
 ·obtain⟨a,ns,rfl,ha,g,k⟩:=h;obtain⟨KA,h12⟩:=T.places;refine⟨_,ao (bQ (PW.pt (fg (cq (di (aA (cp (T:="list")) (by rfl) T.e7 aaW (aa (pv 0) (aa (dR (v:=.ty "list") rfl T.list aaw rfl) af))) (λ_=>rfl)))
    (dM (cq (uD kJ kJ aD (aA aN (by rfl) T.len ZW (aa (pv 0) af)) (mW (v:=.int 12) rfl h12 ⟨_,rfl⟩)))))) (au fq) bu)
   (ao (bQ (cq (di (aA (i8 rfl) (by rfl) T.all aep (aa (dw ["place"] [] rfl (bA (osc:=(ar m6).names) (N:=["places"]) rfl rfl (by decide +kernel)) (bP (by decide)) (bo (pv 0)) (λ_ _ _=>aE (i:=0) (show(["place"]:List Str).Nodup by decide +kernel) rfl (Or.inl rfl)) (λ_ _ _=>bp)
     (λ_ _ _=>aJ GN hr rfl DN.bK DN.fn.kp DN.b .nil aK (aa (pv 0) af))) af)) (λ_=>rfl))) (au fq) bu)
   (au (bQ (aZ pH (Bn rfl (pv 0) rfl T.len ZW rfl T.set agb) (aA aN (by rfl) T.len ZW (aa (pv 0) af)) (bz _)) (au fq) bu))),?_⟩
  try rw[ck]
  refine⟨_,rfl,_,_,true,rfl,.lst ha,rfl,_,rfl,?_⟩;refine br ?_;have le:(ns.map V.str).length=ns.length:=Zj ..;refine⟨_,rfl,a,_,rfl,.inl (aq.of ha),_,_,rfl,rfl,_,rfl,?_⟩;rw[le];have g1:=g.one;have g2:=g.aP;refine iA (λ_=>?_) (λz=>absurd z (by simp;omega));refine⟨_,_,rfl,rfl,_,rfl,?_⟩;refine iA (λz=>absurd z (by simp;omega)) (λ_=>?_);refine⟨_,rfl,a,rfl,⟨_,aq.of ha⟩,cQ (K:=K) (xs:=ns.map V.str) (λi ys H2=>av H H2/\ys=List.replicate i (V.bl true)) ⟨av.refl _,rfl⟩ ?_ ?_ ?_ ?_⟩
  ·rintro i ys H2 hi ⟨_,rfl⟩;rw[aa'];rw[le] at hi;exact Zu hi (Zu g.aP (by decide))
  ·rintro i ys H2 _ ⟨s2,_⟩;exact aq.of (s2 _ _ ha)
  ·rintro i x ys H2 R hx ⟨s2,rfl⟩ kR;rw[Zo] at hx;obtain⟨z,ez,rfl⟩:=Zp.mp hx;have gz:=g.Ut z (Zr ez);simp only[cD,bj,Z7];refine⟨_,rfl,.inl ⟨z,rfl,Zu (Kz gz) (by decide),λH3 s3=>?_⟩⟩;rw[gz];exact kR _ _ ⟨s2.trans s3,by rw[abY]⟩
  ·rintro ys H2 ⟨s2,rfl⟩ D hD;rw[le];have e:List.replicate ns.length (V.bl true)=(List.replicate ns.length true).map V.bl:=by simp
   refine⟨D,List.replicate ns.length true,rfl,(by rw[e];exact aq.of ai),_,rfl,?_⟩;have e2:(List.replicate ns.length true).all id=true:=by simp
   rw[e2];refine br ?_;have s3:av H (upd H2 D (.lst (List.replicate ns.length (V.bl true)))):=s2.trans (aj hD);refine⟨_,rfl,a,ns,rfl,aq.of (s3 _ _ ha),(by have:=g.aP;show ns.length+1<scanBound;exact Z2 (Nat.succ_le_succ this) (by decide)),_,rfl,a,_,rfl,.inl (aq.of (s3 _ _ ha)),_,_,rfl,rfl,_,rfl,?_⟩;rw[Ia g.nd,le];refine iA (λz=>absurd z (by simp)) (λ_=>?_);exact k _ s3
end
theorem j5(z:Str)(ns:List Str):F7 (.str z) (ns.map V.str)=decide (z∈ns):=by unfold F7;rw[af2,aat,ZY];simp only[aa8,Function.comp,hX,beq_iff_eq];exact⟨λ⟨y,h,e⟩=>e▸h,λh=>⟨z,h,rfl⟩⟩
theorem ig(ns:List Str):(ns.map V.str).all cN=true:=by rw[ab8,abk];intro _ _;rfl
section
variable {P:Program}{w:World}{K:PySem.W.Frag}{mg:Str->Option Value}{base:Heap}
def xX:Sp:=λvs H Q _=>(∃(a:Addr) (ns:List Str) (z:Str),vs=[.ref a,.str z]/\aq K H a (ns.map V.str)/\Q (.bl (decide (z∈ns))) H)\/∃(a:Addr) (x:V) (t:Value),vs=[.ref a,x]/\eT K H x t/\PySem.W.kitOne K t (.type "str")=some false/\Q (.bl false) H
theorem RV:aQ ["places","thing"] ["places","thing"] (ar jb):=⟨rfl,rfl,rfl,by decide +kernel,rfl,by decide +kernel,by decide +kernel⟩
theorem Ec(F:bx K "is_among" "is_among" jb f fd)(T:cm mg):aG P w K mg base aS 1 f fd ["places","thing"] (xX (K:=K)):=by
 refine F.ok RV (λvs H Q E h=>?_) (λcdv A outer s H vs Q E hr h=>?_)
 ·rcases h with⟨a,ns,z,rfl,_⟩|⟨a,x,t,rfl,_⟩<;>rfl
 ·refine⟨_,au (aT (iT (aA (cp (T:="str")) (by rfl) T.e7 aaW (aa (pv 1) (aa (dR (v:=.ty "str") rfl T.str aec rfl) af))) (lV (jS jy (pv 1) (pv 0) rfl)))),?_⟩;rcases h with⟨a,ns,z,rfl,ha,k⟩|⟨a,x,t,rfl,ty,e,k⟩
  ·refine⟨_,rfl,_,_,true,rfl,.str z,rfl,_,rfl,?_⟩;refine b6 ⟨_,rfl,_,rfl,a,_,rfl,.inl ha,rfl,ig ns,?_⟩;rw[j5];exact k
  ·refine⟨_,rfl,x,t,false,rfl,ty,e,_,rfl,?_⟩;exact br k
def Gd:Sp:=λvs H Q _=>∃(a:Addr) (ns:List Str) (t:Addr) (x y:Str),vs=[.ref a,.ref t]/\aq K H a (ns.map V.str)/\H t=some (.tup [.str x,.str y])/\Q (.bl (decide (x∈ns)&&decide (y∈ns))) H
theorem RX:aQ ["places","thing"] ["places","thing"] (ar qR):=⟨rfl,rfl,rfl,by decide +kernel,rfl,by decide +kernel,by decide +kernel⟩
theorem KC(F:bx K "is_tie" "is_tie" qR f fd)(DA:Df K mg "is_among" jb ["places","thing"] fA lL)(T:cm mg):aG P w K mg base aS 2 f fd ["places","thing"] (Gd (K:=K)):=by
 have GA:aG P w K mg base aS 1 fA lL ["places","thing"] (xX (K:=K)):=Ec DA.fn T;refine F.ok RX (λvs H Q E h=>?_) (λcdv A outer s H vs Q E hr h=>?_)
 ·obtain⟨a,ns,t,x,y,rfl,_⟩:=h;rfl
 ·obtain⟨a,ns,t,x,y,rfl,ha,ht,k⟩:=h;refine⟨_,ao (bQ (PW.pt (fg (cq (di (aA (cp (T:="tuple")) (by rfl) T.e7 aaW (aa (pv 1) (aa (dR (v:=.ty "tuple") rfl T.tuple aan rfl) af))) (λ_=>rfl)))
    (dM (aZ kI (aA aN (by rfl) T.len ZW (aa (pv 1) af)) aD (bz _))))) (au (aT dX)) bu)
   (au (aT (iT (aJ GA hr rfl DA.bK DA.fn.kp DA.b .nil aK (aa (pv 0) (aa (bX gx (pv 1) aD (λ_ _=>rfl)) af))) (lV (aJ GA hr rfl DA.bK DA.fn.kp DA.b .nil aK (aa (pv 0) (aa (bX gx (pv 1) aD (λ_ _=>rfl)) af))))))),?_⟩
  try rw[ck]
  refine⟨_,rfl,_,_,true,rfl,.tup ht,rfl,_,rfl,?_⟩;refine br ⟨_,rfl,t,_,rfl,.inr (aO.of ht),rfl,_,rfl,?_⟩;refine br ?_;refine⟨_,rfl,_,rfl,t,_,_,_,rfl,rfl,aO.of ht,cw (j:=0) rfl,.inl ⟨a,ns,x,rfl,ha,_,rfl,?_⟩⟩;refine iA (λe=>?_) (λe=>?_)
  ·refine⟨_,rfl,_,rfl,t,_,_,_,rfl,rfl,aO.of ht,cw (j:=1) rfl,.inl ⟨a,ns,y,rfl,ha,?_⟩⟩;rw[e,ab1] at k;exact k
  ·rw[Bool.eq_false_iff.mpr e,ac2] at k;exact k
def ba(H:Hp):List Addr->List (Str×Str)->Prop:=Paired λt p=>H t=some (.tup [.str p.1,.str p.2])
def jc(ns:List Str)(ps:List (Str×Str)):Prop:=∀p∈ps,p.1∈ns/\p.2∈ns
theorem ba.mono(h:ba H ts ps)(k:∀t xs,H t=some (.tup xs)->H' t=some (.tup xs)):ba H' ts ps:=Paired.gp h λt p e=>k t _ e
theorem ba.same(h:ba H ts ps)(s:av H H'):ba H' ts ps:=h.mono λt xs e=>s t _ e
theorem ba.len(h:ba H ts ps):ts.length=ps.length:=ZG h
theorem ba.get:∀{ts:List Addr} {ps:List (Str×Str)} {i:Nat} {t:Addr},ba H ts ps->ts[i]?=some t->∃p,ps[i]?=some p/\H t=some (.tup [.str p.1,.str p.2])
 |_,_,_,_,.nil,e=>by simp at e
 |_,_,0,_,.cons r _,e=>by simp at e;subst e;exact⟨_,rfl,r⟩
 |_,_,i+1,t,.cons _ h,e=>by obtain⟨p,h1,h2⟩:=ba.get (i:=i) (t:=t) h (by simpa using e);exact⟨p,by simpa using h1,h2⟩
theorem ba.snoc(h:ba H ts ps)(e:H t=some (.tup [.str p.1,.str p.2])):ba H (ts++[t]) (ps++[p]):=aa2 h e
def Br:Sp:=λvs H Q _=>∃(a b:Addr) (ns:List Str) (ts:List Addr) (ps:List (Str×Str)),vs=[.ref a,.ref b]/\H a=some (.lst (ns.map V.str))/\H b=some (.lst (ts.map V.ref))/\ba H ts ps/\jc ns ps/\ps.length<=30/\∀H',av H H'->Q .a8 H'
theorem RY:aQ ["places","ties"] ["places","ties"] (ar m7):=⟨rfl,rfl,rfl,by decide +kernel,rfl,by decide +kernel,by decide +kernel⟩
theorem Ii(F:bx K "check_ties" "check_ties" m7 f fd)(DA:Df K mg "is_among" jb ["places","thing"] fA lL)(DT:Df K mg "is_tie" qR ["places","thing"] fT iD)(T:cm mg):aG P w K mg base aS 3 f fd ["places","ties"] Br:=by
 have GT:aG P w K mg base aS 2 fT iD ["places","thing"] (Gd (K:=K)):=KC DT.fn DA T;refine F.ok RY (λvs H Q E h=>?_) (λcdv A outer s H vs Q E hr h=>?_)
 ·obtain⟨a,b,ns,ts,ps,rfl,_⟩:=h;rfl
 ·obtain⟨a,b,ns,ts,ps,rfl,ha,hb,hT,hI,aP,k⟩:=h;obtain⟨Yg,h30⟩:=T.RS;refine⟨_,ao (bQ (PW.pt (fg (cq (di (aA (cp (T:="list")) (by rfl) T.e7 aaW (aa (pv 1) (aa (dR (v:=.ty "list") rfl T.list aaw rfl) af))) (λ_=>rfl)))
    (dM (aZ ub (aA aN (by rfl) T.len ZW (aa (pv 1) af)) (mW (v:=.int 30) rfl h30 ⟨_,rfl⟩) (bz _))))) (au fq) bu)
   (au (bQ (cq (di (aA (i8 rfl) (by rfl) T.all aep (aa (dw ["tie"] [0] rfl (bA (osc:=(ar m7).names) (N:=["places","ties"]) rfl rfl (by decide +kernel)) (bP (by decide)) (bo (pv 1)) (λ_ _ _=>aE (i:=0) (show(["tie","places"]:List Str).Nodup by decide +kernel) rfl (Or.inl rfl)) (λ_ _ _=>bp)
     (λ_ _ _=>aJ GT hr rfl DT.bK DT.fn.kp DT.b .nil aK (aa (pv 1) (aa (pv 0) af)))) af)) (λ_=>rfl))) (au fq) bu)),?_⟩
  try rw[ck]
  have le:(ts.map V.ref).length=ps.length:=by rw[Zj,hT.len]
  refine⟨_,rfl,_,_,true,rfl,.lst hb,rfl,_,rfl,?_⟩;refine br ⟨_,rfl,b,_,rfl,.inl (aq.of hb),_,_,rfl,rfl,_,rfl,?_⟩;rw[le];refine iA (λz=>absurd z (by simp;omega)) (λ_=>?_);refine⟨_,rfl,b,rfl,⟨_,aq.of hb⟩,cQ (K:=K) (xs:=ts.map V.ref) (λi ys H2=>av H H2/\ys=List.replicate i (V.bl true)) ⟨av.refl _,rfl⟩ ?_ ?_ ?_ ?_⟩
  ·rintro i ys H2 hi ⟨_,rfl⟩;rw[aa'];rw[le] at hi;exact Zu hi (Zu aP (by decide))
  ·rintro i ys H2 _ ⟨s2,_⟩;exact aq.of (s2 _ _ hb)
  ·rintro i x ys H2 R hx ⟨s2,rfl⟩ kR;rw[Zo] at hx;obtain⟨t,et,rfl⟩:=Zp.mp hx;obtain⟨p,ep,ht⟩:=hT.get et;obtain⟨i1,i2⟩:=hI p (Zr ep);simp only[cD,bj,Z7];refine⟨_,rfl,_,rfl,a,ns,t,p.1,p.2,rfl,aq.of (s2 _ _ ha),s2 _ _ ht,?_⟩;rw[decide_eq_true i1,decide_eq_true i2];exact kR _ _ ⟨s2,by rw[abY];rfl⟩
  ·rintro ys H2 ⟨s2,rfl⟩ D hD;have e:List.replicate (ts.map V.ref).length (V.bl true)=(List.replicate (ts.map V.ref).length true).map V.bl:=by simp
   refine⟨D,List.replicate (ts.map V.ref).length true,rfl,(by rw[e];exact aq.of ai),_,rfl,?_⟩;have e2:(List.replicate (ts.map V.ref).length true).all id=true:=by simp
   rw[e2];exact br (k _ (s2.trans (aj hD)))
end
structure WC(K:PySem.W.Frag)(mg:Str->Option Value)(C:Addr):Prop where
 cl:l6 K C
 nP:d8 K C "kept_places"
 nT:d8 K C "kept_ties"
 Ge:mg "Web" = some (.ref C)
def wf(kp kt:Addr):List (Str×V):=[("kept_places",.ref kp),("kept_ties",.ref kt)]
def bN(C:Addr)(H:Hp)(x:Addr)(ns:List Str)(ps:List (Str×Str)):Prop:=
 ∃dx kp kt ts,H x=some (.ins C dx (wf kp kt))/\H kp=some (.tup ((aY ns).map V.str))/\H kt=some (.tup (ts.map V.ref))/\ba H ts ps
theorem bN.same(h:bN C H x ns ps)(s:av H H'):bN C H' x ns ps:=
 let ⟨dx,kp,kt,ts,h1,h2,h3,h4⟩:=h
 ⟨dx,kp,kt,ts,s _ _ h1,s _ _ h2,s _ _ h3,h4.same s⟩
theorem RZ(kp kt:Addr):(wf kp kt).lookup ("kept_places" : Str)=some (V.ref kp):=rfl
theorem KD(kp kt:Addr):(wf kp kt).lookup ("kept_ties" : Str)=some (V.ref kt):=by
 show List.lookup _ (_::_)=_
 rw[Z1,show(("kept_ties" : Str)=="kept_places")=false by decide +kernel];rfl
theorem Ob(kp kt:Addr)(m:Str)(h1:(m==("kept_places" : Str))=false)(h2:(m==("kept_ties" : Str))=false):(wf kp kt).lookup m=none:=by
 show List.lookup _ (_::_)=_
 rw[Z1,h1];show List.lookup _ (_::_)=_
 rw[Z1,h2];rfl
section
variable {P:Program}{w:World}{K:PySem.W.Frag}{mg:Str->Option Value}{base:Heap}
structure Lists(H:Hp)(a b:Addr)(ns:List Str)(ps:List (Str×Str))(ts:List Addr):Prop where
 ha:H a=some (.lst (ns.map V.str))
 hb:H b=some (.lst (ts.map V.ref))
 hT:ba H ts ps
 good:pZ ns
 ins:jc ns ps
 aP:ps.length<=30
theorem Lists.same(h:Lists H a b ns ps ts)(s:av H H'):Lists H' a b ns ps ts:=⟨s _ _ h.ha,s _ _ h.hb,h.hT.same s,h.good,h.ins,h.aP⟩
def u6(C:Addr):Sp:=λvs H Q _=>∃(x a b:Addr) (ns:List Str) (ps:List (Str×Str)) (ts:List Addr),vs=[.ref x,.ref a,.ref b]/\(∃dx,H x=some (.ins C dx []))/\Lists H a b ns ps ts/\∀H',bN C H' x ns ps->cC x H H'->Q .a8 H'
theorem R0:aQ ["self","places","ties"] ["self","places","ties"] (ar pY):=⟨rfl,rfl,rfl,by decide +kernel,rfl,by decide +kernel,by decide +kernel⟩
theorem Ij(F:bx K "__init__" "Web.__init__" pY f fd)(W:WC K mg C)(DN:Df K mg "is_name" kU ["thing"] fN uZ)(DA:Df K mg "is_among" jb ["places","thing"] fA lL)(DT:Df K mg "is_tie" qR ["places","thing"] fT iD)
  (D1:Df K mg "check_places" m6 ["places"] f1 KG) (D2:Df K mg "check_ties" m7 ["places","ties"] f2 KH) (T:cm mg):aG P w K mg base aS 4 f fd ["self","places","ties"] (u6 C):=by
 have G1:aG P w K mg base aS 2 f1 KG ["places"] Bq:=Ih D1.fn DN T;have G2:aG P w K mg base aS 3 f2 KH ["places","ties"] Br:=Ii D2.fn DA DT T;refine F.ok R0 (λvs H Q E h=>?_) (λcdv A outer s H vs Q E hr h=>?_)
 ·obtain⟨x,a,b,ns,ps,ts,rfl,_⟩:=h;rfl
 ·obtain⟨x,a,b,ns,ps,ts,rfl,⟨dx,hx⟩,L,k⟩:=h;refine⟨_,ao (bw (aJ G1 (hr.mono (by decide)) rfl D1.bK D1.fn.kp D1.b .nil aK (aa (pv 1) af)))
   (ao (bw (aJ G2 (hr.mono (by decide)) rfl D2.bK D2.fn.kp D2.b .nil aK (aa (pv 1) (aa (pv 2) af))))
   (ao (l7 (pv 0) (bR bY (by rfl) T.tuple aan (aa (aA jA (by rfl) T.sorted abN (aa (pv 1) af)) af)) rfl)
   (au (l7 (pv 0) (bR bY (by rfl) T.tuple aan (aa (dw ["a","b"] [] rfl (bA (osc:=(ar pY).names) (N:=["self","places","ties"]) rfl rfl (by decide +kernel)) (gC (k:=2) (by decide) (by decide)) (bo (pv 2))
    (λ_ _ _=>cU (n:=2) rfl (aU (aE (i:=0) (show(["a","b"]:List Str).Nodup by decide +kernel) rfl (Or.inl rfl)) (aU (aE (i:=1) (show(["a","b"]:List Str).Nodup by decide +kernel) rfl (Or.inl rfl)) cv))) (λ_ _ _=>bp)
    (λ_ _ _=>bE (aa (pv 0) (aa (pv 1) af)))) af)) rfl)))),?_⟩
  try rw[ck]
  refine⟨_,rfl,a,ns,rfl,L.ha,L.good,λH1 s1=>?_⟩;have L1:=L.same s1;refine⟨_,rfl,_,rfl,a,b,ns,ts,ps,rfl,L1.ha,L1.hb,L1.hT,L1.ins,L1.aP,λH2 s2=>?_⟩;have Uu:=L1.same s2;refine⟨_,rfl,a,ns,rfl,aq.of Uu.ha,Z2 L.good.aP (by decide),λl hl=>?_⟩;refine⟨l,_,rfl,.inl ⟨aq.of ai,λkp Uv=>?_⟩⟩;have s3:av H2 (upd (upd H2 l (.lst ((aY ns).map V.str))) kp (.tup ((aY ns).map V.str))):=(aj hl).trans (aj Uv);have s03:=(s1.trans s2).trans s3;have Ed:=ai (H:=upd H2 l (.lst ((aY ns).map V.str))) (a:=kp) (o:=.tup ((aY ns).map V.str));generalize upd (upd H2 l (.lst ((aY ns).map V.str))) kp (.tup ((aY ns).map V.str))=H3 at s3 s03 Ed⊢;have Bs:=s03 _ _ hx;refine⟨_,rfl,x,C,dx,_,rfl,Bs,W.cl,W.nP,(by show 0<1000;decide),?_⟩;have L3:=L.same s03;have Uw:a≠x:=cg L3.ha Bs (by intro z;cases z);have Ux:b≠x:=cg L3.hb Bs (by intro z;cases z);have Uy:kp≠x:=cg Ed Bs (by intro z;cases z);have L4:Lists (upd H3 x (.ins C dx (bU "kept_places" (.ref kp) []))) a b ns ps ts:=⟨by rw[ak Uw];exact L3.ha,by rw[ak Ux];exact L3.hb,L3.hT.mono λt xs e=>by rw[ak (cg e Bs (by intro z;cases z))];exact e,L.good,L.ins,L.aP⟩
  have b4:cC x H (upd H3 x (.ins C dx (bU "kept_places" (.ref kp) []))):=λc o e n=>by rw[ak n];exact s03 _ _ e
  have Pw:=ai (H:=H3) (a:=x) (o:=.ins C dx (bU "kept_places" (.ref kp) []));have Ee:(upd H3 x (.ins C dx (bU "kept_places" (.ref kp) []))) kp=some (.tup ((aY ns).map V.str)):=by rw[ak Uy];exact Ed
  generalize upd H3 x (.ins C dx (bU "kept_places" (.ref kp) []))=H4 at L4 b4 Pw Ee⊢;have le:(ts.map V.ref).length=ps.length:=by rw[Zj,L.hT.len]
  refine⟨_,rfl,b,rfl,⟨_,aq.of L4.hb⟩,cQ (K:=K) (xs:=ts.map V.ref) (λi ys H5=>av H4 H5/\∃us:List Addr,ys=us.map V.ref/\us.length=i/\ba H5 us (ps.take i)) ⟨av.refl _,[],rfl,rfl,.nil⟩ ?_ ?_ ?_ ?_⟩
  ·rintro i ys H5 hi ⟨_,us,rfl,e,_⟩;rw[Zj,e];rw[le] at hi;exact Zu hi (Zu L.aP (by decide))
  ·rintro i ys H5 _ ⟨s5,_⟩;exact aq.of (s5 _ _ L4.hb)
  ·rintro i y ys H5 R hy ⟨s5,us,rfl,e,hU⟩ kR;rw[Zo] at hy;obtain⟨t,et,rfl⟩:=Zp.mp hy;obtain⟨p,ep,ht⟩:=L4.hT.get et;refine⟨t,_,rfl,aO.of (s5 _ _ ht),rfl,_,_,rfl,_,_,rfl,rfl,?_⟩;simp only[cD,Z7];refine⟨_,rfl,_,rfl,(by show 2<=sizeLine;decide),λu hu=>?_⟩;have e2:us.map V.ref++[V.ref u]=(us++[u]).map V.ref:=by simp
   refine kR _ _ ⟨s5.trans (aj hu),us++[u],e2,by simp[e],?_⟩;rw[ZO,ep];exact(hU.same (aj hu)).snoc ai
  ·rintro ys H5 ⟨s5,us,rfl,e,hU⟩ D hD;rw[le,aab (Zn _)] at hU;refine⟨D,_,rfl,.inl ⟨aq.of ai,λkt Px=>?_⟩⟩;have s6:av H4 (upd (upd H5 D (.lst (us.map V.ref))) kt (.tup (us.map V.ref))):=s5.trans ((aj hD).trans (aj Px));have Py:=hU.same ((aj (o:=.lst (us.map V.ref)) hD).trans (aj (o:=.tup (us.map V.ref)) Px));have Ef:=ai (H:=upd H5 D (.lst (us.map V.ref))) (a:=kt) (o:=.tup (us.map V.ref));generalize upd (upd H5 D (.lst (us.map V.ref))) kt (.tup (us.map V.ref))=H6 at s6 Py Ef⊢;have Gf:=s6 _ _ Pw;refine⟨_,rfl,x,C,dx,_,rfl,Gf,W.cl,W.nT,(by show 1<1000;decide),?_⟩;refine k _ ⟨dx,kp,kt,us,?_,?_,?_,?_⟩ λc o e n=>?_
   ·rw[ai];show some (HO.ins C dx (bU "kept_ties" (.ref kt) (bU "kept_places" (.ref kp) [])))=_
    rfl
   ·rw[ak (cg (s6 _ _ Ee) Gf (by intro z;cases z))];exact s6 _ _ Ee
   ·rw[ak (cg Ef Gf (by intro z;cases z))];exact Ef
   ·exact Py.mono λt xs e=>by rw[ak (cg e Gf (by intro z;cases z))];exact e
   ·rw[ak n];exact s6 _ _ (b4 c o e n)
def u7(C:Addr):Sp:=λvs H Q _=>∃(x:Addr) (ns:List Str) (ps:List (Str×Str)),vs=[.ref x]/\bN C H x ns ps/\∀l,H l=none->Q (.ref l) (upd H l (.lst ((aY ns).map V.str)))
theorem R3:aQ ["self"] ["self"] (ar m9):=⟨rfl,rfl,rfl,by decide +kernel,rfl,by decide +kernel,by decide +kernel⟩
theorem jC(F:bx K "places" "Web.places" m9 f fd)(W:WC K mg C)(T:cm mg):aG P w K mg base aS 1 f fd ["self"] (u7 C):=by
 refine F.ok R3 (λvs H Q E h=>?_) (λcdv A outer s H vs Q E hr h=>?_)
 ·obtain⟨x,ns,ps,rfl,_⟩:=h;rfl
 ·obtain⟨x,ns,ps,rfl,⟨dx,kp,kt,ts,h1,h2,h3,h4⟩,k⟩:=h;refine⟨_,au (aT (bR dB (by rfl) T.list aaw (aa (jT (pv 0) rfl) af))),?_⟩;try rw[ck]
  exact⟨_,rfl,x,C,dx,_,_,rfl,h1,W.cl,W.nP,RZ kp kt,kp,_,rfl,.inr (aO.of h2),k⟩
def zL(C:Addr):Sp:=λvs H Q _=>∃(x:Addr) (ns:List Str) (ps:List (Str×Str)),vs=[.ref x]/\bN C H x ns ps/\∀l us,H l=none->ba H us ps->Q (.ref l) (upd H l (.lst (us.map V.ref)))
theorem R4:aQ ["self"] ["self"] (ar uh):=⟨rfl,rfl,rfl,by decide +kernel,rfl,by decide +kernel,by decide +kernel⟩
theorem qS(F:bx K "ties" "Web.ties" uh f fd)(W:WC K mg C)(T:cm mg):aG P w K mg base aS 1 f fd ["self"] (zL C):=by
 refine F.ok R4 (λvs H Q E h=>?_) (λcdv A outer s H vs Q E hr h=>?_)
 ·obtain⟨x,ns,ps,rfl,_⟩:=h;rfl
 ·obtain⟨x,ns,ps,rfl,⟨dx,kp,kt,ts,h1,h2,h3,h4⟩,k⟩:=h;refine⟨_,au (aT (bR dB (by rfl) T.list aaw (aa (jT (pv 0) rfl) af))),?_⟩;try rw[ck]
  exact⟨_,rfl,x,C,dx,_,_,rfl,h1,W.cl,W.nT,KD kp kt,kt,_,rfl,.inr (aO.of h3),λl hl=>k l ts hl h4⟩
def zM(C:Addr):Sp:=λvs H Q _=>∃(x:Addr) (ns:List Str) (ps:List (Str×Str)),vs=[.ref x]/\bN C H x ns ps/\Q (.int ps.length) H
theorem R6:aQ ["self"] ["self"] (ar ug):=⟨rfl,rfl,rfl,by decide +kernel,rfl,by decide +kernel,by decide +kernel⟩
theorem qT(F:bx K "many" "Web.many" ug f fd)(W:WC K mg C)(T:cm mg):aG P w K mg base aS 1 f fd ["self"] (zM C):=by
 refine F.ok R6 (λvs H Q E h=>?_) (λcdv A outer s H vs Q E hr h=>?_)
 ·obtain⟨x,ns,ps,rfl,_⟩:=h;rfl
 ·obtain⟨x,ns,ps,rfl,⟨dx,kp,kt,ts,h1,h2,h3,h4⟩,k⟩:=h;refine⟨_,au (aT (aA aN (by rfl) T.len ZW (aa (jT (pv 0) rfl) af))),?_⟩;try rw[ck]
  refine⟨_,rfl,x,C,dx,_,_,rfl,h1,W.cl,W.nT,KD kp kt,kt,_,rfl,.inr (aO.of h3),?_⟩;rw[Zj,h4.len];exact k
end
end cM
namespace L2
open PySem PySem.Spec PyProof.Rows
theorem KI(Pv:Nat->List V->Hp->Prop)(h0:Pv 0 [] H)(hlen:∀i ys H,i<=z.cps.size->Pv i ys H->ys.length<=sizeLine)
  (hs:∀i c ys H (R:List V->Hp->Prop),z.cps[i]?=some c->Pv i ys H->(∀cB H',Pv (i+1) cB H'->R cB H')->g (.str ⟨#[c]⟩) (cI own fr σ) H λσ4 H4=>tt σ4 H4 λb H5=>if b=true then te σ4 H5 λy H6=>R (ys++[y]) H6 else R ys H5)
  (hd:∀ys H,Pv z.cps.size ys H->∀D,H D=none->Q (.ref D) (upd H D (.lst ys))):dE own fr g tt te σ Q (Gb z) H:=by
 refine⟨λi m ys H=>m=z.cps.size-i/\i<=z.cps.size/\Pv i ys H,⟨z.cps.size,rfl,ZE _,h0⟩,?_⟩;rintro i m ys H2 ⟨rfl,hi,p⟩;refine⟨hlen i ys H2 hi p,?_⟩;by_cases h:i<z.cps.size
 ·refine .inr ⟨h,λx H3 hy=>?_⟩;obtain⟨rfl,c,hc,rfl⟩:=hy;exact hs i c ys _ (λcB H'=>∃m',m'<z.cps.size-i/\(m'=z.cps.size-(i+1)/\i+1<=z.cps.size/\Pv (i+1) cB H')) hc p λcB H' q=>⟨z.cps.size-(i+1),by omega,rfl,h,q⟩
 ·have e:i=z.cps.size:=by omega
  subst e;exact .inl ⟨rfl,hd ys H2 p⟩
abbrev one(c:Nat):Str:=⟨#[c]⟩
theorem sO:∀(cs:List Nat) (acc:Array Nat),((cs.map one).foldl (λacc p=>acc++("" : Str).cps++p.cps) acc).toList=acc.toList++cs
 |[],acc=>by simp
 |c::cs,acc=>by
  have e:("" : Str).cps=#[]:=by decide +kernel
  rw[ZI,acQ,sO cs,e];simp
theorem join_ones(h:cs≠[]):(Txt.join "" (cs.map one)).cps.toList=cs:=by
 cases cs with
 |nil=>exact absurd rfl h
 |cons c r=>
  show((r.map one).foldl (λacc p=>acc++("" : Str).cps++p.cps) (one c).cps).toList=_
  rw[sO];rfl
theorem Ik(h:iV xs i=some v):v∈xs:=by unfold iV at h;obtain⟨j,_,e⟩:=Option.bind_eq_some_iff.mp h;exact Zr e
theorem Bt:∀(l m:List Str),l.Nodup->(∀x∈l,x∈m)->l.length<=m.length
 |[],m,_,_=>ZE _
 |x::l,m,nd,h=>by
  rw[ZT] at nd;have hx:=h x Zy;have q:=Bt l (m.erase x) nd.2 λy hy=>(acR (λe:y=x=>nd.1 (e▸hy))).mpr (h y (ZC _ hy));rw[ab9 hx] at q
  have:0<m.length:=abm hx
  simp only[Zz];omega
end L2
namespace cM
open PySem PySem.Spec PyProof.Rows L2
abbrev gh:Str:="abcdefghijklmnopqrstuvwxyz"
theorem u9:gh.cps.size=26:=by decide +kernel
theorem Bu:∀c∈gh.cps.toList,(lo c&&hi c)=true:=by decide +kernel
theorem KJ:(gh.cps.toList.map one).Nodup:=by decide +kernel
theorem KL(h:(lo c&&hi c)=true):nm (one c)=true:=by
 show((decide (1<=1)&&decide (1<=8))&&([c].map λc=>lo c&&hi c).all id)=true
 simp[h]
theorem Oc(e:z.cps.toList=cs)(h1:1<=cs.length)(h8:cs.length<=8)(h:∀c∈cs,(lo c&&hi c)=true):nm z=true:=by
 have l:z.length=cs.length:=by rw[<-e];exact Z9.symm
 unfold nm;rw[l,decide_eq_true h1,decide_eq_true h8,e];simp only[Bool.and_self,ab1,ab8,abk];exact λc hc=>h c hc
section
theorem Row.lst{H:Hp}{p:Addr}(h:Row H p):∃xs,H p=some (.lst xs):=let ⟨a,b,e⟩:=h;⟨_,e⟩
theorem Row.ak(h:Row H p)(n:p≠q):Row (upd H q o) p:=let ⟨a,b,e⟩:=h;⟨a,b,by rw[L2.ak n];exact e⟩
theorem cC.bS(a:cC p H H1)(hq:H q=none):cC p H (upd H1 q o):=λc u e n=>by rw[L2.ak (aw e hq)];exact a c u e n
end
abbrev va:Stmt:=top 38 -- R7
abbrev iG:Stmt:=top 39 -- Pz
abbrev jd:Stmt:=top 40 -- Od
theorem low(n:Nat)(hr:cT k A)(h:n<=63:=by decide):A.units+n+1<cLine:=by have:=hr.units;omega
theorem av.bS(s:av H H1)(hq:H q=none):av H (upd H1 q o):=λb u e=>by rw[L2.ak (aw e hq)];exact s b u e
theorem av.but(s:av H H1)(b:cC p H1 H2)(hp:H p=none):av H H2:=λc u e=>b c u (s c u e) (aw e hp)
theorem cC.none(b:cC p H H')(ht:H' t=none)(n:t≠p):H t=none:=by
 cases e:H t with
 |none=>rfl
 |some o=>exact absurd (b _ _ e n) (by rw[ht];intro z;cases z)
section
variable {P:Program}{w:World}{K:PySem.W.Frag}{mg:Str->Option Value}{base:Heap}
def Gg:Sp:=λvs H Q _=>∃(a:Addr) (ns:List Int) (k:Nat),vs=[.ref a,.int k]/\aq K H a (ns.map V.int)/\ns.length<=63/\∀(p:Addr) (H':Hp),H p=none->Row H' p->av H H'->Q (.ref p) H'
abbrev Uz:List Str:=["_law_script","_law_k","_law_cell"]
theorem KN:aQ Uz ["_law_script","_law_k"] (ar va):=⟨rfl,rfl,rfl,by decide +kernel,rfl,by decide +kernel,by decide +kernel⟩
theorem xY{H:Hp}{Q:VK}(k:∀(p:Addr) (H':Hp),H p=none->Row H' p->av H H'->Q (.ref p) H')(a b:Int)(p:Addr)(hp:H p=none):Q (.ref p) (upd H p (.lst [.int a,.int b])):=
 k p _ hp ⟨a,b,ai⟩ λc o e=>by rw[ak (aw e hp)];exact e
theorem KO{f:Addr}{fd:FuncData}(F:bx K "_law_pot" "_law_pot" va f fd)(T:cm mg)(ab:mg "abs" = none):aG P w K mg base aS 1 f fd ["_law_script","_law_k"] (Gg (K:=K)):=by
 refine F.ok KN (λvs H Q E h=>?_) (λcdv A outer s H vs Q E hr h=>?_)
 ·obtain⟨a,ns,k,rfl,_⟩:=h;rfl
 ·obtain⟨a,ns,n,rfl,hS,hl,k⟩:=h;refine⟨_,ao (aR (i:=2) KN.nd rfl (Or.inl rfl) (kG (aZ pH (pv 1) (aA aN (by rfl) T.len ZW (aa (pv 0) af)) (bz _)) (bX cJ (pv 0) (pv 1) (λ_ _=>rfl)) aD))
   (au (aT (bV (aa (aA (rW rfl) (by rfl) T.max boot_max (aa aD (aa (bc hJ (aA uE (by rfl) ab aed (aa (pv 2) af)) (bc JV aD aD)) af)))
    (aa (bc jR (bc c6 (bc c6 (bc lY (bc jR (aA uE (by rfl) ab aed (aa (pv 2) af)) aD) aD) (bc lY aD (pv 1))) aD) aD) af))))),?_⟩
  try rw[ck]
  refine⟨_,rfl,_,rfl,a,_,rfl,.inl hS,_,_,rfl,rfl,_,rfl,?_⟩;refine iA (λhlt=>?_) (λhlt=>?_)
  ·have R9:n<ns.length:=by simpa using hlt
   refine⟨_,rfl,_,rfl,a,_,_,_,rfl,rfl,hS,cw (j:=n) (v:=.int ns[n]) (by simp[R9]),?_⟩;refine⟨_,rfl,_,rfl,_,_,rfl,rfl,⟨by decide,by decide,by decide⟩,_,_,rfl,rfl,_,_,rfl,?_⟩;refine⟨_,rfl,_,rfl,_,_,rfl,rfl,(by show(0:Int)<2147483587;decide),_,_,rfl,rfl,.inr ⟨by decide,by decide⟩,_,rfl,_,_,rfl,rfl,.inl ⟨by decide,by decide⟩,_,_,rfl,rfl,_,_,rfl,rfl,_,_,rfl,rfl,(by show(0:Int)<2147483629;decide),?_⟩;exact⟨(by show 2<=sizeLine;decide),xY k _ _⟩
  ·refine⟨_,rfl,_,rfl,_,_,rfl,rfl,⟨by decide,by decide,by decide⟩,_,_,rfl,rfl,_,_,rfl,?_⟩;refine⟨_,rfl,_,rfl,_,_,rfl,rfl,(by show(0:Int)<2147483587;decide),_,_,rfl,rfl,.inr ⟨by decide,by decide⟩,_,rfl,_,_,rfl,rfl,.inl ⟨by decide,by decide⟩,_,_,rfl,rfl,_,_,rfl,rfl,_,_,rfl,rfl,(by show(0:Int)<2147483629;decide),?_⟩;exact⟨(by show 2<=sizeLine;decide),xY k _ _⟩
abbrev UA:List Str:=["_law_pot_here","_law_many","_law_digit"]
theorem KP:aQ UA ["_law_pot_here","_law_many"] (ar iG):=⟨rfl,rfl,rfl,by decide +kernel,rfl,by decide +kernel,by decide +kernel⟩
theorem j6(F:bx K "_law_take" "_law_take" iG f fd)(T:cm mg):aG P w K mg base aS 1 f fd ["_law_pot_here","_law_many"] j0:=by
 refine F.ok KP (λvs H Q E h=>?_) (λcdv A outer s H vs Q E hr h=>?_)
 ·obtain⟨p,m,rfl,_⟩:=h;rfl
 ·obtain⟨p,m,rfl,⟨a,b,hp⟩,m0,m1,k⟩:=h;refine⟨_,ao (bQ (aZ ub (bX cJ (pv 0) aD (λ_ _=>rfl)) aD (bz _))
   (ao (pC (aA uY (by rfl) T.divmod af4 (aa (bX cJ (pv 0) aD (λ_ _=>rfl)) (aa (pv 1) af)))
    (cU rfl (aU (AM (pv 0) aD set_list) (aU (aE (i:=2) KP.nd rfl (Or.inl rfl)) cv)))) (au (aT (pv 2)))) bu)
   (ao (pC (bc jR (bc c6 (bc lY (bX cJ (pv 0) aD (λ_ _=>rfl)) aD) aD) aD) (AM (pv 0) aD set_list))
   (au (aT (bc jR (bc xG (bc jR (bc lY (bX cJ (pv 0) aD (λ_ _=>rfl)) (bX cJ (pv 0) aD (λ_ _=>rfl))) aD) aD) (pv 1))))),?_⟩
  try rw[ck]
  refine⟨_,rfl,p,_,_,_,rfl,rfl,aq.of hp,cw (j:=0) rfl,?_⟩;refine⟨_,_,rfl,rfl,_,rfl,?_⟩;refine iA (λha=>?_) (λha=>?_)
  ·refine⟨_,rfl,p,_,_,_,rfl,rfl,aq.of hp,cw (j:=0) rfl,_,rfl,a,m,rfl,m0,m1,λt ht=>?_⟩;have UB:p≠t:=aw hp ht;refine⟨t,_,rfl,aO.of ai,rfl,_,_,rfl,_,rfl,p,_,_,0,rfl,rfl,(by rw[ak UB];exact hp),rfl,?_⟩;refine⟨_,_,rfl,rfl,_,rfl,?_⟩;refine k _ _ (acS _ (by omega)) (ab' _ m0) ⟨_,_,ai⟩ λc o e hc=>?_;rw[ak hc,ak (aw e ht)];exact e
  ·refine⟨_,rfl,p,_,_,_,rfl,rfl,aq.of hp,cw (j:=1) rfl,_,_,rfl,rfl,.inr ⟨by decide,by decide⟩,_,_,rfl,rfl,_,_,rfl,rfl,(by show(0:Int)<2147483629;decide),?_⟩;refine⟨_,rfl,p,_,_,1,rfl,rfl,hp,rfl,?_⟩;have c1:0<=(b*39373+9973) % 2147483629:=acS _ (by decide);have c2:(b*39373+9973) % 2147483629<2147483629:=ab' _ (by decide);generalize (b*39373+9973) % 2147483629=c at c1 c2⊢;refine⟨_,rfl,p,_,_,_,rfl,rfl,aq.of ai,cw (j:=1) rfl,_,rfl,p,_,_,_,rfl,rfl,aq.of ai,cw (j:=1) rfl,_,_,rfl,rfl,.inl ⟨by omega,by omega⟩,_,_,rfl,rfl,(by show(0:Int)<2147483563;decide),_,_,rfl,rfl,⟨by decide,by decide⟩,_,rfl,_,_,rfl,rfl,m0,?_⟩;refine k _ _ (acS _ (by omega)) (ab' _ m0) ⟨_,_,ai⟩ λc o e hc=>?_;rw[ak hc];exact e
end
end cM
namespace L2
open PySem PySem.Spec PyProof.Rows
theorem vc:∀{us:List Value} {zs:List Str},us.length=zs.length->(∀(j:Nat) (u:Value),us[j]?=some u->∃z t,zs[j]?=some z/\u=.str z t)->StrsAre us zs
 |[],[],_,_=>.nil
 |[],_::_,h,_=>by simp at h
 |_::_,[],h,_=>by simp at h
 |u::us,z::zs,h,k=>by obtain⟨z',t,e1,e2⟩:=k 0 u rfl;cases e1;subst e2;exact .cons z t (vc (by simpa using h) λj w e=>by simpa using k (j+1) w (by simpa using e))
section
variable {prog:Program}{w:World}{A:Around}{E:Value->Shared->Prop}{s:Shared}
theorem Bv{h:Heap}{tk:Nat}{us:List Value}{zs:List Str}{Q:Value->Shared->Prop}(hz:StrsAre us zs)(aP:us.length<64)
  (q:∀(out:List Value) (n:Nat) (h2:Heap),StrsAre out (aY zs)->(∀b o,h.get? b=some o->h2.get? b=some o)->h2.get? h.objs.size=some {cls:=.type "list",data:=.seq out.toArray n}->Q (.ref h.objs.size) {s with heap:=h2,toks:=tk}) :
  wpAny (model prog w) A (call (.builtin "list.sort") [.ref h.objs.size]) (λ_ s'=>Q (.ref h.objs.size) s') E {s with heap:=h.push {cls:=.type "list",data:=.seq us.toArray},toks:=tk}:=by
 have my:(h.push {cls:=.type "list",data:=.seq us.toArray}).get? h.objs.size=some (seqObj "list" us.toArray 0):=Zw _ rfl;refine wpAny_call_entry acu ⟨_,my,rfl⟩ aci ?_ (args_list_sort _);refine list_sort_treeK strKind_oneLt my hz.keysOf (λa b r e=>keyKind_strs (by rw[<-e];exact hz)) aP λst p1 p2=>⟨_,rfl,?_⟩
 obtain⟨ss,c1,c2,c3⟩:=sorted_out_str hz p1 p2;have e:=pX c2 (sN ss c3);subst e;obtain⟨n,hn⟩:=sortedHeap_at (out:=(arrOf st).map (·.2)) my;refine q _ n _ c1 (λb o eb=>?_) (by rw[hn]);have lt:b<h.objs.size:=Zx eb;rw[sortedHeap_old (ZQ lt) (by rw[Z'];exact abj lt)];exact Zl _ eb
end
theorem Inv.ui(I:Inv X pins σ H s)(k:∀b u,s.heap.get? b=some u->h'.get? b=some u)(hp:s.heap.get? a=none)(hn:H a=none)(new:bg X.prog X.w (upd H a o) h' a o) :
  Inv X pins σ (upd H a o) {s with heap:=h',toks:=t' }:=by
 refine I.un ⟨λb u q _ _ _=>k b u q,λb u q _ _ _=>⟨u.slots,k b u q⟩,λb u q n _=>?_,λb u q _=>⟨u,k b u q⟩,λb xs q=>?_,λb u xs q=>?_,λb ps q=>⟨#[],?_⟩⟩ λb u e=>?_
 ·rw[ak (λz=>by rw[z,hp] at q;cases q)];exact n
 ·rw[ak (aw q hn)];exact q
 ·rw[ak (aw q hn)];exact q
 ·rw[ak (aw q hn),q];simp
 ·by_cases hb:b=a
  ·subst hb;rw[ai] at e;cases e;exact new
  ·rw[ak hb] at e;refine(I.aL b u e).iw (λc v _ q=>k c v q) (λc q=>?_) λc xs q=>?_
   ·rw[ak (aw q hn)];exact q
   ·rw[ak (aw q hn)];exact q
def Eg(kvs:List (Key×V))(zs:List Str):Prop:=kvs.map (·.1)=zs.map Sum.inr
section
theorem qU(hc:X.calm=true):cG X (.builtin "sorted") (λxs H Q=>∃(p:Addr) (kvs:List (Key×V)) (zs:List Str),xs=[.ref p]/\H p=some (.dK kvs)/\Eg kvs zs/\zs.length<64/\∀l,H l=none->Q (.ref l) (upd H l (.lst ((aY zs).map V.str)))):=by
 rintro pins s σ H xs us Q I r ⟨p,kvs,zs,rfl,hp,hk,aP,q⟩;obtain⟨u,rfl,rx⟩:=vals1 r;cases rx;obtain⟨z,lo,vs,rel,dd⟩:=zE I.aL hp;obtain⟨ep,da⟩:=dd.dictAt;have hl:vs.length=zs.length:=by rw[<-rel.length,<-Zj (f:=(·.1)),hk,Zj]
 refine aaX ac5 acT acU (args_sorted1 _) ?_;unfold Builtin.«sorted»;apply wpAny_bind (m:=checkCount "sorted" 1 1 _);apply wpAny_pure;apply wpAny_bind;refine aey (PySem.W.kdl_dict (knd:=aW X.prog X.w) (kvs:=vs) (ep:=ep) lo) (A:=X.A.in1) (by exact I.ok.hd hc) da (by rw[hl];exact Zu (aag aP) (by decide)) λh1 tk acc keep items=>?_;have la:acc.toList.length=zs.length:=by rw[Z9,items.1,hl]
 have txt:StrsAre acc.toList zs:=vc la λj u e=>by
  obtain⟨k,x,e1,e2⟩:=items.2 j u (by rw[<-aae];exact e);have e3:(vs.map (·.1))[j]?=some k:=by rw[Zo,e1];rfl
  rw[<-rel.keys,hk,Zo] at e3;obtain⟨z',e4,rfl⟩:=Zp.mp e3;have nM:kA (Sum.inr z') u=true:=e2;obtain⟨i,t,q1,q2⟩|⟨y,t,q1,q2⟩:=cn nM
  ·cases q1
  ·cases q1;exact⟨z',t,e4,q2⟩
 apply wpAny_bind;refine wpAny_newList ?_ (by rw[la];exact Zu (aag aP) (by decide));apply wpAny_bind;apply wpAny_holding;refine wpAny_mono (Bv (prog:=X.prog) (w:=X.w) (s:=s) (h:=h1) (tk:=tk) (Q:=EP X pins σ Q) txt (by rw[la];exact aP) λout n h2 o1 o2 o3=>?_) (λ_ _ z=>wpAny_pure ⟨_,rfl,z⟩) λ_ _ z=>z;have no:s.heap.get? h1.objs.size=none:=by
  cases e:s.heap.get? h1.objs.size with
  |none=>rfl
  |some o=>exact absurd (Zx (keep _ _ e)) (ZX _)
 have mz:H h1.objs.size=none:=by
  cases e:H h1.objs.size with
  |none=>rfl
  |some o =>obtain⟨u,eu⟩:=(I.aL _ _ e).there;rw[no] at eu;cases eu
 refine⟨.ref h1.objs.size,_,I.ui (t':=tk) (o:=.lst ((aY zs).map V.str)) (λb o e=>o2 _ _ (keep _ _ e)) no mz ?_,rfl,q _ mz⟩;refine⟨by rw[Zj,gg];exact Zu (aag aP) (by decide),out,n,xT o1,o3⟩
end
section
def KQ(K:PySem.W.Frag):R2:=λx y H Q=>∃p q xs ys,x=.ref p/\y=.ref q/\aq K H p xs/\aq K H q ys/\xs.length≠ys.length/\Q (.bl true) H
theorem Bw(hu:X.A.units+1<cLine):cL X (compareOp .NotEq) (KQ X.K):=by rintro pins s σ H x y v u Q I rx ry ⟨p,q,xs,ys,rfl,rfl,hp,hq,ne,fin⟩;cases rx;cases ry;obtain⟨is,ri,pi,_⟩:=I.list hp;obtain⟨js,rj,pj,_⟩:=I.list hq;refine aaZ (ade pi.isList pj.isList ?_ (by omega)) (aX I fin rfl);simp only[Zt,bne_iff_ne];rw[<-ri.length,<-rj.length];exact ne
end
def dU:List V->List V->Bool
 |[],[]=>true
 |x::xs,y::ys=>hX x y&&dU xs ys
 |_,_=>false
theorem gR:∀{xs ys:List V},xs.length≠ys.length->dU xs ys=false
 |[],[],h=>absurd rfl h
 |[],_::_,_=>rfl
 |_::_,[],_=>rfl
 |x::xs,y::ys,h=>by unfold dU;rw[gR (by simpa using h),aby]
theorem gS:∀{xs ys:List V},xs.length=ys.length->dU xs ys=(List.range xs.length).all λj=>hX (xs.getD j .a8) (ys.getD j .a8)
 |[],[],_=>rfl
 |[],_::_,h=>by simp at h
 |_::_,[],h=>by simp at h
 |x::xs,y::ys,h=>by unfold dU;rw[gS (by simpa using h),Zz,acs,abE,ab8];rfl
theorem vd:∀(xs ys:List Int),dU (xs.map V.int) (ys.map V.int)=decide (xs=ys)
 |[],[]=>rfl
 |[],_::_=>rfl
 |_::_,[]=>rfl
 |x::xs,y::ys=>by
  rw[ZI,ZI];unfold dU;rw[vd xs ys];by_cases h:x=y
  ·subst h;simp[hX]
  ·simp[hX,h]
section
theorem je(fx:xs.all cN=true)(fy:ys.all cN=true)(ri:Vals xs is)(rj:Vals ys js) :
  ∀j (h1:j<is.toArray.size) (h2:j<js.toArray.size),SeqAt.EqAt A s is.toArray[j] js.toArray[j] (hX (xs.getD j .a8) (ys.getD j .a8)):=λj h1 h2=>by
 have b1:j<xs.length:=by rw[ri.length];simpa using h1
 have b2:j<ys.length:=by rw[rj.length];simpa using h2
 obtain⟨u',e1,r1⟩:=ri.get (Zk b1);obtain⟨v',e2,r2⟩:=rj.get (Zk b2);have c1:is.toArray[j]=u':=by
  rw[abg]
  have:=Zk (l:=is) (i:=j) (by simpa using h1)
  rw[this] at e1;exact ZH e1
 have c2:js.toArray[j]=v':=by
  rw[abg]
  have:=Zk (l:=js) (i:=j) (by simpa using h2)
  rw[this] at e2;exact ZH e2
 have d1:xs.getD j .a8=xs[j]:=by simp[List.getD,Zk b1]
 have d2:ys.getD j .a8=ys[j]:=by simp[List.getD,Zk b2]
 rw[c1,c2,d1,d2];exact pO r1 r2 (abk.mp fx _ (abl b1)) (abk.mp fy _ (abl b2))
end
section
def Eh(K:PySem.W.Frag)(neg:Bool):R2:=λx y H Q=>∃p q xs ys,x=.ref p/\y=.ref q/\((aq K H p xs/\aq K H q ys)\/(aO K H p xs/\aO K H q ys))/\xs.all cN=true/\ys.all cN=true/\Q (.bl (if neg then !dU xs ys else dU xs ys)) H
theorem qV{a b:Nat}(h:a=b):min a b=a:=by omega
theorem p9(hu:X.A.units+1<cLine):cL X (compareOp .Eq) (Eh X.K false):=by
 rintro pins s σ H x y v u Q I rx ry ⟨p,q,xs,ys,rfl,rfl,h,fx,fy,fin⟩;cases rx;cases ry;rcases h with⟨hp,hq⟩|⟨hp,hq⟩
 ·obtain⟨is,ri,pi,_⟩:=I.list hp;obtain⟨js,rj,pj,_⟩:=I.list hq;by_cases el:xs.length=ys.length
  ·refine afp pi.isList pj.isList (by simp only[Zt];rw[<-ri.length,<-rj.length];exact el) (by omega) (je fx fy ri rj) ?_;refine aX I fin ?_;rw[Zt,<-ri.length];exact gS el
  ·refine adJ pi.isList pj.isList ?_ (by omega) (aX I fin ?_)
   ·simp only[Zt,bne_iff_ne];rw[<-ri.length,<-rj.length];exact el
   ·exact gR el
 ·obtain⟨is,ri,pi,_⟩:=I.tuple hp;obtain⟨js,rj,pj,_⟩:=I.tuple hq;refine afe pi pj (by omega) (je fx fy ri rj) ?_;refine aX I fin ?_;simp only[Zt];rw[<-ri.length,<-rj.length];by_cases el:xs.length=ys.length
  ·rw[qV el,<-gS el];simp[el]
  ·have:(xs.length==ys.length)=false:=by simpa using el
   rw[this,aby];exact gR el
theorem kX(hu:X.A.units+1<cLine):cL X (compareOp .NotEq) (Eh X.K true):=by
 rintro pins s σ H x y v u Q I rx ry ⟨p,q,xs,ys,rfl,rfl,h,fx,fy,fin⟩;cases rx;cases ry;rcases h with⟨hp,hq⟩|⟨hp,hq⟩
 ·obtain⟨is,ri,pi,_⟩:=I.list hp;obtain⟨js,rj,pj,_⟩:=I.list hq;by_cases el:xs.length=ys.length
  ·refine aaZ (aeQ pi.isList pj.isList (by simp only[Zt];rw[<-ri.length,<-rj.length];exact el) (by omega) (je fx fy ri rj)) ?_;refine aX I fin ?_;rw[Zt,<-ri.length,<-gS el];rfl
  ·refine aaZ (ade pi.isList pj.isList ?_ (by omega)) (aX I fin ?_)
   ·simp only[Zt,bne_iff_ne];rw[<-ri.length,<-rj.length];exact el
   ·rw[if_pos rfl,gR el];rfl
 ·obtain⟨is,ri,pi,_⟩:=I.tuple hp;obtain⟨js,rj,pj,_⟩:=I.tuple hq;refine aaZ (aex pi pj (by omega) (je fx fy ri rj)) ?_;refine aX I fin ?_;simp only[Zt];rw[<-ri.length,<-rj.length];by_cases el:xs.length=ys.length
  ·rw[qV el,<-gS el];simp[el]
  ·have:(xs.length==ys.length)=false:=by simpa using el
   rw[this,aby,if_pos trivial,gR el]
def KR(K:PySem.W.Frag):R2:=λx y H Q=>∃p q xs ys,x=.ref p/\y=.ref q/\aq K H p xs/\aq K H q ys/\xs.length≠ys.length/\Q (.bl false) H
theorem Bx(hu:X.A.units+1<cLine):cL X (compareOp .Eq) (KR X.K):=by rintro pins s σ H x y v u Q I rx ry ⟨p,q,xs,ys,rfl,rfl,hp,hq,ne,fin⟩;cases rx;cases ry;obtain⟨is,ri,pi,_⟩:=I.list hp;obtain⟨js,rj,pj,_⟩:=I.list hq;refine adJ pi.isList pj.isList ?_ (by omega) (aX I fin rfl);simp only[Zt,bne_iff_ne];rw[<-ri.length,<-rj.length];exact ne
def By(K:PySem.W.Frag)(neg:Bool):R2:=λx y H Q=>∃p q xs,x=.ref p/\y=.ref q/\aq K H p xs/\aq K H q []/\Q (.bl (if neg then !decide (xs=[]) else decide (xs=[]))) H
theorem Bz(hu:X.A.units+1<cLine):cL X (compareOp .Eq) (By X.K false):=by
 rintro pins s σ H x y v u Q I rx ry ⟨p,q,xs,rfl,rfl,hp,hq,fin⟩;cases xs with
 |nil=>exact p9 hu pins s σ H _ _ v u Q I rx ry ⟨p,q,[],[],rfl,rfl,.inl ⟨hp,hq⟩,rfl,rfl,fin⟩
 |cons z zs=>exact Bx hu pins s σ H _ _ v u Q I rx ry ⟨p,q,_,_,rfl,rfl,hp,hq,by simp,fin⟩
theorem sP(hu:X.A.units+1<cLine):cL X (compareOp .NotEq) (By X.K true):=by
 rintro pins s σ H x y v u Q I rx ry ⟨p,q,xs,rfl,rfl,hp,hq,fin⟩;cases xs with
 |nil=>exact kX hu pins s σ H _ _ v u Q I rx ry ⟨p,q,[],[],rfl,rfl,.inl ⟨hp,hq⟩,rfl,rfl,fin⟩
 |cons z zs=>exact Bw hu pins s σ H _ _ v u Q I rx ry ⟨p,q,_,_,rfl,rfl,hp,hq,by simp,fin⟩
open Classical in
end
structure vf where
 key:Expr
 val:Expr
 pT:Expr
 src:Expr
 cs:List Expr
 sc:Scope
 pos:Pos
namespace vf
variable (B:vf)
abbrev expr:Expr:=.DictComp B.key B.val [⟨B.pT,B.src,B.cs,0⟩] B.sc B.pos
section
variable (prog:Program)(w:World)(A:Around)(env:Env)(it:Value)(D:Addr)
def D5(J:Shared->Prop):Bool->Shared->Prop
 |false,s=>J s
 |true,s=>dq.Tame prog w A (eval B.key env) (λx=>dq.Tame prog w A (eval B.val env) λy=>dq.Tame prog w A (dictSet D x y) λ_=>J) s
def zH(J:Shared->Prop)(v:Value):Shared->Prop:=
 dq.Tame prog w A (letOwnedTupleGo B.pT it v) λ_=>dq.Tame prog w A (assign B.pT env v) λ_=>dq.Tame prog w A (kP env B.cs) (B.D5 prog w A env D J)
def zI(Dn J:Shared->Prop):Option Value->Shared->Prop
 |none=>Dn
 |some v=>B.zH prog w A env it D J v
end
theorem loops(G:Nat->Shared->Prop)
  (turn:∀k t,G k t->dq.Tame prog w A (pyNext it) (B.zI prog w A env it D (R (.ok .next)) λu=>∃j,j<k/\G j u) t)
  {k:Nat} {t:Shared} (g:G k t):codeAny (model prog w) A (.compLoop B.expr 0 it (.ref D) env) R t:=by
 have one:∀k t,G k t->dq.Tame prog w A (compTurn B.expr 0 it (.ref D) env) (λx t'=>match x with|.done r=>R (.ok r) t'|.again c=>c=.compLoop B.expr 0 it (.ref D) env/\∃j,j<k/\G j t') t:=by
  intro k t g;rw[show B.expr=.DictComp B.key B.val [⟨B.pT,B.src,B.cs,0⟩] B.sc B.pos from rfl,compTurn_dict];apply wpAny_bind;apply wpAny_standAt;apply wpAny_bind;refine aH (turn k t g) λx t1 h1=>?_;match x,h1 with
  |none,h1=>exact wpAny_pure h1
  |some v,h1=>
   apply wpAny_bind;refine aH h1 λ_ t2 h2=>?_;apply wpAny_bind;refine aH h2 λ_ t3 h3=>?_;apply wpAny_bind;refine aH h3 λb t4 h4=>?_;match b,h4 with
   |false,h4=>exact wpAny_pure ⟨rfl,h4⟩
   |true,h4 =>apply wpAny_bind;apply wpAny_bind;refine aH h4 λy t5 h5=>?_;apply wpAny_bind;apply wpAny_holding;refine aH h5 λz t6 h6=>?_;apply wpAny_bind;apply wpAny_standAt;apply wpAny_holding;refine aH h6 λ_ t7 h7=>?_;exact wpAny_pure ⟨rfl,h7⟩
 exact acO rfl G (λk t g=>wpAny_noted (wpAny_mono (one k t g) (λ_ _ q=>q) λ_ _ f=>f.elim)) k g
end vf
def vg(own:List Str)(fr:List Nat)(g:TG)(tt:TT)(tk te:TE)(σ:St)(Q:VK)(J:It)(H1:Hp):Prop:=
 ∃W:Nat->Nat->List (Key×V)->Hp->Prop,(∃m,W 0 m [] H1)/\∀i m kvs H2,W i m kvs H2->kvs.length<=sizeLine /\
  ((J.stop i H2/\∀D,H2 D=none->Q (.ref D) (upd H2 D (.dK kvs))) \/
  (J.go i H2/\∀x H3,J.jw i H2 x H3->g x (cI own fr σ) H3 λσ4 H4=>tt σ4 H4 λb H5=>if b=true then tk σ4 H5 λy H6=>te σ4 H6 λz H7=>∃k,y=kV k/\∃m',m'<m/\W (i+1) m' (putK kvs k z) H7 else ∃m',m'<m/\W (i+1) m' kvs H5))
def UC(own:List Str)(fr:List Nat)(wi:TI)(g:TG)(tt:TT)(tk te:TE):TE:=λσ H Q=>wi σ H (vg own fr g tt tk te σ Q)
section
theorem Il{pins:List (Addr×Obj)}{tn:Nat->Heap->Prop}{J:It}{RR:Value->Addr->Result->Shared->Prop}{E:Value->Shared->Prop}(hc:X.calm=true)(S:dD X own fr sc)(gk:GK own.length g)
  (hg:∀s H fp,PG (bJ X own fr sc s H fp) tg g) (ht:∀s H fp,dJ (bJ X own fr sc s H fp) ifs tt) (hk:∀s H fp,PE (bJ X own fr sc s H fp) kx tk) (he:∀s H fp,PE (bJ X own fr sc s H fp) vx te)
  (I2:Inv X pins σ H2 s2) (T:Turn X.prog X.w X.K tg J fp it tn) (st2:tn 0 s2.heap) (f2:∀b∈fp,c5 X pins H2 b) (L:vg own fr g tt tk te σ Q J H2)
  (hRR:∀D C s',(∃m,s'.heap.Ns C m)->@LE.le Nat _ s2.heap.objs.size C->(∃H',H' C=none/\Q (.ref D) H'/\∀h' tk,Heap.SameBut C s'.heap h'->Inv X pins σ H' {s' with heap:=h',toks:=tk})->RR (.ref D) C (.ok .next) s') :
  wpAny (model X.prog X.w) X.A newDict (λacc s₃=>wpAny (model X.prog X.w) X.A (newFunctionEnv sc X.env.globals (cj X.env sc.names []) [] X.env.qual none .none (some X.env)) (λgE s₄ =>codeAny (model X.prog X.w) X.A (.compStart (.DictComp kx vx [⟨tg,iter,ifs,0⟩] sc pos) 0 (.ref it) acc {gE with scope:=relabel sc X.env}) (RR acc gE.locals) s₄) E s₃) E s2:=by
 obtain⟨W,⟨m0,w0⟩,turn⟩:=L;refine wpAny_newObj_type (eY ?_);dsimp only;generalize dv:s2.heap.push {cls:=.type "dict",dict:=none,data:=.dict #[]}=h1;have hz:h1.objs.size=s2.heap.objs.size+1:=by rw[<-dv,Z']
 have hk1:∀b o,s2.heap.get? b=some o->h1.get? b=some o:=λb o e=>by rw[<-dv];exact Zl _ e
 have lI:h1.get? s2.heap.objs.size=some {cls:=.type "dict",data:=.dict #[]}:=by rw[<-dv];exact Zw _ rfl
 have hfl:∀b∈fp,@LT.lt Nat _ b s2.heap.objs.size:=λb hb=>by obtain⟨o,e,_⟩:=T.obj _ _ st2 b hb;exact Zx e
 have I3:=iZ I2 S f2 hz hk1 hfl;rw[hz];generalize hY:bJ X own fr sc s2 H2 fp=Y at I3;have jZ:(hC s2 sc h1).get? s2.heap.objs.size=some {cls:=.type "dict",data:=.dict #[]}:=pushCells_keeps _ _ _ _ (Zl _ lI);have hG:tn 0 (hC s2 sc h1):=T.keep _ _ _ st2 λb _ o e=>pushCells_keeps _ _ _ _ (Zl _ (hk1 b o e));have eP:Y.prog=X.prog:=by rw[<-hY];rfl
 have eW:Y.w=X.w:=by rw[<-hY];rfl
 have eK:Y.K=X.K:=by rw[<-hY];rfl
 have eA:Y.A=X.A:=by rw[<-hY];rfl
 have eX:Y.xe=gB:=by rw[<-hY];rfl
 have ecm:Y.calm=true:=by rw[<-hY];exact hc
 have kQ:({scope:=relabel sc X.env,locals:=s2.heap.objs.size+1,globals:=X.env.globals,cells:=cellsFrom (s2.heap.objs.size+1+1) sc.names (cj X.env sc.names []),qual:=X.env.qual,func:=none,code:=X.env.code,frame:=X.env.frame,builtins:=X.env.builtins}:Env)=Y.env:=by rw[<-hY];rfl
 have eL:Y.env.locals=s2.heap.objs.size+1:=by rw[<-hY];rfl
 rw[kQ];have i4:PG Y tg g:=hY▸hg s2 H2 fp;have i5:dJ Y ifs tt:=hY▸ht s2 H2 fp;have i6:PE Y vx te:=hY▸he s2 H2 fp;have dP:PE Y kx tk:=hY▸hk s2 H2 fp;have dfp:s2.heap.objs.size∉fp:=λz=>ZX _ (hfl _ z);have dC:s2.heap.objs.size≠s2.heap.objs.size+1:=ZQ (aav _);have iF:∀x c,Y.env.cells.lookup x=some c->c≠s2.heap.objs.size:=λx c e z=>by obtain⟨v,o,q,d⟩:=I3.cell x c e;rw[z] at q;have q':=jZ.symm.trans q;cases q';cases d
 have jJ:s2.heap.objs.size∉Y.fs:=by
  rw[<-hY];intro z;rcases Zs.mp (I2.dz _ z) with e|e
  ·exact ZX _ (by have:=I2.lt;rw[<-e] at this;exact this)
  ·exact I2.qI (Zn _) e
 have mv:@LE.le Nat _ Y.s₀.heap.objs.size s2.heap.objs.size:=by rw[<-hY];exact Zn _
 have fpY:∀{H':Hp} {pp:List (Addr×Obj)},(∀b∈fp,H' b=none)->(∀p∈pp,p.1∉fp)->∀b∈fp,c5 Y pp H' b:=λ{H' pp} hn hp b hb=>by
  refine⟨hn b hb,?_,?_,?_,?_,λp hq z=>?_⟩
  ·have:=hfl b hb;rw[eL];intro z;have z':@Eq Nat b (s2.heap.objs.size+1):=z;omega
  ·rw[<-hY];intro z;rcases Zs.mp (I2.dz _ z) with e|e
   ·exact(f2 b hb).2.1 e
   ·exact(f2 b hb).2.2.1 e
  ·exact .inl (by rw[<-hY];exact hb)
  ·exact(I3.ok.uu b (by rw[<-hY];exact hb)).2
  ·rcases Zv.mp hq with q|q
   ·have:p∈([]:List (Addr×Obj)):=by rw[<-hY] at q;exact q
    exact nomatch this
   ·exact hp p q (z▸hb)
 have i7:∀{H':Hp} {s':Shared} {σ':St} {ob:Obj},Inv Y [] σ' H' s'->H' s2.heap.objs.size=none->s'.heap.get? s2.heap.objs.size=some ob->(∀v,ob.data≠.cell v)->Inv Y [(s2.heap.objs.size,ob)] σ' H' s':=λ{H' s' σ' ob} J0 hn e d=>
  J0.bG λp hp=>by
   have:p=(s2.heap.objs.size,ob):=by simpa using hp
   subst this;exact⟨e,hn,by rw[eL];exact dC,jJ,d⟩
 have gF:∀{ob:Obj} (p:Addr×Obj),p∈[(s2.heap.objs.size,ob)]->p.1∉fp:=λ{ob} p hp=>by
  have:p=(s2.heap.objs.size,ob):=by simpa using hp
  subst this;exact dfp
 have loop:codeAny (model X.prog X.w) X.A (.compLoop (.DictComp kx vx [⟨tg,iter,ifs,0⟩] sc pos) 0 (.ref it) (.ref s2.heap.objs.size) Y.env) (RR (.ref s2.heap.objs.size) (s2.heap.objs.size+1)) {s2 with heap:=hC s2 sc h1}:=by
  have BA:(hC s2 sc h1).DictOf (aW X.prog X.w) s2.heap.objs.size []:=(show h1.DictOf (aW X.prog X.w) s2.heap.objs.size [] from dv▸afo s2.heap).keep λb o e=>pushCells_keeps _ _ _ _ (Zl _ e);refine vf.loops (B:=⟨kx,vx,tg,iter,ifs,sc,pos⟩) (λn s'=>∃i kvs vs H',W i n kvs H'/\Inv Y [] (cI own fr σ) H' s'/\tn i s'.heap/\(∀b∈fp,H' b=none)/\H' s2.heap.objs.size=none/\s'.heap.DictOf (aW X.prog X.w) s2.heap.objs.size vs/\KV kvs vs) ?_ (k:=m0)
   ⟨0,[],[],H2,w0,I3,hG,λb hb=>(f2 b hb).1,I2.aL.fresh (Zn _),BA,.nil⟩
  rintro n s' ⟨i,kvs,vs,H',w',J0,cV,ic,hDn,hDo,rv⟩;obtain⟨lJ,eD⟩:=turn i n kvs H' w';obtain⟨ob,es,ep,KS,oJ,kZ,zN,vh,oK⟩:=hDo;have BB:∀v,ob.data≠.cell v:=λv z=>by rw[kZ] at z;cases z
  have J1:=i7 J0 hDn KS BB;rcases eD with⟨stop,fin⟩|⟨go,step⟩
  ·have d0:=T.done Y eP eW eK ecm i _ s' _ H' gB J1 (fpY ic gF) cV stop;rw[eA] at d0;refine wpAny_mono d0 (λr s4 ⟨hr,J4⟩=>?_) λ_ _ z=>z;subst hr;have pD:=(J4.pin (s2.heap.objs.size,_) (Zm _ Zy)).1;refine hRR _ _ s4 ?_ (aaR _) ⟨upd H' s2.heap.objs.size (.dK kvs),?_,fin _ hDn,λh' tk hs=>?_⟩
   ·obtain⟨m,hn,_⟩:=J4.loc;rw[eL] at hn;exact⟨m,hn⟩
   ·rw[ak (Z0 dC),<-eL];exact J4.free
   ·subst hY;have hO:bg X.prog X.w (upd H' s2.heap.objs.size (.dK kvs)) h' s2.heap.objs.size (.dK kvs):=⟨lJ,beq_eq_false_iff_ne.mpr (Z0 (ZQ I2.big)),vs,rv,ob,es,ep,(hs.2 _ dC).trans pD,oJ,kZ,zN,vh,oK⟩
    exact i3 I2 f2 J4 (Zn _) hDn dC hs hO tk
  ·have d0:=T.item Y eP eW eK ecm i _ s' _ H' gB J1 (fpY ic gF) cV go;rw[eA] at d0;refine wpAny_mono d0 (λr s4 ⟨u,hr,h4⟩=>?_) λ_ _ z=>z;subst hr;refine wpAny_mono h4 (λ_ s5 ⟨x,H5,J5,r5,y5,st5,jQ⟩=>?_) λ_ _ z=>z;have mw:=J5.pinned (fpY jQ gF) (T.obj _ _ st5);have s1:=i4 _ s5 _ H5 x u _ mw r5 (gk _ _ _ _ (step x H5 y5));rw[eP,eW,eA,eX] at s1;refine wpAny_mono s1 (λ_ s6 ⟨σ6,H6,J6,q6,jz⟩=>?_) λ_ _ z=>z;have s2':=i5 _ s6 σ6 H6 _ J6 q6;rw[eP,eW,eA,eX] at s2';refine wpAny_mono s2' (λok s7 ⟨H7,J7,q7⟩=>?_) λ_ _ z=>z;have low:∀{H8:Hp} {s8:Shared},Inv Y ([(s2.heap.objs.size,ob)]++cb fp s5.heap) σ6 H8 s8 ->
     Inv Y (cb fp s5.heap) σ6 H8 s8/\H8 s2.heap.objs.size=none/\s8.heap.get? s2.heap.objs.size=some ob/\(∀b∈fp,H8 b=none)/\tn (i+1) s8.heap:=λ{H8 s8} J8=>by
    have p8:=J8.pin (s2.heap.objs.size,_) (Zm _ (ZN _ Zy));refine⟨J8.bG λp hp=>J8.pin p (Zm _ (Zm _ hp)),p8.2.1,p8.1,λb hb=>?_,T.keep _ _ _ st5 λb hb o e=>(J8.pin (b,o) (Zm _ (Zm _ (bM hb e)))).1⟩;obtain⟨o,e,d⟩:=T.obj _ _ st5 b hb;exact(J8.pin (b,o) (Zm _ (Zm _ (bM hb e)))).2.1
   have weak:∀{H8:Hp} {s8:Shared} {pp:List (Addr×Obj)},Inv Y pp σ6 H8 s8->Inv Y [] (cI own fr σ) H8 s8:=λ{H8 s8 pp} J8=>(J8.weak jz.1.symm (λj v e=>by
    by_cases hj:j<own.length
    ·exfalso;unfold cI at e;rw[ZZ (by simpa using hj),aaO] at e;split at e<;>cases e
    ·rw[jz.2 j (acP.mp hj)];exact e)).bG λp hp=>nomatch hp
   cases ok with
   |false=>
    obtain⟨m',hm,w7⟩:=(show ∃m',m'<n/\W (i+1) m' kvs H7 by simpa using q7)
    obtain⟨_,l1,l2,l3,l4⟩:=low J7;exact⟨m',hm,i+1,kvs,vs,H7,w7,weak J7,l4,l3,l1,⟨ob,es,ep,l2,oJ,kZ,zN,vh,oK⟩,rv⟩
   |true=>
    have pU:tk σ6 H7 λy H6=>te σ6 H6 λz H7=>∃k,y=kV k/\∃m',m'<n/\W (i+1) m' (putK kvs k z) H7:=by simpa using q7
    have s3:=dP _ s7 σ6 H7 _ J7 pU;rw[eP,eW,eA,eX] at s3;show wpAny _ _ _ _ _ _
    refine wpAny_mono s3 (λyv s8 ⟨y,H8,J8,r8,q8⟩=>?_) λ_ _ z=>z;have s4':=i6 _ s8 σ6 H8 _ J8 q8;rw[eP,eW,eA,eX] at s4';refine wpAny_mono s4' (λzv s9 ⟨z,H9,J9,r9,ky,ey,m',hm,w9⟩=>?_) λ_ _ z=>z;subst ey;obtain⟨BC,l1,l2,l3,l4⟩:=low J9;refine wpAny_dictSet_pairs (knd:=aW X.prog X.w) (hsz:=by rw[<-rv.length];exact lJ) (mY r8) (⟨ob,es,ep,l2,oJ,kZ,zN,vh,oK⟩:s9.heap.DictOf (aW X.prog X.w) s2.heap.objs.size vs) λh' uS hs'=>?_;have vk:Inv Y [] (cI own fr σ) H9 {s9 with heap:=h',toks:=s9.toks+1}:=by
     refine(weak BC).turned (t':=s9.toks+1) (it:=s2.heap.objs.size) (λb o hb e=>(hs'.2 b hb).trans e) l1 (by rw[eL];exact dC) (.inr mv) iF λp hp=>?_
     have:p∈([]:List (Addr×Obj)):=by rw[<-hY] at hp;exact hp
     exact nomatch this
    refine⟨m',hm,i+1,putK kvs ky z,stored vs ky zv,H9,w9,vk,?_,l3,l1,uS,rv.put ky r9⟩;exact T.keep _ _ _ l4 λb hb o e=>(hs'.2 b (λz=>dfp (z▸hb))).trans e
 exact ad4 loop (T.self X.A 0 _ _ _ hG loop)
theorem Im{uT pos':Pos}(own:List Str)(fr:List Nat)(hN:X.N.Nodup)(hix:X.N[i]?=some x)(hx:X.env.scope.names.lookup x=some .local)(hc:X.calm=true)(S:dD X own fr sc)(gk:GK own.length g)(hi:PI X tg iter wi)
  (hg:∀s H fp,PG (bJ X own fr sc s H fp) tg g) (ht:∀s H fp,dJ (bJ X own fr sc s H fp) ifs tt) (hk:∀s H fp,PE (bJ X own fr sc s H fp) kx tk) (he:∀s H fp,PE (bJ X own fr sc s H fp) vx te)
  (hsw:swapsWith (.DictComp kx vx [⟨tg,iter,ifs,0⟩] sc pos) (some (.Name x pos')) uT.line X.env=pure true:=by rfl)
  (hs:∀x,foldedSetIterable iter X.env x=pure x:=by intro _;rfl):PS X (.Assign [.Name x pos'] (.DictComp kx vx [⟨tg,iter,ifs,0⟩] sc pos) uT) (zd (UC own fr wi g tt tk te) (bj i)):=by
 intro pins s σ H D I h;rw[aeb _ _ _ _ hsw];apply wpAny_bind;apply wpAny_standAt;apply wpAny_bind;show wpAny _ _ (comprehension (.DictComp kx vx [⟨tg,iter,ifs,0⟩] sc pos) sc X.env _ newDict false (eval iter X.env) (some (assign (.Name x pos') X.env))>>=_) _ _ s
 apply wpAny_bind;have gG:closureFor sc X.env=pure (cj X.env sc.names []):=dh λy hy hf=>I.ok.has y.1 (by
  rcases S.sE y hy hf with q|q
  ·exact .inl q
  ·exact .inr q)
 refine wpAny_mono (wpAny_comprehension_free (use:=some (assign (.Name x pos') X.env)) (Q:=λ_ s'=>SP X pins D .next s') rfl hs gG S.kind (λy hy hl=>bH S.nd (by rw[<-hl];exact hy)) ?_) (λ_ s' q=>wpAny_pure (wpAny_pure q)) λ_ _ z=>z;refine aH (hi pins s σ H _ I h) λv s1 h1=>aH h1 λitv s2 h2=>?_;obtain⟨it,fp,tn,J,H2,e,I2,T,st2,f2,L⟩:=h2;subst e;exact Il hc S gk hg ht hk he I2 T st2 f2 L λD0 C s' ns le h=>pW (R:=D.nx) I2 hN hix hx ns le h
end
theorem Io{K:PySem.W.Frag}{a:Addr}{xs:List V}{own:List Str}{fr:List Nat}{g:TG}{tt:TT}{tk te:TE}{σ:St}{Q:VK}{H:Hp}(Pv:Nat->List (Key×V)->Hp->Prop)(h0:Pv 0 [] H)(hlen:∀i kvs H,i<=xs.length->Pv i kvs H->kvs.length<=sizeLine)
  (hl:∀i kvs H,i<=xs.length->Pv i kvs H->aq K H a xs)
  (hs:∀i x kvs H (R:List (Key×V)->Hp->Prop),xs[i]?=some x->Pv i kvs H->(∀jf H',Pv (i+1) jf H'->R jf H')->g x (cI own fr σ) H λσ4 H4=>tt σ4 H4 λb H5=>if b=true then tk σ4 H5 λy H6=>te σ4 H6 λz H7=>∃k,y=kV k/\R (putK kvs k z) H7 else R kvs H5)
  (hd:∀kvs H,Pv xs.length kvs H->∀D,H D=none->Q (.ref D) (upd H D (.dK kvs))):vg own fr g tt tk te σ Q (lF K a) H:=by
 refine⟨λi m kvs H=>m=xs.length-i/\i<=xs.length/\Pv i kvs H,⟨xs.length,rfl,ZE _,h0⟩,?_⟩;rintro i m kvs H2 ⟨rfl,hi,p⟩;refine⟨hlen i kvs H2 hi p,?_⟩;have q:=hl i kvs H2 hi p;by_cases h:i<xs.length
 ·refine .inr ⟨⟨xs,xs[i],q,by simp[h]⟩,λx H3 hy=>?_⟩;obtain⟨rfl,hy⟩:=hy;have z:=hs i x kvs _ (λjf H'=>∃m',m'<xs.length-i/\(m'=xs.length-(i+1)/\i+1<=xs.length/\Pv (i+1) jf H')) (hy xs q) p λjf H' q=>⟨xs.length-(i+1),by omega,rfl,h,q⟩
  exact z
 ·have e:i=xs.length:=by omega
  subst e;exact .inl ⟨⟨xs,q,Zn _⟩,hd kvs H2 p⟩
def tab:List Str->List Addr->List (Key×V)
 |z::zs,l::ls=>(Sum.inr z,V.ref l)::tab zs ls
 |_,_=>[]
theorem xZ:∀{zs:List Str} {ls:List Addr},ls.length=zs.length->(tab zs ls).length=zs.length
 |[],[],_=>rfl
 |[],_::_,h=>by simp at h
 |_::_,[],h=>by simp at h
 |z::zs,l::ls,h=>by
  show(tab zs ls).length+1=zs.length+1
  rw[xZ (by simpa using h)]
theorem vm:∀{zs:List Str} {ls:List Addr} (z:Str) (l:Addr),ls.length=zs.length->tab (zs++[z]) (ls++[l])=tab zs ls++[(Sum.inr z,V.ref l)]
 |[],[],_,_,_=>rfl
 |[],_::_,_,_,h=>by simp at h
 |_::_,[],_,_,h=>by simp at h
 |x::zs,y::ls,z,l,h=>by
  show(Sum.inr x,V.ref y)::tab (zs++[z]) (ls++[l])=_
  rw[vm z l (by simpa using h)];rfl
theorem vn:∀{zs:List Str} {ls:List Addr} {z:Str},z∉zs->bD (tab zs ls) (Sum.inr z:Key)=none
 |[],_,_,_=>rfl
 |_::_,[],_,_=>rfl
 |x::zs,y::ls,z,h=>by
  have h1:¬ x=z:=λe=>h (e▸Zy);show bD ((Sum.inr x,V.ref y)::tab zs ls) _=_
  rw[cu (λe=>h1 (adY e))];exact vn λm=>h (ZC _ m)
theorem BD:∀{zs:List Str} {ls:List Addr} {i:Nat} {z:Str} {l:Addr},zs.Nodup->zs[i]?=some z->ls[i]?=some l->bD (tab zs ls) (Sum.inr z:Key)=some (.ref l)
 |[],_,_,_,_,_,h,_=>by simp at h
 |_::_,[],_,_,_,_,_,h=>by simp at h
 |x::zs,y::ls,0,z,l,_,h1,h2=>by
  have e1:x=z:=by simpa using h1
  have e2:y=l:=by simpa using h2
  subst e1 e2;exact cK rfl
 |x::zs,y::ls,i+1,z,l,nd,h1,h2=>by
  rw[ZT] at nd;have h1':zs[i]?=some z:=by simpa using h1
  have ne:¬ x=z:=λe=>nd.1 (e▸Zr h1');show bD ((Sum.inr x,V.ref y)::tab zs ls) _=_
  rw[cu (λe=>ne (adY e))];exact BD nd.2 h1' (by simpa using h2)
theorem zO{α:Type}{l:List α}(nd:l.Nodup){i j:Nat}{x:α}(hi:l[i]?=some x)(hj:l[j]?=some x):i=j:=by obtain⟨h1,e1⟩:=Zq.mp hi;obtain⟨h2,e2⟩:=Zq.mp hj;exact(afa nd).mp (e1.trans e2.symm)
section
theorem zP(hn:n≠0)(h:∀i dr,i<n->Q i {s with drawn:=dr}):wpAny (model prog w) A (choose src n) Q E s:=fun Γ p _=>by
 show Sem.wp _ Γ (.choose src n .pure) _ _ p s
 rw[Sem.wp_choose];exact⟨hn,h _ _ (acf _ (Nat.pos_of_ne_zero hn))⟩
theorem k6:∀(xs:List α) (i:Nat) (h:i<xs.length),(xs[i]::xs.eraseIdx i).Perm xs
 |[],_,h=>by simp at h
 |x::xs,0,_=>.refl _
 |x::xs,i+1,h=>(List.Perm.swap x (xs[i]'(by simpa using h)) (xs.eraseIdx i)).trans (List.Perm.cons x (k6 xs i (by simpa using h)))
theorem qa:∀(n:Nat) (xs:List α) (s:Shared) (Q:List α->Shared->Prop),xs.length=n->(∀ys dr,ys.Perm xs->Q ys {s with drawn:=dr})->wpAny (model prog w) A (drawOrder n xs) Q E s
 |0,xs,s,Q,hl,h=>by have e:xs=[]:=acY hl;subst e;exact wpAny_pure (h [] s.drawn .nil)
 |n+1,[],s,Q,hl,h=>by simp at hl
 |n+1,x::xs,s,Q,hl,h=>by unfold drawOrder;refine wpAny_bind (zP (by simp) λi dr hi=>?_);have e:(x::xs)[i]?=some (x::xs)[i]:=Zk hi;rw[e];refine wpAny_bind (qa n _ _ _ (by rw[adf hi];simpa using hl) λys UD hp=>?_);refine wpAny_pure (h _ UD ?_);exact(List.Perm.cons _ hp).trans (k6 _ i hi)
end
def dY(w:World):Bool:=w.params.followText "set-order"
end L2
namespace L3
open PySem
def jg(xs:Array Nat):Prop:=∀i j (hi:i<xs.size) (hj:j<xs.size),i<j->xs[i]<xs[j]
theorem oM(r:jg xs):∀(fuel lo hi:Nat),lo<=hi->hi<=xs.size->hi-lo<=fuel->(∀i (h:i<xs.size),i<lo->xs[i]<j)->(∀i (h:i<xs.size),hi<=i->j<=xs[i]) ->
  SetTable.below.go xs j fuel lo hi<=xs.size/\(∀i (h:i<xs.size),i<SetTable.below.go xs j fuel lo hi->xs[i]<j)/\(∀i (h:i<xs.size),SetTable.below.go xs j fuel lo hi<=i->j<=xs[i])
 |0,lo,hi,a,b,c,p,q=>by
  have e:lo=hi:=by omega
  subst e;exact⟨b,p,q⟩
 |fuel+1,lo,hi,a,b,c,p,q=>by
  rw[SetTable.below.go];by_cases h:lo<hi
  ·rw[if_pos h];dsimp only;have hm:(lo+hi) / 2<xs.size:=by omega
   have e:xs.getD ((lo+hi) / 2) j=xs[(lo+hi) / 2]:=by simp[Array.getD,hm]
   rw[e];by_cases hx:xs[(lo+hi) / 2]<j
   ·rw[if_pos hx];refine oM r fuel _ _ (by omega) b (by omega) (λi hi' hl=>?_) q;by_cases ie:i=(lo+hi) / 2
    ·subst ie;exact hx
    ·exact acN (r i _ hi' hm (by omega)) hx
   ·rw[if_neg hx];refine oM r fuel _ _ (by omega) (by omega) (by omega) p (λi hi' hl=>?_);by_cases ie:i=(lo+hi) / 2
    ·subst ie;omega
    ·have:=r _ i hm hi' (by omega);omega
  ·rw[if_neg h];have e:lo=hi:=by omega
   subst e;exact⟨b,p,q⟩
theorem oN(r:jg xs)(j:Nat):SetTable.below xs j<=xs.size/\(∀i (h:i<xs.size),i<SetTable.below xs j->xs[i]<j)/\(∀i (h:i<xs.size),SetTable.below xs j<=i->j<=xs[i]):=
 oM r _ _ _ (ZE _) (Zn _) (by omega) (λi h z=>absurd z (abJ _)) (λi h z=>absurd h (by omega))
theorem below_at(r:jg xs)(h:xs[i]?=some j):SetTable.below xs j=i:=by
 obtain⟨hi,e⟩:=ab2.mp h;obtain⟨a,b,c⟩:=oN r j;rcases abv (SetTable.below xs j) i with q|q|q
 ·have:=c _ (by omega) (Zn _)
  have:=r _ i (by omega) hi q
  omega
 ·exact q
 ·have:=b i hi q;omega
theorem mE{t:SetTable}(r:jg t.place)(h:t.place[i]?=some j):t.slot j=.live i:=by unfold SetTable.slot;rw[below_at r h];dsimp only;rw[h];simp
theorem zQ{t:SetTable}(d:t.dummies=#[])(h:∀i:Nat,t.place[i]?≠some j):t.slot j=.empty:=by
 unfold SetTable.slot;dsimp only;rw[if_neg (by simpa using h _)];have e:SetTable.has t.dummies j=false:=by rw[d];rfl
 rw[e];rfl
abbrev Probe:=SetTable.Probe
theorem zR(r:jg xs)(hi:i<=xs.size):SetTable.below xs (if i=0 then 0 else xs.getD (i-1) 0+1)=i:=by
 obtain⟨a,b,c⟩:=oN r (if i=0 then 0 else xs.getD (i-1) 0+1);generalize hj:SetTable.below xs (if i=0 then 0 else xs.getD (i-1) 0+1)=j at a b c⊢;cases i with
 |zero=>
  rcases aeR j with h|h
  ·exact h
  ·have:=b 0 (by omega) h
   simp at this
 |succ k=>
  rw[if_neg (by omega),aca] at b c;have hk:k<xs.size:=by omega
  have e:xs.getD k 0=xs[k]:=by simp[hk]
  rw[e] at b c;rcases abv j (k+1) with h|h|h
  ·have:=c k hk (by omega)
   omega
  ·exact h
  ·have:=b (k+1) (by omega) h
   have:=r k (k+1) hk (by omega) (by omega)
   omega
end L3
namespace L2
open PySem PySem.Spec PyProof.Rows
theorem qW:entryFor table "set.__iter__" = some Builtin.«frozenset.__iter__»:=
 entryFor_alias (id':="frozenset.__iter__") (by kernel_rfl) rfl (by decide +kernel) (by kernel_rfl)
theorem c9:Slot "set_iterator" "__next__" "set_iterator.__next__":=
 .of (owner:="set_iterator") (n:="__next__") (by rw[afq,aee];kernel_rfl) (by decide +kernel) (by decide +kernel) (by decide +kernel)
  (by first|exact .inl (by decide +kernel)|exact .inr (by decide +kernel)) (by rw[aef];kernel_rfl)
theorem lM:entryFor table "set_iterator.__next__" = some Builtin.«set_iterator.__next__»:=entryFor_of_tree (by kernel_rfl)
theorem mG(a:Value):argsOk "set_iterator.__next__" ⟨[a],[]⟩:=by unfold argsOk;kernel_rfl
theorem mH:Slot "set_iterator" "__iter__" "set_iterator.__iter__":=
 .of (owner:="set_iterator") (n:="__iter__") (by rw[afq,aee];kernel_rfl) (by decide +kernel) (by decide +kernel) (by decide +kernel)
  (by first|exact .inl (by decide +kernel)|exact .inr (by decide +kernel)) (by rw[aef];kernel_rfl)
theorem tX:entryFor table "set_iterator.__iter__" = some Builtin.«dict_keyiterator.__iter__»:=
 entryFor_alias (id':="dict_keyiterator.__iter__") (by kernel_rfl) rfl (by decide +kernel) (by kernel_rfl)
theorem vo(a:Value):argsOk "set_iterator.__iter__" ⟨[a],[]⟩:=by unfold argsOk;kernel_rfl
structure eU(w:World)(h:Heap)(a:Addr)(es:Array (Int×Value))(ep:Nat)(t:SetTable):Prop where
 ho:∃o,h.get? a=some o/\o.ExactSet/\o.data=.set es ep t
 fits:t.fits es.size=true
 led:t.led=!dY w
 pl:1<es.size->t.plain=false\/(t.plain=true/\L3.jg t.place)
theorem eU.keep(x:eU w h a es ep t)(k:∀o,h.get? a=some o->h'.get? a=some o):eU w h' a es ep t:=
 let ⟨o,ho,r⟩:=x.ho;{x with ho:=⟨o,k o ho,r⟩}
theorem eU.typeIs{w:World}{s:Shared}{a:Addr}{es:Array (Int×Value)}{ep:Nat}{t:SetTable}(x:eU w s.heap a es ep t):s.TypeIs (.ref a) "set" := let ⟨o,ho,e,_⟩:=x.ho;⟨o,ho,e.1⟩
theorem x5(next:Nat->Nat):∀(n k:Nat) (left:List α) (out:Array α),left.length=n->(pickOrder.go next n k left out).toList.Perm (out.toList++left)
 |0,k,left,out,h=>by have e:left=[]:=acY h;subst e;simp[pickOrder.go]
 |n+1,k,left,out,h=>by have lt:next k % left.length<left.length:=acf _ (by omega);unfold pickOrder.go;rw[Zk lt];dsimp only;refine(x5 next n (k+1) _ _ (by rw[adf lt];omega)).trans ?_;rw[ae2,ZV];exact acI _ (k6 left _ lt)
theorem BE(next:Nat->Nat)(xs:Array α):(pickOrder next xs).toList.Perm xs.toList:=by have h:=x5 next xs.size 0 xs.toList #[] (by simp);simpa [pickOrder] using h
def fk(h:Heap)(I S:Addr)(first:Value)(i n ep:Nat):Prop:=
 ∃o,h.get? I=some o/\o.cls=.type "set_iterator" /\ o.data=.fields #[first,.int i 0,.ref S,.int n 0,.int ep 0]
theorem fk.typeIs{s:Shared}{I S:Addr}{f:Value}{i n ep:Nat}(x:fk s.heap I S f i n ep):s.TypeIs (.ref I) "set_iterator" := let ⟨o,ho,e,_⟩:=x;⟨o,ho,e⟩
theorem fk.keep(x:fk h I S f i n ep)(k:∀o,h.get? I=some o->h'.get? I=some o):fk h' I S f i n ep:=let ⟨o,ho,r⟩:=x;⟨o,k o ho,r⟩
section
theorem gH(h:Q (dY w) s):wpAny (model prog w) A setsByText Q E s:=by unfold setsByText;apply wpAny_bind;apply wpAny_askSetting;exact wpAny_pure h
theorem x6(hh:A.handled=none)(ho:s.heap.get? I=some o)(hd:o.data=.fields vs)(h2:2<vs.size)
  (hQ:∀h',Heap.ExtBut I s.heap h'->Q none {s with heap:=h' }) :
  wpAny (model prog w) A.in1 (setField (.ref I) 2 .none>>=λ_=>newExc (.type "StopIteration") []>>=λe=>raiseNew (α:=Fin) e)
  (λfin s'=>∃v,fin=Fin.done (Flow.ret v)/\wpAny (model prog w) A (pure (some v)) Q E s')
  (λe s'=>wpAny (model prog w) A (do
     let __do_lift <-isInstance e (Value.type "StopIteration")
     if __do_lift=true then pure none else throw e) Q E s') s:=by
 refine wpAny_bind (wpAny_setField ho hd h2 ?_);show wpAny _ _ (newExc (.type "StopIteration") []>>=_) _ _ _
 refine wpAny_bind ?_;simp only[newExc,newTuple];refine wpAny_bind (wpAny_newObj_type ?_ (by size_fits));refine wpAny_bind (m:=firstArgMember _ _) (wpAny_of_eq (a:=Value.none) (by first|rfl|(simp only[firstArgMember];rfl)) ?_);refine wpAny_newObj_type ?_ (by size_fits);simp only[raiseNew];refine wpAny_bind (wpAny_handled ?_);rw[show A.in1.handled=none from hh];refine wpAny_bind (wpAny_pure (wpAny_throw ?_));refine wpAny_bind (wpAny_isInstance (T:="StopIteration") (b:=true) ⟨_,Zw _ rfl,rfl⟩ aeg ?_);exact wpAny_pure (hQ _ (((aac ..).extBut.push _).push _))
theorem nN{I S:Addr}{sl i ep:Nat}{es:Array (Int×Value)}{t:SetTable}{Q:Option Value->Shared->Prop}(hh:A.handled=none)(hit:fk s.heap I S (.int sl 0) i es.size ep)(x:eU w s.heap S es ep t)(r:Option (Value×Nat))
  (hn:∀(Q':Option (Value×Nat)->Shared->Prop) E',Q' r s->wpAny (model prog w) A.in1 (setNext S sl i ep) Q' E' s)
  (h1:∀v nx h',r=some (v,nx)->fk h' I S (.int nx 0) (i+1) es.size ep->Heap.SameBut I s.heap h'->Q (some v) {s with heap:=h' })
  (h2:r=none->∀h',Heap.ExtBut I s.heap h'->Q none {s with heap:=h' }):wpAny (model prog w) A (pyNext (.ref I)) Q E s:=by
 obtain⟨o,ho,hc,hd⟩:=id hit;obtain⟨os,dN,Gh,dO⟩:=x.ho;unfold pyNext;refine wpAny_bind (wpAny_attempt (aar (name:=Str.ofString "__next__") hit.typeIs c9
  (wpAny_call_entry c9 hit.typeIs lM ?_ (mG _))))
 unfold Builtin.«set_iterator.__next__»;refine wpAny_bind (wpAny_pure ?_);refine wpAny_bind (wpAny_fieldsOf ho hd ?_);dsimp only;refine wpAny_bind (wpAny_setEntries_of dN dO x.fits ?_);rw[if_neg (by simp)];simp only[aaT];refine wpAny_bind (hn _ _ ?_);cases r with
 |none=>exact x6 hh ho hd (by simp) (h2 rfl)
 |some p =>obtain⟨v,nx⟩:=p;dsimp only;refine wpAny_bind (wpAny_setField ho hd (by simp) ?_);have lK:=aad (Obj.mapFields (·.setIfInBounds 0 (rawInt nx))) ho (aba (aax hd _));have hd1:=aax hd (·.setIfInBounds 0 (rawInt nx));refine wpAny_bind (wpAny_setField (s:={s with heap:=_}) lK hd1 (by simp) ?_);refine wpAny_pure ⟨_,rfl,wpAny_pure (h1 v nx _ rfl ⟨_,aad _ lK (aba (aax hd1 _)),((abO ..).trans (abO ..)).trans hc,?_⟩ ((aac ..).trans (aac ..)))⟩;rw[aax hd1];simp[rawInt]
theorem nO{I S T:Addr}{i ep:Nat}{es:Array (Int×Value)}{t:SetTable}{ord:List Nat}{Q:Option Value->Shared->Prop}(hh:A.handled=none)(hit:fk s.heap I S (.ref T) i es.size ep)(x:eU w s.heap S es ep t)
  (ht:s.heap.get? T=some {cls:=.type "tuple",data:=.seq (ord.map λ(k:Nat)=>rawInt k).toArray}) (le:∀k∈ord,k<es.size)
  (h1:∀k v h',ord[i]?=some k->es[k]?.map (·.2)=some v->fk h' I S (.ref T) (i+1) es.size ep->Heap.SameBut I s.heap h'->Q (some v) {s with heap:=h' })
  (h2:ord[i]?=none->∀h',Heap.ExtBut I s.heap h'->Q none {s with heap:=h' }):wpAny (model prog w) A (pyNext (.ref I)) Q E s:=by
 obtain⟨o,ho,hc,hd⟩:=id hit;obtain⟨os,dN,Gh,dO⟩:=x.ho;unfold pyNext;refine wpAny_bind (wpAny_attempt (aar (name:=Str.ofString "__next__") hit.typeIs c9
  (wpAny_call_entry c9 hit.typeIs lM ?_ (mG _))))
 unfold Builtin.«set_iterator.__next__»;refine wpAny_bind (wpAny_pure ?_);refine wpAny_bind (wpAny_fieldsOf ho hd ?_);dsimp only;refine wpAny_bind (wpAny_setEntries_of dN dO x.fits ?_);rw[if_neg (by simp)];simp only[aaT];have nx:(List.map (λ(k:Nat)=>rawInt k) ord).toArray[i]?=Option.map (λk:Nat=>rawInt (k:Int)) ord[i]?:=by rw[aeh,Zo]
 refine wpAny_bind ?_;unfold seqItems?;refine wpAny_bind (wpAny_load ht (wpAny_pure ?_));dsimp only;rw[nx];cases hk:ord[i]? with
 |none =>rw[Option.map_none];dsimp only;refine wpAny_bind (wpAny_setField ho hd (by simp) ?_);have lK:=aad (Obj.mapFields (·.setIfInBounds 0 (rawInt 0))) ho (aba (aax hd _));have hd1:=aax hd (·.setIfInBounds 0 (rawInt 0));exact x6 (s:={s with heap:=_}) hh lK hd1 (by simp) λh' e=>h2 hk h' λb o' hb q=>e b o' hb ((aac ..).extBut b o' hb q)
 |some k =>have lt:=le k (Zr hk);dsimp only[aaV,rawInt];refine wpAny_bind ?_;unfold setNextDrawn;refine wpAny_bind (wpAny_setState_of dN dO x.fits ?_);dsimp only;rw[if_neg (by simp),aaT,ZF lt];refine wpAny_pure ?_;refine wpAny_bind (wpAny_setField ho hd (by simp) ?_);refine wpAny_pure ⟨_,rfl,wpAny_pure (h1 k _ _ hk (by rw[ZF lt];rfl) ⟨_,aad _ ho (aba (aax hd _)),(abO ..).trans hc,?_⟩ (aac ..))⟩;rw[aax hd];simp[rawInt]
theorem BF(x:eU w s.heap S es ep t)(hb:dY w=true)(Q':Option (Value×Nat)->Shared->Prop)(E':Value->Shared->Prop)
  (h:Q' (((pickOrder (w.params.setOrder S ep) es)[i]?).map λe=>(e.2,sl)) s):wpAny (model prog w) A (setNext S sl i ep) Q' E' s:=by
 obtain⟨os,dN,Gh,dO⟩:=x.ho;unfold setNext;refine wpAny_bind (wpAny_setState_of dN dO x.fits ?_);dsimp only;refine wpAny_bind (gH ?_);rw[if_pos hb,if_neg (by simp)];refine wpAny_bind ?_;unfold setWalk;refine wpAny_bind (wpAny_setState_of dN dO x.fits ?_);dsimp only;refine wpAny_bind (gH ?_);rw[if_pos hb];refine wpAny_bind (wpAny_askSetting ?_);exact wpAny_pure (wpAny_pure h)
theorem vp(x:eU w s.heap S es ep t)(hb:dY w=false)(aP:¬ 1<es.size\/t.plain=true)(Q':Option (Value×Nat)->Shared->Prop)(E':Value->Shared->Prop)
  (h:Q' (match es[SetTable.below t.place sl]?,t.place[SetTable.below t.place sl]? with|some (_,x),some j=>some (x,j+1)|_,_=>none) s):wpAny (model prog w) A (setNext S sl i ep) Q' E' s:=by
 obtain⟨os,dN,Gh,dO⟩:=x.ho;have ld:t.led=true:=by rw[x.led,hb];rfl
 unfold setNext;refine wpAny_bind (wpAny_setState_of dN dO x.fits ?_);dsimp only;refine wpAny_bind (gH ?_);rw[hb,if_neg ZM];rw[if_neg (by show ¬ ((!t.plain&&decide (es.size > 1))=true);rcases aP with aP|aP<;>simp[aP])];refine wpAny_bind ?_;show wpAny _ _ (if (!t.led&&!es.isEmpty)=true then (unsupported "set:maker-not-led" : Sem Unit) else pure ()) _ _ _
 rw[if_neg (by rw[ld];simp)];exact wpAny_pure (wpAny_pure h)
theorem x8{I S:Addr}{f:Value}{i n ep:Nat}{Q:Value->Shared->Prop}(hit:fk s.heap I S f i n ep)(h:Q (.ref I) s):wpAny (model prog w) A (pyIter (.ref I)) Q E s:=by
 refine adm hit.typeIs mH (wpAny_call_entry mH hit.typeIs tX ?_ (vo _));show wpAny _ _ (ret (.ref I)) _ _ s
 exact wpAny_pure ⟨_,rfl,"set_iterator",_,hit.typeIs,c9.lookup,h⟩
theorem Ei{S I T:Addr}{es:Array (Int×Value)}{ep:Nat}{t:SetTable}{ys:List Value}{sl:Nat->Nat}(hIS:S≠I)(len:ys.length=es.size)
  (nx:∀(A:Around) (s:Shared) (i:Nat) (Q':Option (Value×Nat)->Shared->Prop) (E':Value->Shared->Prop),i<=es.size->eU w s.heap S es ep t->Q' ((ys[i]?).map λv=>(v,sl (i+1))) s->wpAny (model prog w) A (setNext S (sl i) i ep) Q' E' s)
  (A:Around) (hh:A.handled=none):WalksS prog w A I [I,S,T] [I] (λa b=>b=a) es.size (λi v=>ys[i]?=some v) (λi s=>fk s.heap I S (.int (sl i) 0) i es.size ep/\eU w s.heap S es ep t) where
 sub:=λb hb=>by simp at hb;simp[hb]
 grefl:=λ_=>rfl
 gtrans:=λ_ _ _ h1 h2=>h2.trans h1
 frame:=λi s h' tk st _ hk=>⟨st.1.keep λo e=>hk I (by simp) o e,st.2.keep λo e=>hk S (by simp) o e⟩
 item:=λi s Q E hi st hQ=>by
  have lt:i<ys.length:=by omega
  have e:ys[i]?=some ys[i]:=Zk lt;refine nN hh st.1 st.2 (some (ys[i],sl (i+1))) (λQ' E' q=>nx _ s i Q' E' (by omega) st.2 (by rw[e];exact q)) (λv n h' r Ej hs=>?_) λr=>nomatch r;cases r;exact hQ _ _ e ⟨Ej,st.2.keep λo q=>hs.extBut S o hIS q⟩ ⟨λb o hb q=>hs.extBut b o (λz=>hb (by simp[z])) q,rfl,rfl,rfl,Zn _⟩
 done:=λs Q E st hQ=>by have e:ys[es.size]?=none:=aao (by omega);refine nN hh st.1 st.2 none (λQ' E' q=>nx _ s _ Q' E' (Zn _) st.2 (by rw[e];exact q)) (λv n h' r _ _=>nomatch r) λ_ h' he=>?_;exact hQ _ ⟨λb o hb q=>he b o (λz=>hb (by simp[z])) q,rfl,rfl,rfl,Zn _⟩
 self:=λi s Q E st hQ=>x8 st.1 hQ
theorem Ek{es:Array (Int×Value)}{t:SetTable}{ord:List Nat}(hIS:S≠I)(hIT:T≠I)(len:ord.length=es.size)(le:∀k∈ord,k<es.size)
  (A:Around) (hh:A.handled=none):WalksS prog w A I [I,S,T] [I] (λa b=>b=a) es.size (λi v=>(ord.map λk=>(es[k]?.map (·.2)).getD .none)[i]?=some v)
   (λi s=>fk s.heap I S (.ref T) i es.size ep/\eU w s.heap S es ep t/\s.heap.get? T=some {cls:=.type "tuple",data:=.seq (ord.map λ(k:Nat)=>rawInt k).toArray}) where
 sub:=λb hb=>by simp at hb;simp[hb]
 grefl:=λ_=>rfl
 gtrans:=λ_ _ _ h1 h2=>h2.trans h1
 frame:=λi s h' tk st _ hk=>⟨st.1.keep λo e=>hk I (by simp) o e,st.2.1.keep λo e=>hk S (by simp) o e,hk T (by simp) _ st.2.2⟩
 item:=λi s Q E hi st hQ=>by
  refine nO hh st.1 st.2.1 st.2.2 le (λk v h' hk hv Ej hs=>?_) λr=>?_
  ·refine hQ _ _ (by rw[Zo,hk];simp[hv]) ⟨Ej,st.2.1.keep λo q=>hs.extBut S o hIS q,hs.extBut T _ hIT st.2.2⟩ ⟨λb o hb q=>hs.extBut b o (λz=>hb (by simp[z])) q,rfl,rfl,rfl,Zn _⟩
  ·exact absurd (aaE.mp r) (by omega)
 done:=λs Q E st hQ=>by
  refine nO hh st.1 st.2.1 st.2.2 le (λk v h' hk _ _ _=>?_) λ_ h' he=>?_
  ·exact absurd hk (by rw[aao (by omega)];simp)
  ·exact hQ _ ⟨λb o hb q=>he b o (λz=>hb (by simp[z])) q,rfl,rfl,rfl,Zn _⟩
 self:=λi s Q E st hQ=>x8 st.1 hQ
theorem xu(p:Nat):SetTable.below #[p] 0=0:=by simp[SetTable.below,SetTable.below.go]
theorem xw(p:Nat):SetTable.below #[p] (p+1)=1:=by simp[SetTable.below,SetTable.below.go]
theorem x9(xs:Array α)(h:xs.size=1):∃e,xs=#[e]:=by
 obtain⟨l⟩:=xs;match l,h with
 |[e],_=>exact⟨e,rfl⟩
theorem El{es:Array (Int×Value)}{t:SetTable}{Q:Value->Shared->Prop}(x:eU w s.heap S es ep t)(small:es.size<=sizeLine)
  (h:∀(I T:Addr) (ys:List Value) (St:Nat->Shared->Prop) (h':Heap) (dr:Drawn),ys.Perm (es.toList.map (·.2))->@LE.le Nat _ s.heap.objs.size I->(T=S\/@LE.le Nat _ s.heap.objs.size T)->(∀b o,s.heap.get? b=some o->h'.get? b=some o) ->
   @LT.lt Nat _ I h'.objs.size->@LT.lt Nat _ T h'.objs.size ->
   (∀A:Around,A.handled=none->WalksS prog w A I [I,S,T] [I] (λa b=>b=a) es.size (λi v=>ys[i]?=some v) St)->(∀i s',St i s'->s'.TypeIs (.ref I) "set_iterator")->St 0 {s with heap:=h',drawn:=dr}->Q (.ref I) {s with heap:=h',drawn:=dr}) :
  wpAny (model prog w) A (pyIter (.ref S)) Q E s:=by
 obtain⟨os,dN,Gh,dO⟩:=x.ho;have BG:@LT.lt Nat _ S s.heap.objs.size:=Zx dN;refine adm x.typeIs aei (wpAny_call_entry aei x.typeIs qW ?_ (PySem.F.args_set_iter_1 _));unfold Builtin.«frozenset.__iter__» Builtin.Frozenset.slot0 slotArgs;simp only[aff,abG,ZR,↓reduceIte,bind_assoc,aaL,bne_self_eq_false];unfold Builtin.Frozenset.addrOf Builtin.Frozenset.sizeOf;refine wpAny_bind (wpAny_pure ?_);dsimp only;refine wpAny_bind (wpAny_pure ?_);refine wpAny_bind (wpAny_bind (wpAny_setEntries_of dN dO x.fits (wpAny_pure ?_)));refine wpAny_bind ?_;unfold setDrawn;refine wpAny_bind (wpAny_setState_of dN dO x.fits ?_);dsimp only;refine wpAny_bind (gH ?_);refine wpAny_pure ?_;show wpAny _ _ (if (!dY w&&(!t.plain&&decide (es.size > 1)))=true then _ else _) _ _ _
 have mI:∀(ys:List Value) (sl:Nat->Nat),sl 0=0->ys.Perm (es.toList.map (·.2))->(∀(A:Around) (s:Shared) (i:Nat) (Q':Option (Value×Nat)->Shared->Prop) (E':Value->Shared->Prop),i<=es.size->eU w s.heap S es ep t->Q' ((ys[i]?).map λv=>(v,sl (i+1))) s->wpAny (model prog w) A (setNext S (sl i) i ep) Q' E' s) ->
   wpAny (model prog w) A.in1 (do
     let first <-pure (rawInt 0)
     let __do_lift <-setEpoch S
     let __do_lift <-newFields "set_iterator" [first,rawInt 0,Value.ref S,rawInt es.size,rawInt __do_lift]
     ret __do_lift) (λfin s'=>∃v,fin=Fin.done (Flow.ret v)/\∃T' r,s'.TypeIs v T'/\typeLookup (Value.type T') (Str.ofString "__next__")=pure (some r)/\Q v s') E s:=λys sl s0 hp nx=>by
  have len:ys.length=es.size:=by rw[hp.length_eq];simp
  refine wpAny_bind (wpAny_pure (wpAny_bind (wpAny_setEpoch_of dN dO x.fits ?_)));refine wpAny_bind (wpAny_newObj_type (wpAny_pure ⟨_,rfl,"set_iterator",_,⟨_,Zw _ rfl,rfl⟩,c9.lookup,?_⟩));have sz:(s.heap.push {cls:=.type "set_iterator",data:=.fields #[rawInt 0,rawInt 0,Value.ref S,rawInt es.size,rawInt ep]}).objs.size=s.heap.objs.size+1:=Z' ..;refine h s.heap.objs.size S ys _ _ s.drawn hp (Zn _) (.inl rfl) (λb o e=>Zl _ e) (by rw[sz];exact aav _) (by rw[sz];exact abj BG)
   (λA hh=>Ei (t:=t) (ep:=ep) (sl:=sl) (ZQ BG) len nx A hh) (λi s' st=>st.1.typeIs) ⟨⟨_,Zw _ rfl,rfl,by rw[s0];simp[rawInt]⟩,x.keep λo e=>Zl _ e⟩
 cases hb:dY w with
 |true =>rw[if_neg (by simp)];refine mI ((pickOrder (w.params.setOrder S ep) es).toList.map (·.2)) (λ_=>0) rfl ((BE _ es).map _) λA s i Q' E' _ x' q=>BF x' hb Q' E' ?_;rw[Zo,aae,Option.map_map] at q;exact q
 |false=>
  have fz:t.place.size=es.size:=by
   have:=x.fits
   unfold SetTable.fits at this;simp at this;exact this.1
  by_cases many:1<es.size
  ·rcases x.pl many with np|⟨yp,ri⟩;rotate_left
   ·rw[if_neg (by rw[yp];simp)];refine mI (es.toList.map (·.2)) (λi=>if i=0 then 0 else t.place.getD (i-1) 0+1) rfl (.refl _) λA s i Q' E' hi x' q=>vp x' hb (.inr yp) Q' E' ?_;have bl:SetTable.below t.place (if i=0 then 0 else t.place.getD (i-1) 0+1)=i:=L3.zR ri (by rw[fz];exact hi);rw[bl];have e1:(es.toList.map (·.2))[i]?=(es[i]?).map (·.2):=by rw[Zo,aae]
    rw[e1] at q;by_cases c:i<es.size
    ·rw[ZF c] at q⊢;rw[ZF (show i<t.place.size by omega)];have e2:t.place.getD (i+1-1) 0=t.place[i]'(by omega):=by simp[fz,c]
     simp only[Nat.add_one_ne_zero,aam] at q;rw[e2] at q;exact q
    ·rw[Array.getElem?_eq_none (by omega)] at q⊢;exact q
   rw[if_pos (by rw[np];simp[many])];refine wpAny_bind (qa es.size _ _ _ (by simp) λord dr hp=>?_);have lo:ord.length=es.size:=by rw[hp.length_eq];simp
   have le:∀k∈ord,k<es.size:=λk hk=>by simpa using hp.mem_iff.mp hk
   refine wpAny_bind (wpAny_newTuple ?_ (by rw[Zj,lo];exact small));generalize dv:s.heap.push {cls:=.type "tuple",data:=.seq (ord.map λ(k:Nat)=>rawInt k).toArray}=h1;have kp:∀b o,s.heap.get? b=some o->h1.get? b=some o:=λb o e=>by rw[<-dv];exact Zl _ e
   have sz:h1.objs.size=s.heap.objs.size+1:=by rw[<-dv];exact Z' ..
   have new:h1.get? s.heap.objs.size=some {cls:=.type "tuple",data:=.seq (ord.map λ(k:Nat)=>rawInt k).toArray}:=by rw[<-dv];exact Zw _ rfl
   refine wpAny_bind (wpAny_setEpoch_of (s:={s with heap:=h1,drawn:=dr}) (kp _ _ dN) dO x.fits ?_);refine wpAny_bind (wpAny_newObj_type (wpAny_pure ⟨_,rfl,"set_iterator",_,⟨_,Zw _ rfl,rfl⟩,c9.lookup,?_⟩));have PB:(h1.push {cls:=.type "set_iterator",data:=.fields #[Value.ref s.heap.objs.size,rawInt 0,Value.ref S,rawInt es.size,rawInt ep]}).objs.size=h1.objs.size+1:=Z' ..;refine h h1.objs.size s.heap.objs.size _ _ _ dr ?_ (by rw[sz];exact aaR _) (.inr (Zn _)) (λb o e=>Zl _ (kp b o e)) (by rw[PB];exact aav _) (by rw[PB,sz];exact abj (aav _))
    (λA hh=>Ek (t:=t) (ep:=ep) (ord:=ord) (by rw[sz];exact ZQ (abj BG)) (by rw[sz];exact ZQ (aav _)) lo le A hh) (λi s' st=>st.1.typeIs) ⟨⟨_,Zw _ rfl,rfl,by simp[rawInt]⟩,x.keep λo e=>Zl _ (kp _ _ e),Zl _ new⟩
   refine(hp.map _).trans (.of_eq ?_);refine aaU λj=>?_;rw[Zo,Zo];by_cases hj:j<es.size
   ·have e1:(List.range es.size)[j]?=some j:=List.getElem?_range hj;have e2:es.toList[j]?=some es[j]:=by simp[hj]
    rw[e1,e2];simp[hj]
   ·have e1:(List.range es.size)[j]?=none:=aao (by simp;omega);have e2:es.toList[j]?=none:=aao (by simp;omega);rw[e1,e2];rfl
  ·rw[if_neg (by simp[many])];refine mI (es.toList.map (·.2)) (λi=>if i=0 then 0 else t.place.getD 0 0+1) rfl (.refl _) λA s i Q' E' hi x' q=>vp x' hb (.inl many) Q' E' ?_;have e0:es.size=0\/es.size=1:=by omega
   rcases e0 with e0|e0
   ·have e1:i=0:=by omega
    subst e1;have ee:es=#[]:=Array.eq_empty_of_size_eq_zero e0;subst ee;simpa using q
   ·obtain⟨e,rfl⟩:∃e,es=#[e]:=x9 es e0;obtain⟨p,hp⟩:∃p,t.place=#[p]:=x9 t.place (by rw[fz];rfl);rw[hp];have hi':i=0\/i=1:=by simp at hi;omega
    rcases hi' with rfl|rfl
    ·rw[if_pos rfl,xu];simpa [hp] using q
    ·rw[if_neg (by decide)]
     have:SetTable.below #[p] ((#[p]:Array Nat).getD 0 0+1)=1:=xw p
     rw[this];simpa using q
end
section
theorem Em(hT:s.TypeIs (.ref r) "set")(h:Q false s):wpAny (model prog w) A (Builtin.List.listLengthHint (.ref r)) Q E s:=by
 unfold Builtin.List.listLengthHint;refine wpAny_bind (wpAny_specialOf hT PySem.F.slot_set_len.lookup ?_);generalize PD:("set.__len__" : String)=UE;wp_delta
 rw[show splitId UE=some ("set","__len__") from by subst PD;decide +kernel];subst PD;refine wpAny_bind (wpAny_isInstance (T:="set") (b:=true) hT (by rw[aef];kernel_rfl) ?_);refine adS (λKU=>absurd KU (by decide)) (λ_=>?_);refine adS (λ_=>?_) (λKU=>absurd (by decide +kernel) KU);refine wpAny_bind (wpAny_typeOf hT ?_);exact wpAny_pure h
theorem zS(x:eU w s.heap S es ep t)(small:es.size<=sizeLine)(hh:A.handled=none)(hSL:L≠S)(res:Value)(c₀:Nat)(hL:s.heap.get? L=some {cls:=.type "list",data:=.seq #[] c₀})
  (hR:∀h' tk dr acc' c',(∀b o,b≠L->s.heap.get? b=some o->h'.get? b=some o)->h'.get? L=some {cls:=.type "list",dict:=none,data:=.seq acc' c',slots:=#[]}->acc'.toList.Perm (es.toList.map (·.2))->R (.ok (.ret res)) {s with heap:=h',toks:=tk,drawn:=dr}) :
  wpAny (model prog w) A.in1 (Builtin.List.listExtendWith (.ref L) (.ref S) res)
   (λfin s'=>match fin with|.done f=>R (.ok f) s'|.again c'=>c'.quiet=true/\codeAny (model prog w) A c' R s') (λe s'=>R (.error e) s') s:=by
 have PF:@LT.lt Nat _ L s.heap.objs.size:=Zx hL;unfold Builtin.List.listExtendWith;refine wpAny_bind (wpAny_typeOf (T:="set") x.typeIs ?_);have h1:Builtin.List.listSameRef (.ref L) (.ref S)=false:=by simp[Builtin.List.listSameRef,hSL]
 have n1:(Value.type "set"==Value.type "list")=false:=by decide
 have n2:(Value.type "set"==Value.type "tuple")=false:=by decide
 simp only[h1,n1,n2,afx,ZR,aam];refine wpAny_bind (El x small λI T ys St h' dr hp hI hT kp ltI cR W ty st=>?_);have hLf:L∉[I,S,T]:=by
  simp only[Zs,aay,or_false,not_or];refine⟨ZQ (Z8 PF hI),hSL,?_⟩;rcases hT with hT|hT
  ·rw[hT];exact hSL
  ·exact ZQ (Z8 PF hT)
 have W1:=W A.in1 (by simpa using hh);have len:ys.length=es.size:=by rw[hp.length_eq];simp
 have key:∀(h:Heap) (c₁ tk:Nat),St 0 {s with heap:=h,toks:=tk,drawn:=dr}->(∀b o,b≠L->s.heap.get? b=some o->h.get? b=some o) ->
   h.get? L=some {cls:=.type "list",data:=.seq #[] c₁}->codeAny (model prog w) A (.builtin "list.extend.loop" ⟨[.ref L,.ref I,res],[]⟩) R {s with heap:=h,toks:=tk,drawn:=dr}:=by
  intro h c₁ tk hst hk BH;refine codeAny_extend_loopS W1 small L hLf res es.size 0 _ #[] c₁ rfl (ZE _) hst BH (ItemsOf.nil _) λs' acc' c' hm vq k7=>?_;obtain⟨h2,g2,d2,t2,o2⟩:=s';cases (show g2=s.gens from hm.gens);cases (show d2=dr from hm.drawn);cases (show o2=s.os from hm.os);refine hR h2 t2 dr acc' c' (λb o hb e=>hm.heap b o (λhmem=>?_) (hk b o hb e)) vq ?_
  ·rcases Zs.mp hmem with e'|hmem
   ·exact hb e'
   ·exact absurd (Zx e) (by rw[ZJ.mp hmem];exact acP.mpr hI)
  ·have e:acc'.toList=ys:=by
    refine aaU λj=>?_;by_cases hj:j<es.size
    ·have l1:j<acc'.size:=by rw[k7.1];exact hj
     have e1:acc'[j]?=some acc'[j]:=by simp[l1]
     rw[k7.2 j _ e1,aae];exact e1
    ·rw[aao (by rw[Z9,k7.1];omega),aao (by omega)]
   rw[e];exact hp
 have BH:=kp _ _ hL;have x1:=x.keep λo e=>kp _ _ e;refine wpAny_bind (wpAny_holding (Em (s:={s with heap:=h',drawn:=dr}) x1.typeIs ?_));refine adS (λ_=>?_) (λ_=>wpAny_pure ⟨abt ads _,key _ c₀ _ st (λb o _ e=>kp b o e) BH⟩);refine wpAny_bind (wpAny_rule ?_);refine wpAny_bind ?_;show wpAny _ _ (updateSeq L (·.push .none)>>=λ_=>updateSeq L (·.pop)) _ _ _
 refine wpAny_bind (wpAny_updateSeq BH rfl ?_);have PH:=aad (Obj.mapSeq (·.push Value.none)) BH rfl;refine wpAny_updateSeq (hz:=by seq_fits) PH rfl ?_;have UG:=aad (Obj.mapSeq (·.pop)) PH rfl;refine wpAny_pure ⟨abt ads _,key _ _ _ ?_ (λb o hb e=>?_) UG⟩
 ·refine W1.frame 0 _ _ _ st (Zn _) λb hb o e=>?_;have PJ:b≠L:=λh=>hLf (h▸hb);exact(Z3 _ _ (Z0 PJ)).trans ((Z3 _ _ (Z0 PJ)).trans e)
 ·exact(Z3 _ _ (Z0 hb)).trans ((Z3 _ _ (Z0 hb)).trans (kp _ _ e))
theorem xx(x:eU w s.heap S es ep t)(small:es.size<=sizeLine)(hh:A.handled=none)
  (h:∀(h':Heap) (tk:Nat) (dr:Drawn) (acc:List Value),(∀b o,s.heap.get? b=some o->h'.get? b=some o)->acc.Perm (es.toList.map (·.2))->R acc {s with heap:=h',toks:=tk,drawn:=dr}) :
  wpAny (model prog w) A (collect (.ref S)) R E s:=by
 obtain⟨os,dN,_⟩:=x.ho;have BG:@LT.lt Nat _ S s.heap.objs.size:=Zx dN;unfold collect;refine wpAny_bind (wpAny_runValue (codeAny_builtin PySem.F.entry_proto_collect ?_));rw[aaQ PySem.F.plain_proto_collect _];show wpAny _ A.in1 (newList []>>=λl=>again (.builtin "list.__iadd__" ⟨[l,.ref S],[]⟩)) _ _ s
 refine wpAny_bind (wpAny_newObj_type ?_);refine wpAny_pure ⟨abt adK _,codeAny_builtin PySem.F.entry_list_iadd ?_⟩;rw[aaQ adK _];have hL:(s.heap.push {cls:=.type "list",data:=.seq ([]:List Value).toArray}).get? s.heap.objs.size=some {cls:=.type "list",data:=.seq #[]}:=Zw _ rfl;show wpAny _ A.in1 (Builtin.List.listExtendWith (.ref s.heap.objs.size) (.ref S) (.ref s.heap.objs.size)) _ _ _
 have key:=zS (prog:=prog) (w:=w) (A:=A) (s:={s with heap:=s.heap.push {cls:=.type "list",data:=.seq ([]:List Value).toArray} })
  (R:=λ(q:Result) (s':Shared)=>∃(h':Heap) (tk:Nat) (dr:Drawn) (acc':Array Value) (c':Nat),q=.ok (.ret (.ref s.heap.objs.size))/\s'={s with heap:=h',toks:=tk,drawn:=dr} /\
   (∀b o,s.heap.get? b=some o->h'.get? b=some o)/\h'.get? s.heap.objs.size=some {cls:=.type "list",dict:=none,data:=.seq acc' c',slots:=#[]}/\acc'.toList.Perm (es.toList.map (·.2)))
  (x.keep λo e=>Zl _ e) small hh (acK BG) (.ref s.heap.objs.size) 0 hL
  (λh' tk dr acc' c' hk vq k7=>⟨h',tk,dr,acc',c',rfl,rfl,λb o e=>hk b o (ZQ (Zx e)) (Zl _ e),vq,k7⟩)
 refine wpAny_mono key (λfin s' x=>?_) λe s' x=>?_
 ·cases fin with
  |done f=>
   obtain⟨h',tk,dr,acc',c',e,rfl,hk,vq,k7⟩:=x;cases e;show wpAny _ A (load s.heap.objs.size>>=_) _ _ _
   refine wpAny_bind (wpAny_load vq ?_);exact wpAny_pure (h h' tk dr acc'.toList hk k7)
  |again c₁=>
   refine⟨x.1,codeAny_mono x.2 λq s₂ y=>?_⟩;obtain⟨h',tk,dr,acc',c',rfl,rfl,hk,vq,k7⟩:=y;show wpAny _ A (load s.heap.objs.size>>=_) _ _ _
   refine wpAny_bind (wpAny_load vq ?_);exact wpAny_pure (h h' tk dr acc'.toList hk k7)
 ·obtain⟨_,_,_,_,_,e',_⟩:=x;cases e'
end
theorem Inv.drawn(I:Inv X pins σ H s):Inv X pins σ H {s with drawn:=dr}:=
 ⟨I.ok,I.os,I.bare,I.base,I.loc,I.cell,I.free,I.e9,I.pin,I.aL,I.len⟩
end L2
namespace HT
open PySem PySem.Spec PyProof.Rows
section
theorem lT{items:Array Value}{lo hi:Option Int}{Q:Value->Shared->Prop}(ht:IsTup s.heap t items)(hs:s.heap.IsSliceOf sl vl vu .none)(pl:IsPart vl lo)(pu:IsPart vu hi)
  (hw:bq items.size 0 lo=0/\bq items.size items.size hi=items.size) (h:Q (.ref t) s):wpAny (model prog w) A (getItem (.ref t) (.ref sl)) Q E s:=by
 obtain⟨os,dN,F3,dO⟩:=id hs;have Kd:s.TypeIs (.ref sl) "slice" := ⟨os,dN,F3⟩
 unfold getItem;try with_reducible refine wpAny_holding ?_
 first|refine wpAny_bind (wpAny_pure ?_)|skip
 refine wpAny_bind (wpAny_sequenceKey ht.typeIs (by decide) ?_);refine wpAny_bind (aar (name:=Str.ofString "__getitem__") ht.typeIs aaA
  (wpAny_call_entry aaA ht.typeIs entry_tuple_getitem ?_ (args_tuple_getitem _ _)))
 show wpAny _ _ (Builtin.Tuple.tupleItemsOf (.ref t)>>=_) _ _ s
 refine wpAny_bind (tupleItemsOf_ ht ?_);refine wpAny_bind (wpAny_typeOf Kd ?_);rw[if_pos (by decide)];refine wpAny_bind (iU hs pl pu ?_);rw[hw.1,hw.2];show wpAny _ _ (if ((((0:Nat):Int)==0&&(1:Int)==1&&(items.size-0)==items.size)=true) then _ else _) _ _ s
 rw[if_pos (by simp)];unfold Builtin.Tuple.tupleIsExact;refine wpAny_bind (wpAny_bind (wpAny_typeOf ht.typeIs (wpAny_pure ?_)));rw[if_pos (by decide)];refine wpAny_bind (wpAny_rule ?_);exact wpAny_pure ⟨_,rfl,wpAny_pure h⟩
end
end HT
namespace L2
open PySem PySem.Spec PyProof.Rows
section
def Eo(K:PySem.W.Frag):V->Option Int->Option Int->Hp->VK->Prop:=λx lo hi H Q=>∃a xs,x=.ref a/\aO K H a xs /\
 ((HT.bq xs.length 0 lo=0/\HT.bq xs.length xs.length hi=xs.length)->Q (.ref a) H)/\(¬ (HT.bq xs.length 0 lo=0/\HT.bq xs.length xs.length hi=xs.length)->∀p,H p=none->Q (.ref p) (upd H p (.tup (fu xs lo hi))))
theorem ya:F5 X (Eo X.K):=by
 rintro pins s σ H x v vl vu lo hi sl Q I rx hs pl pu ⟨a,xs,rfl,hx,h1,h2⟩;by_cases hw:HT.bq xs.length 0 lo=0/\HT.bq xs.length xs.length hi=xs.length
 ·cases rx;obtain⟨its,r,ht,hz⟩:=I.tuple hx;have hlen:its.toArray.size=xs.length:=by rw[Zt];exact r.length.symm
  refine⟨"tuple",_,aaA.lookup,ht.typeIs,?_⟩;exact HT.lT ht hs pl pu (by rw[hlen];exact hw) ⟨.ref a,H,I,rfl,h1 hw⟩
 ·exact Ke pins s σ H (.ref a) v vl vu lo hi sl Q I rx hs pl pu ⟨a,xs,rfl,hx,hw,h2 hw⟩
end
def yb(K:PySem.W.Frag)(a:Addr):It:=
 ⟨λi H=>∃xs x,aq K H a xs/\xs[i]?=some x,λi H x H'=>∃q y,H q=none/\(∀xs,aq K H a xs->xs[i]?=some y)/\x=.ref q/\H'=upd H q (.tup [.int i,y]),λi H=>∃xs,aq K H a xs/\xs.length<=i⟩
theorem BI{P:Program}{w:World}{K:PySem.W.Frag}{elts:List Expr}{x1}{tp:Pos}(a e it:Addr)(ne:e≠it):Turn P w K (.Tuple elts x1 tp) (yb K a) [e,it] e (λi h=>(∃old,IsEnum h e it i old)/\h.IsListIter it a i) where
 mem:=by simp
 obj:=λi h st b hb=>by
  obtain⟨⟨old,he⟩,o,ho,c,d⟩:=st;rcases Zs.mp hb with q|q
  ·subst q;exact⟨_,he,λv z=>nomatch z⟩
  ·have q':b=it:=by simpa using q
   subst q';exact⟨o,ho,λv z=>by rw[d] at z;cases z⟩
 keep:=λi h h' st k=>⟨let ⟨old,he⟩:=st.1;⟨old,k e (by simp) _ he⟩,st.2.at λo q=>k it (by simp) o q⟩
 item:=by
  intro X hP hw hK hc i pins s σ H E I hf st hg;subst hP hw hK;obtain⟨⟨old,he⟩,hit⟩:=st;obtain⟨xs,x,hq,hx⟩:=hg;obtain⟨its,rv,p,hz⟩:=I.list hq;obtain⟨u,hu,ru⟩:=rv.get hx;have f1:=hf e (by simp);have f2:=hf it (by simp);refine wpAny_pyNext_enum_item he hit p.isList (x:=u) (by simpa using hu) ne λh1 o1 i1 t1 z1 k1=>⟨_,rfl,?_⟩
  refine wpAny_letOwnedTupleGo_enum o1 λh2 e2 sb=>?_;have nq:∀{b:Addr} {o:Obj},s.heap.get? b=some o->b≠s.heap.objs.size:=λ{b o} q=>ZQ (Zx q);have eO:@LT.lt Nat _ e s.heap.objs.size:=Zx he;have ltI:@LT.lt Nat _ it s.heap.objs.size:=let ⟨o,q,_⟩:=hit;Zx q
  have qe:s.heap.objs.size≠e:=λz=>by have z':@Eq Nat s.heap.objs.size e:=z;omega
  have hn:H s.heap.objs.size=none:=I.aL.fresh (Zn _);have kk:∀b o,b≠e->b≠it->s.heap.get? b=some o->h2.get? b=some o:=λb o n1 n2 q=>(sb.2 b n1).trans (k1 b o n1 n2 q);have tq:h2.get? s.heap.objs.size=some {cls:=.type "tuple",data:=.seq #[.int i s.toks,u]}:=(sb.2 _ qe).trans t1;have hH:∀b o,H b=some o->b≠e/\b≠it/\b≠s.heap.objs.size:=λb o q=>⟨aw q f1.1,aw q f2.1,aw q hn⟩
  refine⟨.ref s.heap.objs.size,upd H s.heap.objs.size (.tup [.int i,x]),?_,rfl,⟨_,x,hn,λys hy=>by rw[I.kH hy hq];exact hx,rfl,rfl⟩,⟨⟨u,e2⟩,i1.at λo q=>(sb.2 _ (Z0 ne)).trans q⟩,λb hb=>?_⟩
  ·refine Inv.mV (ch:=[e,it]) I (s':={s with heap:=h2,toks:=s.toks+1}) rfl ⟨λb ob q n hb hx=>?_,λb ob q n hb hx=>?_,λb ob q n hx=>?_,λb ob q hx=>?_,λb ys q=>?_,λb ob ys q=>?_,λb ps q=>⟨#[],?_⟩⟩ ?_ I.bare λb hb=>?_
   ·exact kk b ob (λz=>hx (by simp[z])) (λz=>hx (by simp[z])) q
   ·exact⟨ob.slots,kk b ob (λz=>hx (by simp[z])) (λz=>hx (by simp[z])) q⟩
   ·rw[ak (nq q)];exact n
   ·exact⟨ob,kk b ob (λz=>hx (by simp[z])) (λz=>hx (by simp[z])) q⟩
   ·rw[ak (hH _ _ q).2.2];exact q
   ·rw[ak (hH _ _ q).2.2];exact q
   ·rw[ak (hH _ _ q).2.2,q];simp
   ·intro b ob q;by_cases hb:b=s.heap.objs.size
    ·subst hb;rw[ai] at q;cases q;exact⟨by show 2<=sizeLine;decide,[.int i s.toks,u],.cons ⟨_,rfl⟩ (.cons ru .nil),⟨_,tq,rfl,0,rfl⟩⟩
    ·rw[ak hb] at q;refine(I.aL b ob q).iw (λc v hc g=>?_) (λc g=>?_) λc ys g=>?_
     ·refine kk c v ?_ ?_ g
      ·rcases hc with z|z
       ·rw[z];exact(hH _ _ q).1
       ·exact(hH _ _ z).1
      ·rcases hc with z|z
       ·rw[z];exact(hH _ _ q).2.1
       ·exact(hH _ _ z).2.1
     ·rw[ak (hH _ _ g).2.2];exact g
     ·rw[ak (hH _ _ g).2.2];exact g
   ·rcases Zs.mp hb with z|z
    ·subst z;exact⟨f1.2.2.2.1,f1.2.1,f1.2.2.2.2.1,f1.2.2.2.2.2⟩
    ·have z':b=it:=by simpa using z
     subst z';exact⟨f2.2.2.2.1,f2.2.1,f2.2.2.2.2.1,f2.2.2.2.2.2⟩
  ·have lt:b≠s.heap.objs.size:=by
    rcases Zs.mp hb with z|z
    ·rw[z];exact ZQ eO
    ·have z':b=it:=by simpa using z
     rw[z'];exact ZQ ltI
   rw[ak lt];exact(hf b hb).1
 done:=by intro X hP hw hK hc i pins s σ H E I hf st hg;subst hP hw hK;obtain⟨⟨old,he⟩,hit⟩:=st;obtain⟨xs,hq,hx⟩:=hg;obtain⟨its,rv,p,hz⟩:=I.list hq;obtain⟨f0,f1,f2,f3,f4,f5⟩:=hf it (by simp);have hl:=rv.length;exact wpAny_pyNext_enum_end (I.ok.hd hc) he hit p.isList (by simp;omega) λh' eb=>⟨rfl,I.turned (t':=s.toks) (λb o hb q=>eb b o hb q) f0 f1 f3 f4 f5⟩
 self:=λ_ _ _ _ _ st h=>let ⟨⟨_,he⟩,_⟩:=st;wpAny_pyIter_enum he h
def Oe(K:PySem.W.Frag)(ta:TA):TI:=λσ H R=>ta σ H λvs H1=>∃a,vs=[.ref a]/\(∃xs,aq K H1 a xs)/\R (yb K a) H1
section
theorem qX{elts:List Expr}{x1}{tp:Pos}{l:Expr}{ta:TA}{p pos:Pos}(hg:Gl X "enumerate")(hm:X.mg "enumerate" = none)(ha:PA X [l] ta)(hs:starEach [l] X.env=[(false,eval l X.env)]:=by rfl):PI X (.Tuple elts x1 tp) (.Call (.Name "enumerate" p) [l] [] pos) (Oe X.K ta):=by
 intro pins s σ H R I h;refine aaN (gu I hg hm boot_enumerate ?_);refine aaM (aH (ha pos pins s σ H _ I h) λus s1 ⟨vs,H1,I1,r1,q1⟩=>?_) hs rfl;obtain⟨a,rfl,⟨xs,hq⟩,q⟩:=q1;obtain⟨u,rfl,ru⟩:=vals1 r1;cases ru;obtain⟨its,rv,pl,hz⟩:=I1.list hq;refine call_enumerate_list pl.isList λh' e1 i1 z1 k1=>?_;refine wpAny_pyIter_enum e1 ?_;have ne:s1.heap.objs.size+1≠s1.heap.objs.size:=Nat.succ_ne_self _;refine⟨s1.heap.objs.size+1,[s1.heap.objs.size+1,s1.heap.objs.size],_,_,H1,rfl,I1.kept (t':=s1.toks) k1,BI a _ _ ne,⟨⟨_,e1⟩,i1⟩,λb hb=>?_,q⟩;have le:@LE.le Nat _ s1.heap.objs.size b:=by
  rcases Zs.mp hb with z|z
  ·rw[z];exact aaR _
  ·have z':b=s1.heap.objs.size:=by simpa using z
   rw[z'];exact Zn _
 exact I1.oq le (I1.aL.fresh le)
end
theorem Ep{K:PySem.W.Frag}{a:Addr}{xs:List V}{g:TG}{tb:TS}{D:Ends}{σ:St}{H:Hp}(Pv:Nat->St->Hp->Prop)(h0:Pv 0 σ H)(hl:∀i σ H,i<=xs.length->Pv i σ H->aq K H a xs)
  (hs:∀i x σ H q,xs[i]?=some x->Pv i σ H->H q=none->g (.ref q) σ (upd H q (.tup [.int i,x])) λσ2 H2=>tb {D with nx:=Pv (i+1),ct:=Pv (i+1),bk:=D.nx} σ2 H2) (hd:∀σ H,Pv xs.length σ H->D.nx σ H) :
  ∃W:Nat->Nat->St->Hp->Prop,(∃m,W 0 m σ H)/\∀i m σ H,W i m σ H ->
   ((yb K a).stop i H/\D.nx σ H)\/((yb K a).go i H/\∃N:St->Hp->Prop,(∀σ' H',N σ' H'->∃m',m'<m/\W (i+1) m' σ' H')/\∀x H',(yb K a).jw i H x H'->g x σ H' λσ2 H2=>tb {D with nx:=N,ct:=N,bk:=D.nx} σ2 H2):=by
 refine⟨λi m σ H=>m=xs.length-i/\i<=xs.length/\Pv i σ H,⟨xs.length,by simp,ZE _,h0⟩,?_⟩;rintro i m σ H ⟨rfl,hi,p⟩;have q:=hl i σ H hi p;by_cases hlt:i<xs.length
 ·refine .inr ⟨⟨xs,xs[i],q,by simp[hlt]⟩,Pv (i+1),λσ' H' p'=>⟨xs.length-(i+1),by omega,rfl,hlt,p'⟩,λx H' ⟨r,y,hr,hy,e1,e2⟩=>?_⟩;subst e1 e2;exact hs i y σ _ r (hy xs q) p hr
 ·have e:i=xs.length:=by omega
  subst e;exact .inl ⟨⟨xs,q,Zn _⟩,hd σ H p⟩
theorem Ip{K:PySem.W.Frag}{a:Addr}{xs:List V}{own:List Str}{fr:List Nat}{g:TG}{tt:TT}{te:TE}{σ:St}{Q:VK}{H:Hp}(Pv:Nat->List V->Hp->Prop)(h0:Pv 0 [] H)(hlen:∀i ys H,i<=xs.length->Pv i ys H->ys.length<=sizeLine)
  (hl:∀i ys H,i<=xs.length->Pv i ys H->aq K H a xs)
  (hs:∀i x ys H q (R:List V->Hp->Prop),xs[i]?=some x->Pv i ys H->H q=none->(∀cB H',Pv (i+1) cB H'->R cB H')->g (.ref q) (cI own fr σ) (upd H q (.tup [.int i,x])) λσ4 H4=>tt σ4 H4 λb H5=>if b=true then te σ4 H5 λy H6=>R (ys++[y]) H6 else R ys H5)
  (hd:∀ys H,Pv xs.length ys H->∀D,H D=none->Q (.ref D) (upd H D (.lst ys))):dE own fr g tt te σ Q (yb K a) H:=by
 refine⟨λi m ys H=>m=xs.length-i/\i<=xs.length/\Pv i ys H,⟨xs.length,rfl,ZE _,h0⟩,?_⟩;rintro i m ys H2 ⟨rfl,hi,p⟩;refine⟨hlen i ys H2 hi p,?_⟩;have q:=hl i ys H2 hi p;by_cases h:i<xs.length
 ·refine .inr ⟨⟨xs,xs[i],q,by simp[h]⟩,λx H3 ⟨r,y,hr,hy,e1,e2⟩=>?_⟩;subst e1 e2;exact hs i y ys _ r (λcB H'=>∃m',m'<xs.length-i/\(m'=xs.length-(i+1)/\i+1<=xs.length/\Pv (i+1) cB H')) (hy xs q) p hr λcB H' q=>⟨xs.length-(i+1),by omega,rfl,h,q⟩
 ·have e:i=xs.length:=by omega
  subst e;exact .inl ⟨⟨xs,q,Zn _⟩,hd ys H2 p⟩
end L2
namespace cM
open PySem PySem.Spec PyProof.Rows L2
structure Mt(K:PySem.W.Frag)(mg:Str->Option Value)(C fP fS:Addr)(fdP dZ:FuncData):Prop where
 wc:WC K mg C
 pF:bx K "places" "Web.places" m9 fP fdP
 pM:Meth K C "places" fP
 pB:Binds K fdP ["self"] []
 sF:bx K "ties" "Web.ties" uh fS dZ
 sM:Meth K C "ties" fS
 sB:Binds K dZ ["self"] []
theorem bN.eV(h:bN C H x ns ps)(m:Str)(e1:(m==("kept_places" : Str))=false:=by decide +kernel)(e2:(m==("kept_ties" : Str))=false:=by decide +kernel):∃dx fs,H x=some (.ins C dx fs)/\fs.lookup m=none:=by obtain⟨dx,kp,kt,us,q,_⟩:=h;exact⟨dx,_,q,Ob kp kt m e1 e2⟩
structure GoodW(ns:List Str)(ps:List (Str×Str)):Prop where
 good:pZ ns
 ins:jc ns ps
 aP:ps.length<=30
end cM
namespace L2
open PySem PySem.Spec PyProof.Rows
inductive df (ps:List (Str×Str)):Str->Str->Prop where
 |here (a:Str):df ps a a
 |on {a b c:Str} (h:df ps a b) (t:(b,c)∈ps):df ps a c
theorem df.trans(h:df ps a b)(k:df ps b c):df ps a c:=by
 induction k with
 |here=>exact h
 |on _ t ih=>exact ih.on t
theorem df.one(t:(a,b)∈ps):df ps a b:=(df.here a).on t
theorem df.mono(h:df ps a b)(s:∀p∈ps,p∈qs):df qs a b:=by
 induction h with
 |here=>exact .here _
 |on _ t ih=>exact ih.on (s _ t)
theorem df.isin{ns:List Str}{ps:List (Str×Str)}(hi:∀p∈ps,p.1∈ns/\p.2∈ns){a b:Str}(h:df ps a b)(ha:a∈ns):b∈ns:=by
 cases h with
 |here=>exact ha
 |on _ t=>exact(hi _ t).2
theorem df.stays{S:Str->Prop}(h:df ps a b)(ha:S a)(hc:∀p∈ps,S p.1->S p.2):S b:=by
 induction h with
 |here=>exact ha
 |on _ t ih=>exact hc _ t ih
open Classical in
noncomputable def mJ(ns:List Str)(ps:List (Str×Str))(a:Str):List Str:=aY (ns.filter λz=>decide (df ps a z))
theorem Iq[DecidableEq α]:∀{l m:List α},l.Nodup->m.Nodup->(∀x,x∈l ↔ x∈m)->l.Perm m:=λhl hm h=>(ab3 hl hm).mpr h
theorem Er(hl:l.Nodup)(hm:m.Nodup)(h:∀x,x∈l ↔ x∈m):aY l=aY m:=
 pX ((i9 l).trans (Iq hl hm h)) (Bl l)
theorem j7:x∈aY l ↔ x∈l:=(i9 l).mem_iff
theorem BJ(h:l.Nodup):(aY l).Nodup:=(i9 l).nodup_iff.mpr h
theorem Ir:z∈mJ ns ps a ↔ z∈ns/\df ps a z:=by unfold mJ;rw[j7,aaI];simp
theorem BK{ns zs:List Str}{ps:List (Str×Str)}{a:Str}(hn:ns.Nodup)(hz:zs.Nodup)(hi:∀p∈ps,p.1∈ns/\p.2∈ns)(ha:a∈ns)(h:∀z,z∈zs ↔ df ps a z):aY zs=mJ ns ps a:=by refine Er hz (hn.filter _) λx=>?_;rw[h,aaI];simp only[decide_eq_true_eq];exact⟨λr=>⟨r.isin hi ha,r⟩,λr=>r.2⟩
def outs(ps:List (Str×Str))(a:Str):List Str:=(ps.filter λp=>decide (p.1=a)).map (·.2)
theorem vt:b∈outs ps a ↔ (a,b)∈ps:=by
 unfold outs;rw[ZD];constructor
 ·rintro⟨p,hp,rfl⟩;obtain⟨h1,h2⟩:=aaI.mp hp
  have:p.1=a:=by simpa using h2
  rw[<-this];exact h1
 ·intro h;exact⟨(a,b),aaI.mpr ⟨h,by simp⟩,rfl⟩
theorem BL(ps:List (Str×Str))(p:Str×Str)(a:Str):outs (ps++[p]) a=if p.1=a then outs ps a++[p.2] else outs ps a:=by unfold outs;rw[acb,ZU];by_cases h:p.1=a<;>simp[h]
theorem Es(ps:List (Str×Str))(a:Str):(outs ps a).length<=ps.length:=by unfold outs;rw[Zj];exact abb _ _
theorem zT{l m:List Str}(hl:l.Nodup)(h:∀x∈l,x∈m):l.length<=m.length:=by
 induction l generalizing m with
 |nil=>exact ZE _
 |cons x l ih=>
  rw[ZT] at hl;have hx:=h x Zy;have q:=ih (m:=m.erase x) hl.2 λy hy=>(acR (λe:y=x=>hl.1 (e▸hy))).mpr (h y (ZC _ hy));rw[ab9 hx] at q
  have:0<m.length:=abm hx
  simp only[Zz];omega
end L2
namespace cM
open PySem PySem.Spec PyProof.Rows L2
abbrev jh:Stmt:=top 19 -- X1
abbrev iK:Stmt:=top 21 -- spread
section
variable {P:Program}{w:World}{K:PySem.W.Frag}{mg:Str->Option Value}{base:Heap}
structure gI(H:Hp)(d:Addr)(ns:List Str)(ps:List (Str×Str))(ls:List Addr):Prop where
 len:ls.length=ns.length
 nd:ls.Nodup
 hd:H d=some (.dK (tab ns ls))
 at_:∀(i:Nat) z l,ns[i]?=some z->ls[i]?=some l->H l=some (.lst ((outs ps z).map V.str))
theorem gI.same(h:gI H d ns ps ls)(s:av H H'):gI H' d ns ps ls:=⟨h.len,h.nd,s _ _ h.hd,λi z l e1 e2=>s _ _ (h.at_ i z l e1 e2)⟩
theorem gI.get(h:gI H d ns ps ls)(nd:ns.Nodup)(hz:z∈ns):∃(i:Nat) (l:Addr),ns[i]?=some z/\ls[i]?=some l/\bD (tab ns ls) (Sum.inr z:Key)=some (.ref l)/\H l=some (.lst ((outs ps z).map V.str)):=by
 obtain⟨i,hi,e⟩:=aak hz;have e1:ns[i]?=some z:=by rw[Zk hi,e]
 have hl:i<ls.length:=by rw[h.len];exact hi
 have e2:ls[i]?=some ls[i]:=Zk hl;exact⟨i,ls[i],e1,e2,BD nd e1 e2,h.at_ i z _ e1 e2⟩
def yc:Sp:=λvs H Q _=>∃(p t:Addr) (ns:List Str) (ts:List Addr) (ps:List (Str×Str)),vs=[.ref p,.ref t]/\H p=some (.lst (ns.map V.str))/\H t=some (.lst (ts.map V.ref))/\ba H ts ps/\ns.Nodup/\ns.length<=12/\jc ns ps/\ps.length<=1000 /\
 ∀(d:Addr) (ls:List Addr) (H':Hp),gI H' d ns ps ls->av H H'->Q (.ref d) H'
abbrev PK:List Str:=["places","ties","steps","a","b"]
theorem zU:aQ PK ["places","ties"] (ar jh):=⟨rfl,rfl,rfl,by decide +kernel,rfl,by decide +kernel,by decide +kernel⟩
theorem Et(F:bx K "leads" "leads" jh f fd)(T:cm mg):aG P w K mg base aS 1 f fd ["places","ties"] yc:=by
 refine F.ok zU (λvs H Q E h=>?_) (λcdv A outer s H vs Q E hr h=>?_)
 ·obtain⟨p,t,ns,ts,ps,rfl,_⟩:=h;rfl
 ·obtain⟨p,t,ns,ts,ps,rfl,hp,ht,hT,nd,aP,hI,many,k⟩:=h;have hu:=fh hr;refine⟨_,ao (Im (i:=2) ["place"] [] zU.nd rfl rfl rfl (bA (osc:=(ar jh).names) (N:=PK) rfl rfl (by decide +kernel)) (bP (by decide)) (bo (pv 0))
     (λ_ _ _=>aE (i:=0) (show(["place"]:List Str).Nodup by decide +kernel) rfl (Or.inl rfl)) (λ_ _ _=>bp) (λ_ _ _=>pv 0) (λ_ _ _=>bV af))
   (ao (cH aaa rfl (bo (pv 1)) (cU rfl (aU (aE (i:=3) zU.nd rfl (Or.inl rfl)) (aU (aE (i:=4) zU.nd rfl (Or.inl rfl)) cv)))
    (au (bw (cP ZS aah aai cA (gO hu (pv 2) (pv 3) (λ_ _=>rfl)) (aa (pv 4) af)))))
   (au (aT (pv 2)))),?_⟩
  try rw[ck]
  refine⟨_,rfl,p,rfl,⟨_,aq.of hp⟩,Io (K:=K) (xs:=ns.map V.str) (λi kvs H2=>av H H2/\∃ls:List Addr,ls.length=i/\ls.Nodup/\kvs=tab (ns.take i) ls/\∀l∈ls,H l=none/\H2 l=some (.lst [])) ⟨av.refl _,[],rfl,abz,rfl,λ_ z=>nomatch z⟩ ?_ ?_ ?_ ?_⟩
  ·rintro i kvs H2 hi ⟨_,ls,e1,_,rfl,_⟩;rw[Zj] at hi;have lt:(ns.take i).length=i:=by rw[ZK];omega
   rw[xZ (by rw[e1,lt]),lt];exact aag (hZ (by omega))
  ·rintro i kvs H2 _ ⟨s2,_⟩;exact aq.of (s2 _ _ hp)
  ·rintro i x kvs H2 R hx ⟨s2,ls,e1,nl,rfl,all⟩ kR;rw[Zo] at hx;obtain⟨z,ez,rfl⟩:=Zp.mp hx;have hi:i<ns.length:=(Zq.mp ez).1;have lt:(ns.take i).length=i:=by rw[ZK];omega
   simp only[cD,bj,Z7];refine⟨_,rfl,(by decide),λl hl=>⟨Sum.inr z,rfl,kR _ _ ?_⟩⟩;have nz:z∉ns.take i:=λm=>by
    obtain⟨j,hj,e⟩:=aak m;have Gi:j<i:=by rw[lt] at hj;exact hj
    have q:ns[j]?=some z:=by rw[<-e,acm,Zk]
    have:=zO nd q ez
    omega
   have KW:l∉ls:=λm=>by rw[(all l m).2] at hl;cases hl
   refine⟨s2.trans (aj hl),ls++[l],by simp[e1],jY nl KW,?_,λy hy=>?_⟩
   ·rw[ZO,ez,iY _ (vn nz)];exact(vm z l (by rw[e1,lt])).symm
   ·rcases Zv.mp hy with q|q
    ·exact⟨(all y q).1,by rw[ak (aw (all y q).2 hl)];exact(all y q).2⟩
    ·rw[ZJ.mp q];exact⟨s2.free hl,ai⟩
  ·rintro kvs H2 ⟨s2,ls,e1,nl,rfl,all⟩ d hd;rw[Zj] at e1⊢;rw[aab (Zn _)];have hS:gI (upd H2 d (.dK (tab ns ls))) d ns [] ls:=⟨e1,nl,ai,λi z l _ el=>by
    have:=(all l (Zr el)).2
    rw[ak (aw this hd)];exact this⟩
   have s3:av H (upd H2 d (.dK (tab ns ls))):=s2.trans (aj hd);generalize upd H2 d (.dK (tab ns ls))=H3 at hS s3⊢;refine⟨_,rfl,t,rfl,⟨_,aq.of (s3 _ _ ht)⟩,dk (K:=K) (xs:=ts.map V.ref) (λi σ H4=>∃v3 v4,σ=[some (V.ref p),some (V.ref t),some (V.ref d),v3,v4]/\av H H4/\gI H4 d ns (ps.take i) ls) ⟨_,_,rfl,s3,by rw[List.take_zero];exact hS⟩ ?_ ?_ ?_⟩
   ·rintro i σ H4 _ ⟨v3,v4,rfl,s4,_⟩;exact aq.of (s4 _ _ ht)
   ·rintro i y σ H4 hy ⟨v3,v4,rfl,s4,S4⟩;rw[Zo] at hy;obtain⟨u,eu,rfl⟩:=Zp.mp hy;obtain⟨pr,ep,UH⟩:=hT.get eu;obtain⟨i1,i2⟩:=hI pr (Zr ep);refine⟨u,_,rfl,aO.of (s4 _ _ UH),rfl,_,_,rfl,_,_,rfl,rfl,?_⟩;obtain⟨j,l,j1,j2,j3,j4⟩:=S4.get nd i1;refine⟨_,rfl,_,rfl,d,_,rfl,(show c7 H4 d (.str pr.1) (some (.ref l)) from j3▸c7.k (k:=Sum.inr pr.1) S4.hd),.inl ⟨rfl,_,aq.of j4⟩,_,rfl,l,_,_,rfl,rfl,j4,?_,?_⟩
    ·rw[Zj];refine hZ (Zu (Es _ _) (Zu ?_ many));rw[ZK];exact acz _ _
    ·have yd:H l=none:=(all l (Zr j2)).1;refine⟨_,_,rfl,av.bS s4 yd,S4.len,S4.nd,?_,λi' z' l' qb nM=>?_⟩
     ·rw[ak (cg S4.hd j4 (by intro z;cases z))];exact S4.hd
     ·rw[ZO,ep];show _=some (HO.lst ((outs (ps.take i++[pr]) z').map V.str))
      rw[BL];by_cases e:i'=j
      ·subst e;rw[j1] at qb;rw[j2] at nM;cases qb;cases nM;rw[ai,if_pos rfl];simp
      ·have KW:l'≠l:=λq=>e (zO nl (q▸nM) j2);have UI:¬ pr.1=z':=λq=>e (zO nd (q▸qb) j1);rw[ak KW,if_neg UI];exact S4.at_ i' z' l' qb nM
   ·rintro σ H4 ⟨v3,v4,rfl,s4,S4⟩;rw[Zj,hT.len,aab (Zn _)] at S4;exact⟨_,rfl,k d ls H4 S4 s4⟩
end
structure Fl(ns:List Str)(ps:List (Str×Str))(a:Str)(zs hs:List Str):Prop where
 nd:zs.Nodup
 sub:∀z∈zs,z∈ns
 mJ:∀z∈zs,df ps a z
 ji:∀z∈hs,z∈zs
 Gj:hs.Nodup
theorem Fl.more(F:Fl ns ps a zs hs)(hi:jc ns ps)(hb:b∈zs)(t:(b,c)∈ps)(n:c∉zs):Fl ns ps a (zs++[c]) (hs++[c]) where
 nd:=jY F.nd n
 sub:=λz hz=>(Zv.mp hz).elim (F.sub z) λe=>by rw[ZJ.mp e];exact(hi _ t).2
 mJ:=λz hz=>(Zv.mp hz).elim (F.mJ z) λe=>by rw[ZJ.mp e];exact(F.mJ b hb).on t
 ji:=λz hz=>(Zv.mp hz).elim (λh=>ZN _ (F.ji z h)) λe=>Zm _ e
 Gj:=jY F.Gj λm=>n (F.ji c m)
def kz(zs:List Str):List (Key×V):=zs.map λz=>(Sum.inr z,V.bl true)
theorem BM(zs:List Str)(z:Str):bD (kz zs) (Sum.inr z:Key)=if z∈zs then some (.bl true) else none:=by
 induction zs with
 |nil=>rfl
 |cons y r ih=>
  by_cases e:y=z
  ·subst e;rw[if_pos Zy];exact cK rfl
  ·show bD ((Sum.inr y,V.bl true)::kz r) _=_
   rw[cu (λq=>e (adY q)),ih]
   have:z∈y::r ↔ z∈r:=by rw[Zs];exact⟨λh=>h.resolve_left λq=>e q.symm,Or.inr⟩
   by_cases h:z∈r
   ·rw[if_pos h,if_pos (this.mpr h)]
   ·rw[if_neg h,if_neg λq=>h (this.mp q)]
theorem KY(h:z∉zs):putK (kz zs) (Sum.inr z:Key) (.bl true)=kz (zs++[z]):=by rw[iY _ (by rw[BM,if_neg h])];simp[kz]
theorem KZ(zs:List Str):Eg (kz zs) zs:=by simp[Eg,kz]
section
variable {P:Program}{w:World}{K:PySem.W.Frag}{mg:Str->Option Value}{base:Heap}
def vw:Sp:=λvs H Q _=>∃(d:Addr) (a:Str) (ns:List Str) (ps:List (Str×Str)) (ls:List Addr),vs=[.ref d,.str a]/\gI H d ns ps ls/\ns.Nodup/\ns.length<=12/\jc ns ps/\ps.length<=1000/\a∈ns /\
 ∀(l:Addr) (H':Hp),H l=none->H' l=some (.lst ((mJ ns ps a).map V.str))->av H H'->Q (.ref l) H'
abbrev UJ:List Str:=["steps","start","seen","ahead","place","after"]
theorem vy:aQ UJ ["steps","start"] (ar iK):=⟨rfl,rfl,rfl,by decide +kernel,rfl,by decide +kernel,by decide +kernel⟩
def PL(d se ah:Addr)(a:Str)(ns:List Str)(ps:List (Str×Str))(H:Hp)(m:Nat)(σ:L2.St)(H2:Hp):Prop:=
 ∃(v4 v5:Option V) (zs hs:List Str),σ=[some (.ref d),some (.str a),some (.ref se),some (.ref ah),v4,v5]/\av H H2/\H2 se=some (.dK (kz zs))/\H2 ah=some (.lst (hs.map V.str))/\Fl ns ps a zs hs/\a∈zs /\
  (∀z∈zs,z∉hs->∀b∈outs ps z,b∈zs)/\m=2*(ns.length-zs.length)+hs.length
theorem BN(F:bx K "spread" "spread" iK f fd)(T:cm mg):aG P w K mg base aS 1 f fd ["steps","start"] vw:=by
 refine F.ok vy (λvs H Q E h=>?_) (λcdv A outer s H vs Q E hr h=>?_)
 ·obtain⟨d,a,ns,ps,ls,rfl,_⟩:=h;rfl
 ·obtain⟨d,a,ns,ps,ls,rfl,hS,nd,aP,hI,many,ha,k⟩:=h;have hu:=fh hr;refine⟨_,ao (aR (i:=2) vy.nd rfl (Or.inl rfl) (HU (D4 (pv 1) dX HS) rfl rfl (by intro z;cases z) (by decide)))
   (ao (aR (i:=3) vy.nd rfl (Or.inl rfl) (bV (aa (pv 1) af)))
   (ao (om aaa (oA (pv 3) (λ_=>rfl))
    (ao (aR (i:=4) vy.nd rfl (Or.inl rfl) (uL ZS PySem.F.slot_list_pop PySem.F.type_list_pop Kj (pv 3)))
    (au (cH aaa rfl (bo (gO hu (pv 0) (pv 4) (λ_ _=>rfl))) (aE (i:=5) vy.nd rfl (Or.inl rfl))
     (au (bQ (AJ (sC hu (pv 5) (pv 2)))
      (ao (m5 hu (pv 2) (pv 5) dX rfl)
      (au (bw (cP ZS aah aai cA (pv 3) (aa (pv 5) af))))) bu))))))
   (au (aT (aA (qU rfl) (by rfl) T.sorted abN (aa (pv 2) af)))))),?_⟩
  try rw[ck]
  intro se PM;refine⟨_,rfl,ai,[(Sum.inr a,V.bl true)],rfl,(by show 1<=15;decide),?_⟩;rw[xD,show jX [] [((Sum.inr a:Key),V.bl true)]=kz [a] from rfl];have s1:=aj (o:=.dK (kz [a])) PM;have Eu:=ai (H:=H) (a:=se) (o:=.dK (kz [a]));generalize upd H se (.dK (kz [a]))=H1 at s1 Eu⊢;refine⟨_,rfl,(by show 1<=sizeLine;decide),λah hah=>?_⟩;have K0:H ah=none:=s1.free hah;have UK:se≠ah:=aw Eu hah;refine⟨PL d se ah a ns ps H,⟨_,_,_,[a],[a],rfl,s1.trans (aj hah),by rw[ak UK];exact Eu,ai,?_,ZJ.mpr rfl,λz hz n=>absurd hz n,rfl⟩,?_⟩
  ·exact⟨by simp,λz hz=>by rw[ZJ.mp hz];exact ha,λz hz=>by rw[ZJ.mp hz];exact .here _,λz hz=>hz,by simp⟩
  rintro m σ H2 ⟨v4,v5,zs,hs,rfl,s2,Ew,zV,FL,az,cl,rfl⟩;refine⟨_,rfl,_,.inl ⟨_,aq.of zV,rfl⟩,?_⟩;have S2:=hS.same s2;have UL:zs.length<=ns.length:=zT FL.nd FL.sub;have UM:True:=trivial;refine iA (λhne=>?_) (λUN=>?_)
  ·-- a turn
   have K1:hs≠[]:=λe=>by rw[e] at hne;simp at hne
   obtain⟨hs0,pl,rfl⟩:∃hs0 pl,hs=hs0++[pl]:=⟨hs.dropLast,hs.getLast K1,(List.dropLast_concat_getLast K1).symm⟩
   refine⟨λσ' H'=>∃m',m'<2*(ns.length-zs.length)+(hs0++[pl]).length/\PL d se ah a ns ps H m' σ' H',λσ' H' h=>h,?_⟩;refine⟨_,rfl,.inl ⟨rfl,_,aq.of zV⟩,ah,_,.str pl,rfl,rfl,zV,(by simp),?_⟩;have eh:((hs0++[pl]).map V.str).dropLast=hs0.map V.str:=by simp
   rw[eh];have PN:se≠ah:=cg Ew zV (by intro z;cases z);have s3:av H (upd H2 ah (.lst (hs0.map V.str))):=av.bS s2 K0;have K2:(upd H2 ah (.lst (hs0.map V.str))) se=some (.dK (kz zs)):=by rw[ak PN];exact Ew
   have K3:=ai (H:=H2) (a:=ah) (o:=.lst (hs0.map V.str));generalize upd H2 ah (.lst (hs0.map V.str))=H3 at s3 K2 K3⊢;have Gk:pl∈zs:=FL.ji pl (by simp);have S3:=hS.same s3;obtain⟨j,l,j1,j2,j3,j4⟩:=S3.get nd (FL.sub pl Gk);refine⟨_,rfl,_,rfl,d,_,rfl,(show c7 H3 d (.str pl) (some (.ref l)) from j3▸c7.k (k:=Sum.inr pl) S3.hd),l,rfl,⟨_,aq.of j4⟩,?_⟩;have yd:=hS.at_ j pl l j1 j2;refine dk (K:=K) (xs:=(outs ps pl).map V.str) (λi σ H4=>∃(v5:Option V) (zs4 hs4:List Str),σ=[some (.ref d),some (.str a),some (.ref se),some (.ref ah),some (.str pl),v5]/\av H H4/\H4 se=some (.dK (kz zs4))/\H4 ah=some (.lst (hs4.map V.str))/\Fl ns ps a zs4 hs4/\(∀z∈zs,z∈zs4) /\
     (∀z∈zs4,z∉hs4->z≠pl->∀b∈outs ps z,b∈zs4)/\(∀b∈(outs ps pl).take i,b∈zs4)/\2*(ns.length-zs4.length)+hs4.length<2*(ns.length-zs.length)+(hs0++[pl]).length/\zs4.length<=ns.length)
    ⟨_,zs,hs0,rfl,s3,K2,K3,⟨FL.nd,FL.sub,FL.mJ,λz hz=>FL.ji z (ZN _ hz),(ZP.mp FL.Gj).1⟩,λz hz=>hz,?_,λb hb=>by simp at hb,by simp,UL⟩ ?_ ?_ ?_
   ·intro z hz n1 n2;exact cl z hz λq=>(Zv.mp q).elim n1 λe=>n2 (ZJ.mp e)
   ·rintro i σ H4 _ ⟨v5,zs4,hs4,rfl,s4,_⟩;exact aq.of (s4 _ _ yd)
   ·rintro i y σ H4 hy ⟨v5,zs4,hs4,rfl,s4,vz,zW,F4,sub4,cl4,seen4,m4,PQ⟩;rw[Zo] at hy;obtain⟨b,eb,rfl⟩:=Zp.mp hy;have hb:b∈outs ps pl:=Zr eb;have tb:(pl,b)∈ps:=vt.mp hb;have PR:(outs ps pl).take (i+1)=(outs ps pl).take i++[b]:=by rw[ZO,eb];rfl
    refine⟨_,rfl,_,rfl,se,_,rfl,c7.k (k:=Sum.inr b) vz,_,rfl,?_⟩;rw[BM];by_cases hin:b∈zs4
    ·rw[if_pos hin];refine br ⟨_,zs4,hs4,rfl,s4,vz,zW,F4,sub4,cl4,λy hy=>?_,m4,PQ⟩;rw[PR] at hy;exact(Zv.mp hy).elim (seen4 y) λe=>by rw[ZJ.mp e];exact hin
    ·rw[if_neg hin];have PU:(zs4++[b]).length<=ns.length:=zT (F4.more hI (sub4 pl Gk) tb hin).nd (F4.more hI (sub4 pl Gk) tb hin).sub;refine b6 ⟨_,rfl,_,rfl,se,_,rfl,jI.k (k:=Sum.inr b) vz (by simp only[kz,Zj];exact hZ (by omega)),?_⟩;rw[KY hin];have K4:se≠ah:=PN;have K5:(upd H4 se (.dK (kz (zs4++[b])))) ah=some (.lst (hs4.map V.str)):=by rw[ak (Z0 K4)];exact zW
     have UO:hs4.length<=1000:=by
      have:=zT F4.Gj F4.ji
      omega
     refine⟨_,rfl,.inl ⟨rfl,_,aq.of K5⟩,_,rfl,ah,_,_,rfl,rfl,K5,(by rw[Zj];exact hZ UO),?_⟩;refine⟨_,zs4++[b],hs4++[b],rfl,av.bS (av.bS s4 PM) K0,by rw[ak K4,ai],by rw[ai];simp,F4.more hI (sub4 pl Gk) tb hin,λz hz=>ZN _ (sub4 z hz),λz hz n1 n2 c hc=>?_,λy hy=>?_,?_,PU⟩
     ·rcases Zv.mp hz with q|q
      ·exact ZN _ (cl4 z q (λe=>n1 (ZN _ e)) n2 c hc)
      ·exact absurd (Zm _ q) n1
     ·rw[PR] at hy;exact(Zv.mp hy).elim (λq=>ZN _ (seen4 y q)) λe=>Zm _ e
     ·simp only[ZA,aaH] at m4 PU⊢;omega
   ·rintro σ H4 ⟨v5,zs4,hs4,rfl,s4,vz,zW,F4,sub4,cl4,seen4,m4,PQ⟩;rw[Zj,aab (Zn _)] at seen4;refine⟨_,m4,_,_,zs4,hs4,rfl,s4,vz,zW,F4,sub4 a az,λz hz n b hb=>?_,rfl⟩;by_cases e:z=pl
    ·subst e;exact seen4 b hb
    ·exact cl4 z hz n e b hb
  ·-- Kq end
   have he:hs=[]:=by
    cases hs with
    |nil=>rfl
    |cons x r=>simp at UN
   subst he;have all:∀z,z∈zs ↔ df ps a z:=λz=>⟨FL.mJ z,λr=>r.stays (S:=(·∈zs)) az λp hp h1=>cl p.1 h1 (by simp) p.2 (vt.mpr hp)⟩
   refine⟨_,rfl,se,_,zs,rfl,Ew,KZ zs,by omega,λl hl=>?_⟩;rw[BK nd FL.nd hI ha all];exact k l _ (s2.free hl) ai (s2.trans (aj hl))
end
abbrev gU:Stmt:=top 20 -- K6
def turn(ps:List (Str×Str)):List (Str×Str):=ps.map λp=>(p.2,p.1)
theorem jj:(a,b)∈turn ps ↔ (b,a)∈ps:=by
 unfold turn;rw[ZD];constructor
 ·rintro⟨p,hp,e⟩;cases e;exact hp
 ·intro h;exact⟨_,h,rfl⟩
theorem df.turned(h:df ps a b):df (turn ps) b a:=by
 induction h with
 |here=>exact .here _
 |on h t ih=>exact(df.one (jj.mpr t)).trans ih
theorem Iu(h:jc ns ps):jc ns (turn ps):=λp hp=>by obtain⟨q,hq,rfl⟩:=ZD.mp hp;exact⟨(h q hq).2,(h q hq).1⟩
theorem vA(ps:List (Str×Str)):(turn ps).length=ps.length:=Zj ..
section
variable {P:Program}{w:World}{K:PySem.W.Frag}{mg:Str->Option Value}{base:Heap}
def vB:Sp:=λvs H Q _=>∃(b:Addr) (ts:List Addr) (ps:List (Str×Str)),vs=[.ref b]/\H b=some (.lst (ts.map V.ref))/\ba H ts ps/\ps.length<=1000 /\
 ∀(l:Addr) (us:List Addr) (H':Hp),H l=none->H' l=some (.lst (us.map V.ref))->ba H' us (turn ps)->av H H'->Q (.ref l) H'
theorem R':aQ ["ties"] ["ties"] (ar gU):=⟨rfl,rfl,rfl,by decide +kernel,rfl,by decide +kernel,by decide +kernel⟩
theorem Iv(hb:H b=some (.lst (ts.map V.ref)))(hT:ba H ts ps)(aP:ps.length<=1000)
  (k:∀(l:Addr) (us:List Addr) (H':Hp),H l=none->H' l=some (.lst (us.map V.ref))->ba H' us (turn ps)->av H H'->Q (.ref l) H') :
  dE [o1,o2] fr (zc K 2 (jv (bj 0) (jv (bj 1) qK))) cD (Dy (pJ (gM 1) (pJ (gM 0) zo))) σ Q (lF K b) H:=by
 have le:(ts.map V.ref).length=ps.length:=by rw[Zj,hT.len]
 refine cQ (K:=K) (xs:=ts.map V.ref) (λi ys H5=>av H H5/\∃us:List Addr,ys=us.map V.ref/\us.length=i/\ba H5 us (turn (ps.take i))) ⟨av.refl _,[],rfl,rfl,.nil⟩ ?_ ?_ ?_ ?_
 ·rintro i ys H5 hi ⟨_,us,rfl,e,_⟩;rw[Zj,e];rw[le] at hi;exact Zu hi (Zu aP (by decide))
 ·rintro i ys H5 _ ⟨s5,_⟩;exact aq.of (s5 _ _ hb)
 ·rintro i y ys H5 R hy ⟨s5,us,rfl,e,hU⟩ kR;rw[Zo] at hy;obtain⟨t,et,rfl⟩:=Zp.mp hy;obtain⟨p,ep,ht⟩:=hT.get et;refine⟨t,_,rfl,aO.of (s5 _ _ ht),rfl,_,_,rfl,_,_,rfl,rfl,?_⟩;simp only[cD,Z7];refine⟨_,rfl,_,rfl,(by show 2<=sizeLine;decide),λu hu=>?_⟩;have e2:us.map V.ref++[V.ref u]=(us++[u]).map V.ref:=by simp
  refine kR _ _ ⟨s5.trans (aj hu),us++[u],e2,by simp[e],?_⟩;rw[ZO,ep];unfold turn;rw[ZU];exact ba.snoc (hU.same (aj hu)) ai
 ·rintro ys H5 ⟨s5,us,rfl,e,hU⟩ D hD;rw[le,Z6] at hU;exact k D us _ (s5.free hD) ai (hU.same (aj hD)) (s5.trans (aj hD))
theorem BP(F:bx K "turned_pairs" "turned_pairs" gU f fd)(T:cm mg):aG P w K mg base aS 1 f fd ["ties"] vB:=by
 refine F.ok R' (λvs H Q E h=>?_) (λcdv A outer s H vs Q E hr h=>?_)
 ·obtain⟨b,ts,ps,rfl,_⟩:=h;rfl
 ·obtain⟨b,ts,ps,rfl,hb,hT,aP,k⟩:=h;refine⟨_,au (aT (dw ["a","b"] [] rfl (bA (osc:=(ar gU).names) (N:=["ties"]) rfl rfl (by decide +kernel)) (gC (k:=2) (by decide) (by decide)) (bo (pv 0))
    (λ_ _ _=>cU (n:=2) rfl (aU (aE (i:=0) (show(["a","b"]:List Str).Nodup by decide +kernel) rfl (Or.inl rfl)) (aU (aE (i:=1) (show(["a","b"]:List Str).Nodup by decide +kernel) rfl (Or.inl rfl)) cv))) (λ_ _ _=>bp)
    (λ_ _ _=>bE (aa (pv 1) (aa (pv 0) af))))),?_⟩
  try rw[ck]
  exact⟨_,rfl,b,rfl,⟨_,aq.of hb⟩,Iv hb hT aP k⟩
end
end cM
namespace L3
open PySem
def nQ(m:Nat)(p:Probe):Probe:=
 if p.more > 0 then {p with j:=p.j+1,more:=p.more-1} else
 let (i,perturb):=SetTable.leap m p.i p.perturb
 {p with j:=i,more:=SetTable.runEnd m i-i,i,perturb}
def start(m:Nat)(h:Int):Probe:={j:=SetTable.bits h % (m+1),more:=SetTable.runEnd m (SetTable.bits h % (m+1))-SetTable.bits h % (m+1),i:=SetTable.bits h % (m+1),perturb:=SetTable.bits h,dummy:=none}
def st(m:Nat)(h:Int):Nat->Probe
 |0=>start m h
 |k+1=>nQ m (st m h k)
def sl(m:Nat)(h:Int)(k:Nat):Nat:=(st m h k).j
theorem BQ(m:Nat)(p:Probe)(h:p.dummy=none):(nQ m p).dummy=none:=by unfold nQ;split<;>exact h
theorem vC(m:Nat)(h:Int):∀k,(st m h k).dummy=none
 |0=>rfl
 |k+1=>BQ m _ (vC m h k)
def lp(m:Nat)(h:Int):Nat->Nat×Nat
 |0=>(SetTable.bits h % (m+1),SetTable.bits h)
 |k+1=>SetTable.leap m (lp m h k).1 (lp m h k).2
def at_(m:Nat)(h:Int)(L r:Nat):Probe:={j:=(lp m h L).1+r,more:=SetTable.runEnd m (lp m h L).1-(lp m h L).1-r,i:=(lp m h L).1,perturb:=(lp m h L).2,dummy:=none}
def run(m:Nat)(h:Int)(L:Nat):Nat:=SetTable.runEnd m (lp m h L).1-(lp m h L).1
theorem BR(m:Nat)(h:Int)(L:Nat):run m h L<=9:=by unfold run SetTable.runEnd;split<;>omega
def off(m:Nat)(h:Int):Nat->Nat
 |0=>0
 |L+1=>off m h L+run m h L+1
theorem vD(m:Nat)(h:Int):∀L,off m h L<=10*L
 |0=>Zn _
 |L+1=>by have:=vD m h L;have:=BR m h L;unfold off;omega
theorem vE(m:Nat)(h:Int):∀(L r:Nat),r<=run m h L->st m h (off m h L+r)=at_ m h L r
 |0,0,_=>by simp[off,st,start,at_,lp]
 |L+1,0,_=>by
  show nQ m (st m h (off m h L+run m h L))=_
  rw[vE m h L (run m h L) (Zn _)];unfold nQ at_;rw[if_neg (by unfold run;simp)];simp[lp]
 |L,r+1,hr=>by
  show nQ m (st m h (off m h L+r))=_
  rw[vE m h L r (by omega)];unfold nQ at_;rw[if_pos (by unfold run at hr;simp;omega)];simp;omega
theorem mK(hr:r<=run m h L):sl m h (off m h L+r)=(lp m h L).1+r:=by unfold sl;rw[vE m h L r hr];rfl
theorem Iw(h:Int):SetTable.bits h<2 ^ 64:=by unfold SetTable.bits;have a:=acS h (show(2 ^ 64:Int)≠0 by decide);have b:=ab' h (show(0:Int)<2 ^ 64 by decide);omega
theorem BS(m:Nat)(h:Int):∀k,(lp m h k).2=SetTable.bits h / 32 ^ k
 |0=>by simp[lp]
 |k+1=>by
  show(lp m h k).2 / 32=_
  rw[BS m h k,Nat.div_div_eq_div_mul,Nat.pow_succ]
theorem Iy(m:Nat)(h:Int)(k:Nat):(lp m h (13+k)).2=0:=by rw[BS];refine Nat.div_eq_of_lt (Z8 (Iw h) ?_);rw[Nat.pow_add];exact Zu (by decide:2 ^ 64<=32 ^ 13) (Nat.le_mul_of_pos_right _ (Nat.pow_pos (by decide)))
theorem Gm(m:Nat)(h:Int):∀k,(lp m h k).1<m+1
 |0=>acf _ (adA _)
 |k+1=>acf _ (adA _)
def it(m:Nat)(i:Nat):Nat->Nat
 |0=>i
 |k+1=>(it m i k*5+1) % (m+1)
theorem zX(m:Nat)(h:Int):∀k,(lp m h (13+k)).1=it m (lp m h 13).1 k
 |0=>rfl
 |k+1=>by
  show(SetTable.leap m (lp m h (13+k)).1 (lp m h (13+k)).2).1=_
  have z:(lp m h (13+k)).2 / 32=0:=by rw[Iy]
  unfold SetTable.leap;rw[z,zX m h k];rfl
theorem UP:∀i j:Fin 8,∃k:Fin 8,it 7 i.val k.val=j.val:=by decide +kernel
theorem Sa:∀i j:Fin 32,∃k:Fin 32,it 31 i.val k.val=j.val:=by decide +kernel
theorem Gn(hm:m=7\/m=31)(h:Int)(hj:j<=m):∃L,L<m+15/\(lp m h L).1=j:=by
 have i:=Gm m h 13;rcases hm with rfl|rfl
 ·obtain⟨k,e⟩:=UP ⟨_,i⟩ ⟨j,by omega⟩;exact⟨13+k.val,by omega,by rw[zX];exact e⟩
 ·obtain⟨k,e⟩:=Sa ⟨_,i⟩ ⟨j,by omega⟩;exact⟨13+k.val,by omega,by rw[zX];exact e⟩
theorem cover(hm:m=7\/m=31)(h:Int)(hj:j<=m):∃k,k<10*SetTable.turns m/\sl m h k=j:=by
 obtain⟨L,hL,e⟩:=Gn hm h hj;refine⟨off m h L+0,?_,by rw[mK (ZE _)];exact e⟩
 have:=vD m h L
 unfold SetTable.turns;omega
theorem least{P:Nat->Prop}:∀n,P n->∃m,m<=n/\P m/\∀k,k<m->¬ P k:=by
 intro n;induction n using Nat.strongRecOn with
 |ind n ih=>
  intro h;by_cases q:∃k,k<n/\P k
  ·obtain⟨k,hk,pk⟩:=q;obtain⟨m,a,b,c⟩:=ih k hk pk;exact⟨m,by omega,b,c⟩
  ·exact⟨n,Zn _,h,λk hk pk=>q ⟨k,hk,pk⟩⟩
theorem vF[DecidableEq α]:∀{l m:List α},l.Nodup->(∀x∈l,x∈m)->l.length<=m.length
 |[],m,_,_=>ZE _
 |x::l,m,h,k=>by
  obtain⟨h1,h2⟩:=ZT.mp h;have mx:=k x Zy
  have:=vF (m:=m.erase x) h2 λy hy=>(acR (a:=y) (b:=x) (λe=>h1 (by rw[<-e];exact hy))).mpr (k y (ZC _ hy))
  rw[ab9 mx] at this;have pos:=abm mx;rw[Zz];omega
theorem gN(xs:Array α)(hp:p<=xs.size)(x:α)(i:Nat):(SetTable.insertAt xs p x)[i]?=if i<p then xs[i]? else if i=p then some x else xs[i-1]?:=by
 rw[<-aae,SetTable.toList_insertAt];have lt:(xs.toList.take p).length=p:=by rw[ZK];simp;omega
 by_cases h:i<p
 ·rw[if_pos h,ZZ (by omega),acd,if_pos h,aae]
 ·rw[if_neg h,aal (by omega),lt];by_cases e:i=p
  ·subst e;simp
  ·rw[if_neg e];obtain⟨d,rfl⟩:∃d,i=p+1+d:=⟨i-(p+1),by omega⟩
   rw[show p+1+d-p=d+1 by omega,acj,ac7,aae];congr 1;omega
structure Tab(t:SetTable)(es:Array (Int×Value)):Prop where
 rise:jg t.place
 size:t.place.size=es.size
 vG:t.dummies=#[]
 vH:t.mask=7\/t.mask=31
 le:∀i j:Nat,t.place[i]?=some j->j<=t.mask
 aP:es.size<=t.mask
 wp:∀(i j:Nat) (e:Int×Value),t.place[i]?=some j->es[i]?=some e->∃k,k<10*SetTable.turns t.mask/\sl t.mask e.1 k=j/\∀k',k'<k->∃i':Nat,t.place[i']?=some (sl t.mask e.1 k')
theorem Tab.fits(T:Tab t es):t.fits es.size=true:=by
 unfold SetTable.fits SetTable.fill;rw[T.size,T.vG]
 have:=T.aP
 simp;omega
theorem Tab.Sb(T:Tab t es):t.gaveWay=false:=by unfold SetTable.gaveWay;rcases T.vH with e|e<;>rw[e]<;>rfl
theorem Tab.free(T:Tab t es):∃j,j<=t.mask/\∀i:Nat,t.place[i]?≠some j:=by
 refine abx λno=>?_;have all:∀j,j<=t.mask->∃i:Nat,t.place[i]?=some j:=λj hj=>abx λq=>no ⟨j,hj,λi e=>q ⟨i,e⟩⟩;have l:=vF (l:=List.range (t.mask+1)) (m:=t.place.toList) abZ λj hj=>by obtain⟨i,e⟩:=all j (by have:=aau.mp hj;omega);rw[<-aae] at e;exact Zr e
 rw[aaG,Z9,T.size] at l
 have:=T.aP
 omega
theorem Tab.first{t:SetTable}{es:Array (Int×Value)}(T:Tab t es)(h:Int):∃K,K<10*SetTable.turns t.mask/\(∀i:Nat,t.place[i]?≠some (sl t.mask h K))/\∀k,k<K->∃i:Nat,t.place[i]?=some (sl t.mask h k):=by obtain⟨j,hj,e⟩:=T.free;obtain⟨k,hk,es⟩:=cover T.vH h hj;obtain⟨K,a,b,c⟩:=least (P:=λk=>∀i:Nat,t.place[i]?≠some (sl t.mask h k)) k (by rw[es];exact e);exact⟨K,by omega,b,λk' dP=>abx λq=>c k' dP λi e=>q ⟨i,e⟩⟩
theorem ye(T:Tab t es)(hashAt:Nat->Int)(h:Int):∀(f k:Nat),(∃K,k<=K/\K<k+f/\∀i:Nat,t.place[i]?≠some (sl t.mask h K)) ->
  ∃n,k<=n/\(∀k',k<=k'->k'<n->∃i:Nat,t.place[i]?=some (sl t.mask h k')/\(hashAt i==h)=false) /\
   (((∀i:Nat,t.place[i]?≠some (sl t.mask h n))/\SetTable.probe.go t hashAt h f (st t.mask h k)=some (.empty (sl t.mask h n) none)) \/
   ∃i:Nat,t.place[i]?=some (sl t.mask h n)/\(hashAt i==h)=true/\SetTable.probe.go t hashAt h f (st t.mask h k)=some (.candidate (sl t.mask h n) i (st t.mask h (n+1))))
 |0,k,⟨K,a,b,_⟩=>by omega
 |f+1,k,⟨K,a,b,c⟩=>by
  have ej:(st t.mask h k).j=sl t.mask h k:=rfl;by_cases em:∃i:Nat,t.place[i]?=some (sl t.mask h k)
  ·obtain⟨i,ei⟩:=em;cases hh:hashAt i==h with
   |true =>refine⟨k,Zn _,λk' x y=>by omega,.inr ⟨i,ei,hh,?_⟩⟩;rw[SetTable.probe.go,ej,mE T.rise ei];dsimp only;rw[hh];rfl
   |false=>
    have ne:k≠K:=λe=>c i (e▸ei);obtain⟨n,n1,n2,n3⟩:=ye T hashAt h f (k+1) ⟨K,by omega,by omega,c⟩;have e:SetTable.probe.go t hashAt h (f+1) (st t.mask h k)=SetTable.probe.go t hashAt h f (st t.mask h (k+1)):=by rw[SetTable.probe.go,ej,mE T.rise ei];dsimp only;rw[hh];rfl
    rw[e];refine⟨n,by omega,λk' x y=>?_,n3⟩;by_cases q:k'=k
    ·subst q;exact⟨i,ei,hh⟩
    ·exact n2 k' (by omega) y
  ·refine⟨k,Zn _,λk' x y=>by omega,.inl ⟨λi e=>em ⟨i,e⟩,?_⟩⟩;rw[SetTable.probe.go,ej,zQ T.vG (λi e=>em ⟨i,e⟩)];dsimp only;rw[vC]
theorem Tab.put(T:Tab t es)(room:es.size+1<=t.mask)(hK:K<10*SetTable.turns t.mask)(hj:∀i:Nat,t.place[i]?≠some (sl t.mask h K))(hb:∀k,k<K->∃i:Nat,t.place[i]?=some (sl t.mask h k))(sle:sl t.mask h K<=t.mask) :
  Tab (t.put (sl t.mask h K)).1 (SetTable.insertAt es (t.put (sl t.mask h K)).2 (h,x)):=by
 obtain⟨b1,b2,b3⟩:=oN T.rise (sl t.mask h K);have ep:(t.put (sl t.mask h K)).2=SetTable.below t.place (sl t.mask h K):=rfl;have em:(t.put (sl t.mask h K)).1.mask=t.mask:=rfl;have BU:(t.put (sl t.mask h K)).1.place=SetTable.insertAt t.place (SetTable.below t.place (sl t.mask h K)) (sl t.mask h K):=rfl;have ed:(t.put (sl t.mask h K)).1.dummies=#[]:=by
  show(if SetTable.has t.dummies (sl t.mask h K) then _ else t.dummies)=#[]
  have e:SetTable.has t.dummies (sl t.mask h K)=false:=by rw[T.vG];rfl
  rw[e];exact T.vG
 rw[ep];generalize hp:SetTable.below t.place (sl t.mask h K)=p at b1 b2 b3 BU⊢;generalize (t.put (sl t.mask h K)).1=t' at em BU ed⊢;have uj:∀{α:Type} (xs:Array α) (x:α),(SetTable.insertAt xs p x).size=xs.size+1:=λxs x=>by rw[<-Z9,(ad5 xs p x).length_eq];simp
 have pe:p<=es.size:=by rw[<-T.size];exact b1
 have get':∀i:Nat,t'.place[i]?=if i<p then t.place[i]? else if i=p then some (sl t.mask h K) else t.place[i-1]?:=λi=>by rw[BU,gN _ b1]
 have Ex:∀i:Nat,(SetTable.insertAt es p (h,x))[i]?=if i<p then es[i]? else if i=p then some (h,x) else es[i-1]?:=λi=>gN _ pe _ i;have up:∀{s:Nat},(∃i:Nat,t.place[i]?=some s)->∃i:Nat,t'.place[i]?=some s:=λ{s} ⟨i,e⟩=>by
  by_cases q:i<p
  ·exact⟨i,by rw[get',if_pos q];exact e⟩
  ·exact⟨i+1,by rw[get',if_neg (by omega),if_neg (by omega),aca];exact e⟩
 refine⟨λi j hi Gi ij=>?_,by rw[BU,uj,uj,T.size],ed,by rw[em];exact T.vH,λi j e=>?_,by rw[em,uj];exact room,λi j e e1 e2=>?_⟩
 ·have g1:=get' i;have g2:=get' j;rw[ZF hi] at g1;rw[ZF Gi] at g2;have sz:t'.place.size=t.place.size+1:=by rw[BU,uj]
  have lo:∀a (ha:a<t.place.size),a<p->t.place[a]<sl t.mask h K:=λa ha q=>b2 a ha q;have hi':∀a (ha:a<t.place.size),p<=a->sl t.mask h K<t.place[a]:=λa ha q=>by
   have:=b3 a ha q
   have ne:t.place[a]≠sl t.mask h K:=λe=>hj a (by rw[ZF ha,e]);omega
  by_cases c1:i<p
  ·rw[if_pos c1,ZF (show i<t.place.size by omega)] at g1;have v1:=ZH g1;rw[v1];by_cases c2:j<p
   ·rw[if_pos c2,ZF (show j<t.place.size by omega)] at g2;rw[ZH g2];exact T.rise _ _ _ _ ij
   ·rw[if_neg c2] at g2;by_cases c3:j=p
    ·rw[if_pos c3] at g2;rw[ZH g2];exact lo i _ c1
    ·rw[if_neg c3,ZF (show j-1<t.place.size by omega)] at g2;rw[ZH g2];exact acN (lo i _ c1) (hi' (j-1) _ (by omega))
  ·rw[if_neg c1] at g1;rw[if_neg (show ¬ j<p by omega),if_neg (show j≠p by omega),ZF (show j-1<t.place.size by omega)] at g2;rw[ZH g2];by_cases c3:i=p
   ·rw[if_pos c3] at g1;rw[ZH g1];exact hi' (j-1) _ (by omega)
   ·rw[if_neg c3,ZF (show i-1<t.place.size by omega)] at g1;rw[ZH g1];exact T.rise _ _ _ _ (by omega)
 ·rw[get'] at e;rw[em];split at e
  ·exact T.le _ _ e
  ·split at e
   ·cases e;exact sle
   ·exact T.le _ _ e
 ·rw[get'] at e1;rw[Ex] at e2;rw[em];have old:∀{i:Nat},t.place[i]?=some j->es[i]?=some e->∃k,k<10*SetTable.turns t.mask/\sl t.mask e.1 k=j/\∀k',k'<k->∃i':Nat,t'.place[i']?=some (sl t.mask e.1 k'):=λ{i} a b=>by obtain⟨k,x1,x2,x3⟩:=T.wp i j e a b;exact⟨k,x1,x2,λk' dP=>up (x3 k' dP)⟩
  split at e1
  ·rename_i c;rw[if_pos c] at e2;exact old e1 e2
  ·rename_i c
   rw[if_neg c] at e2;split at e1
   ·rename_i c2
    rw[if_pos c2] at e2;cases e1;cases e2;exact⟨K,hK,rfl,λk' dP=>up (hb k' dP)⟩
   ·rename_i c2;rw[if_neg c2] at e2;exact old e1 e2
theorem mL(h:i<=m):SetTable.runEnd m i<=m:=by unfold SetTable.runEnd;split<;>omega
theorem jD(m i:Nat):i<=SetTable.runEnd m i:=by unfold SetTable.runEnd;split<;>omega
theorem Gp(m:Nat)(h:Int):∀k,(st m h k).j+(st m h k).more<=m
 |0=>by
  have a:SetTable.bits h % (m+1)<=m:=ae3 (acf _ (adA m));have b:=mL a;have c:=jD m (SetTable.bits h % (m+1));show SetTable.bits h % (m+1)+(SetTable.runEnd m (SetTable.bits h % (m+1))-SetTable.bits h % (m+1))<=m
  omega
 |k+1=>by
  have ih:=Gp m h k;show(nQ m (st m h k)).j+(nQ m (st m h k)).more<=m
  unfold nQ;split
  ·dsimp only;omega
  ·have a:(SetTable.leap m (st m h k).i (st m h k).perturb).1<=m:=ae3 (acf _ (adA m));have b:=mL a;have c:=jD m (SetTable.leap m (st m h k).i (st m h k).perturb).1;dsimp only;omega
theorem zY(m:Nat)(h:Int)(k:Nat):sl m h k<=m:=by have:=Gp m h k;unfold sl;omega
structure Own(m:Nat)(hs:List Int)(ow:Array (Option Nat)):Prop where
 size:ow.size=m+1
 has:∀a,a<hs.length->∃j:Nat,ow[j]?=some (some a)
 lt:∀(j a:Nat),ow[j]?=some (some a)->a<hs.length
 inj:∀(i j a:Nat),ow[i]?=some (some a)->ow[j]?=some (some a)->i=j
 wp:∀(j a:Nat) (h:Int),ow[j]?=some (some a)->hs[a]?=some h->∃k,k<10*SetTable.turns m/\sl m h k=j/\∀k',k'<k->∃b:Nat,ow[sl m h k']?=some (some b)
theorem qY(O:Own m hs ow)(h:j<=m):ow[j]?=some none\/∃a,ow[j]?=some (some a):=by
 have hj:j<ow.size:=by rw[O.size];omega
 rw[ZF hj];cases e:ow[j] with
 |none=>exact .inl rfl
 |some a=>exact .inr ⟨a,rfl⟩
theorem vI:∀{l:List α},l.Nodup->(∀i∈l,∀j∈l,f i=f j->i=j)->(l.map f).Nodup
 |[],_,_=>abz
 |x::l,h,k=>by
  obtain⟨h1,h2⟩:=ZT.mp h;refine ZT.mpr ⟨λm=>?_,vI h2 λi hi j hj=>k i (ZC _ hi) j (ZC _ hj)⟩;obtain⟨y,hy,e⟩:=ZD.mp m
  have:=k y (ZC _ hy) x Zy e
  exact h1 (this▸hy)
theorem Ey(O:Own m hs ow)(l:hs.length<=m):∃j,j<=m/\ow[j]?=some none:=by
 refine abx λno=>?_;have all:∀j,j<=m->∃a,ow[j]?=some (some a):=λj hj=>(qY O hj).elim (λe=>absurd ⟨j,hj,e⟩ no) id;have f:=vF (l:=(List.range (m+1)).map λj=>((ow[j]?).join).getD 0) (m:=List.range hs.length) (by
   refine vI abZ λi hi j hj e=>?_;obtain⟨a,ea⟩:=all i (by have:=aau.mp hi;omega);obtain⟨b,eb⟩:=all j (by have:=aau.mp hj;omega);rw[ea,eb] at e;have e':a=b:=by simpa using e
   subst e';exact O.inj i j a ea eb) λx hx=>by
  obtain⟨j,hj,rfl⟩:=ZD.mp hx;obtain⟨a,ea⟩:=all j (by have:=aau.mp hj;omega);rw[ea];exact aau.mpr (O.lt j a ea)
 rw[Zj,aaG,aaG] at f;omega
theorem sQ(O:Own m hs ow)(h:Int):∀(f L:Nat),(∃L',L<=L'/\L'<L+f/\ow[(lp m h L').1]?=some none)->(∀k,k<off m h L->∃b:Nat,ow[sl m h k]?=some (some b)) ->
  ∃K,SetTable.layClean.free m ow f (lp m h L).1 (lp m h L).2=some (sl m h K)/\K<10*(L+f)/\ow[sl m h K]?=some none/\∀k,k<K->∃b:Nat,ow[sl m h k]?=some (some b)
 |0,L,⟨L',a,b,_⟩,_=>by omega
 |f+1,L,⟨L',a,b,c⟩,hb=>by
  have il:(lp m h L).1<=m:=by have:=Gm m h L;omega
  have re:SetTable.runEnd m (lp m h L).1+1-(lp m h L).1=run m h L+1:=by have:=jD m (lp m h L).1;unfold run;omega
  have inb:∀r,r<=run m h L->(lp m h L).1+r<=m:=λr hr=>by have:=mL il;have:=jD m (lp m h L).1;unfold run at hr;omega
  have gd:∀r,r<=run m h L->((ow.getD ((lp m h L).1+r) (some 0)).isNone=true ↔ ow[(lp m h L).1+r]?=some none):=λr hr=>by
   have hj:(lp m h L).1+r<ow.size:=by rw[O.size];have:=inb r hr;omega
   rw[ZF hj];simp[Array.getD,hj]
  rw[SetTable.layClean.free,re];cases hf:(List.range (run m h L+1)).find? λk=>(ow.getD ((lp m h L).1+k) (some 0)).isNone with
  |some r=>
   dsimp only;obtain⟨h1,h2,h3⟩:=List.find?_range_eq_some.mp hf;have hr:r<=run m h L:=by have:=aau.mp h2;omega
   refine⟨off m h L+r,by rw[mK hr],?_,by rw[mK hr];exact(gd r hr).mp h1,λk hk=>?_⟩
   ·have:=vD m h L;have:=BR m h L;omega
   ·by_cases q:k<off m h L
    ·exact hb k q
    ·obtain⟨r',rfl⟩:∃r',k=off m h L+r':=⟨k-off m h L,by omega⟩
     have hr':r'<=run m h L:=by omega
     rw[mK hr'];have nn:=h3 r' (by omega);rcases qY O (inb r' hr') with e|e
     ·have:=(gd r' hr').mpr e
      rw[this] at nn;cases nn
     ·exact e
  |none=>
   dsimp only;have all:=List.find?_range_eq_none.mp hf;have PV:∀r,r<=run m h L->∃b:Nat,ow[(lp m h L).1+r]?=some (some b):=λr hr=>by
    have nn:=all r (by omega);rcases qY O (inb r hr) with e|e
    ·have:=(gd r hr).mpr e
     rw[this] at nn;cases nn
    ·exact e
   have ne:L≠L':=λe=>by subst e;obtain⟨b,eb⟩:=PV 0 (ZE _);rw[Nat.add_zero,c] at eb;cases eb
   obtain⟨K,k1,k2,k3,k4⟩:=sQ O h f (L+1) ⟨L',by omega,by omega,c⟩ λk hk=>by
    by_cases q:k<off m h L
    ·exact hb k q
    ·obtain⟨r,rfl⟩:∃r,k=off m h L+r:=⟨k-off m h L,by omega⟩
     have hr:r<=run m h L:=by have dP:off m h L+r<off m h L+run m h L+1:=hk;omega
     rw[mK hr];exact PV r hr
   exact⟨K,k1,by omega,k3,k4⟩
theorem Ez(O:Own m hs ow)(hK:K<10*SetTable.turns m)(e:ow[sl m h K]?=some none)(hb:∀k,k<K->∃b:Nat,ow[sl m h k]?=some (some b)):Own m (hs++[h]) (ow.setIfInBounds (sl m h K) (some hs.length)):=by
 have hj:sl m h K<ow.size:=by rw[O.size];have:=zY m h K;omega
 have get:∀j:Nat,(ow.setIfInBounds (sl m h K) (some hs.length))[j]?=if sl m h K=j then some (some hs.length) else ow[j]?:=λj=>by
  rw[Array.getElem?_setIfInBounds];by_cases q:sl m h K=j
  ·rw[if_pos q,if_pos q,if_pos hj]
  ·rw[if_neg q,if_neg q]
 have keep:∀{j a:Nat},ow[j]?=some (some a)->(ow.setIfInBounds (sl m h K) (some hs.length))[j]?=some (some a):=λ{j a} q=>by rw[get,if_neg (λz=>by rw[z,q] at e;cases e)];exact q
 refine⟨by rw[Array.size_setIfInBounds];exact O.size,λa ha=>?_,λj a q=>?_,λi j a p q=>?_,λj a g p q=>?_⟩
 ·rw[ZA,aaH] at ha;by_cases q:a<hs.length
  ·obtain⟨j,ej⟩:=O.has a q;exact⟨j,keep ej⟩
  ·exact⟨sl m h K,by rw[get,if_pos rfl,show a=hs.length by omega]⟩
 ·rw[get] at q;rw[ZA,aaH];split at q
  ·cases q;omega
  ·have:=O.lt j a q;omega
 ·rw[get] at p q;split at p
  ·cases p;split at q
   ·rename_i x y;omega
   ·exact absurd (O.lt _ _ q) (ZX _)
  ·split at q
   ·cases q;exact absurd (O.lt _ _ p) (ZX _)
   ·exact O.inj i j a p q
 ·rw[get] at p;split at p
  ·rename_i x
   cases p;rw[aal (Zn _),ace] at q;cases q;exact⟨K,hK,x,λk' dP=>let ⟨b,eb⟩:=hb k' dP;⟨b,keep eb⟩⟩
  ·have la:=O.lt j a p;rw[ZZ la] at q;obtain⟨k,a1,a2,a3⟩:=O.wp j a g p q;exact⟨k,a1,a2,λk' dP=>let ⟨b,eb⟩:=a3 k' dP;⟨b,keep eb⟩⟩
def vJ(m:Nat)(acc:Option (Array (Option Nat)×Nat))(h:Int):Option (Array (Option Nat)×Nat):=do
 let (owner,k) <-acc
 let j <-SetTable.layClean.free m owner (SetTable.turns m) (SetTable.bits h % (m+1)) (SetTable.bits h)
 pure (owner.setIfInBounds j (some k),k+1)
theorem yh(hm:m=7\/m=31):∀(more hs:List Int) (ow:Array (Option Nat)),Own m hs ow->hs.length+more.length<=m->∃ow',more.foldl (vJ m) (some (ow,hs.length))=some (ow',(hs++more).length)/\Own m (hs++more) ow'
 |[],hs,ow,O,_=>⟨ow,by simp,by simpa using O⟩
 |h::more,hs,ow,O,l=>by
  rw[Zz] at l;obtain⟨j,hj,ej⟩:=Ey O (by omega);obtain⟨L',l1,l2⟩:=Gn hm h hj;obtain⟨K,k1,k2,k3,k4⟩:=sQ O h (SetTable.turns m) 0 ⟨L',ZE _,by unfold SetTable.turns;omega,by rw[l2];exact ej⟩ λk hk=>absurd hk (abJ _);rw[abA] at k2;have O':=Ez O k2 k3 k4;have e:vJ m (some (ow,hs.length)) h=some (ow.setIfInBounds (sl m h K) (some hs.length),(hs++[h]).length):=by unfold vJ;have UQ:SetTable.layClean.free m ow (SetTable.turns m) (SetTable.bits h % (m+1)) (SetTable.bits h)=some (sl m h K):=k1;simp[UQ]
  obtain⟨ow',a,b⟩:=yh hm more (hs++[h]) _ O' (by rw[ZA,aaH];omega);refine⟨ow',?_,by simpa using b⟩;rw[acQ,e,a];simp
theorem BV(hm:m=7\/m=31)(hs:Array Int)(l:hs.size<=m):∃ow,SetTable.layClean m hs=some ow/\Own m hs.toList ow:=by
 have O0:Own m [] (Array.replicate (m+1) (none:Option Nat)):=by
  have no:∀(j a:Nat),(Array.replicate (m+1) (none:Option Nat))[j]?≠some (some a):=λj a e=>by rw[Array.getElem?_replicate] at e;split at e<;>cases e
  exact⟨by simp,λa ha=>absurd ha (abJ _),λj a e=>absurd e (no j a),λi j a e=>absurd e (no i a),λj a h e=>absurd e (no j a)⟩
 obtain⟨ow,a,b⟩:=yh hm hs.toList [] _ O0 (by simpa using l);refine⟨ow,?_,by simpa using b⟩;unfold SetTable.layClean;rw[<-Array.foldl_toList];have a':List.foldl (vJ m) (some (Array.replicate (m+1) none,0)) hs.toList=some (ow,([]++hs.toList).length):=a;show Option.map (·.1) (List.foldl (vJ m) (some (Array.replicate (m+1) none,0)) hs.toList)=some ow
 rw[a'];rfl
theorem vK{g:Nat->Option Nat}:∀l:List Nat,(l.filterMap λj=>(g j).map λa=>(j,a)).map (·.1)=l.filter λj=>(g j).isSome
 |[]=>rfl
 |j::l=>by
  cases e:g j with
  |none=>rw[List.filterMap_cons_none (by simp[e]),vK l,List.filter_cons_of_neg (by simp[e])]
  |some a=>rw[adB (b:=(j,a)) (by simp[e]),ZI,vK l,List.filter_cons_of_pos (by simp[e])]
theorem BW:∀{l:List Nat},(∀a∈l,∃x,f a=some x)->∀i:Nat,(l.filterMap f)[i]?=(l[i]?).bind f
 |[],_,i=>by simp
 |a::l,h,i=>by
  obtain⟨x,e⟩:=h a Zy;rw[adB e];cases i with
  |zero=>simp[e]
  |succ i=>simpa using BW (λb hb=>h b (ZC _ hb)) i
theorem sR:∀{l:List α},(l.map f).Nodup->l.Nodup
 |[],_=>abz
 |x::l,h=>by obtain⟨h1,h2⟩:=ZT.mp h;exact ZT.mpr ⟨λm=>h1 (ZD.mpr ⟨x,m,rfl⟩),sR h2⟩
theorem EA(hm:m=7\/m=31)(es:Array (Int×Value))(l:es.size<=m)(finger moves:Nat)(led plain:Bool):∃(t:SetTable) (order:Array Nat),SetTable.laid m finger moves led plain (es.map (·.1))=some (t,order)/\t.mask=m/\t.led=led/\t.plain=plain /\
  Tab t (order.filterMap λi=>es[i]?)/\(order.filterMap λi=>es[i]?).toList.Perm es.toList/\(order.filterMap λi=>es[i]?).size=es.size:=by
 obtain⟨ow,e,O⟩:=BV hm (es.map (·.1)) (by rw[aej];exact l);have hl:(es.map (·.1)).toList.length=es.size:=by simp
 have gd:∀j a:Nat,ow.getD j none=some a ↔ ow[j]?=some (some a):=λj a=>by
  by_cases hj:j<ow.size
  ·simp[Array.getD,hj]
  ·simp[Array.getD,hj]
 refine⟨_,_,by unfold SetTable.laid;rw[e];rfl,rfl,rfl,rfl,?_⟩;generalize hL:(List.range (m+1)).filterMap (λj=>(ow.getD j none).map λx=>(j,x))=live;have mem:∀{j a:Nat},(j,a)∈live ↔ j<=m/\ow[j]?=some (some a):=λ{j a}=>by
  rw[<-hL,ac6];constructor
  ·rintro⟨j',Gi,q⟩;cases g:ow.getD j' none with
   |none=>rw[g] at q;cases q
   |some a' =>rw[g] at q;cases q;exact⟨by have:=aau.mp Gi;omega,(gd _ _).mp g⟩
  ·rintro⟨hj,q⟩;exact⟨j,aau.mpr (by omega),by rw[(gd j a).mpr q];rfl⟩
 have e1:live.map (·.1)=(List.range (m+1)).filter λj=>(ow.getD j none).isSome:=by rw[<-hL];exact vK _
 have ge:∀a∈live.map (·.2),∃x,es[a]?=some x:=λa ha=>by
  obtain⟨⟨j,a'⟩,hp,rfl⟩:=ZD.mp ha
  have:=O.lt j a' (mem.mp hp).2
  rw[hl] at this;exact⟨es[a'],ZF this⟩
 have UR:(live.map (·.2)).Nodup:=by
  have vL:live.Nodup:=by
   have:(live.map (·.1)).Nodup:=by rw[e1];exact abZ.filter _
   exact sR this
  refine vI vL λp hp q hq ee=>?_;obtain⟨j1,a1⟩:=p;obtain⟨j2,a2⟩:=q;have Gq:a1=a2:=ee;subst Gq;rw[O.inj j1 j2 a1 (mem.mp hp).2 (mem.mp hq).2]
 have pm:(live.map (·.2)).Perm (List.range es.size):=(ab3 UR abZ).mpr λa=>by
  rw[aau];constructor
  ·intro h;obtain⟨⟨j,a'⟩,hp,rfl⟩:=ZD.mp h
   have:=O.lt j a' (mem.mp hp).2
   rw[hl] at this;exact this
  ·intro h;obtain⟨j,ej⟩:=O.has a (by rw[hl];exact h);have hj:j<ow.size:=(ab2.mp ej).1;exact ZD.mpr ⟨(j,a),mem.mpr ⟨by rw[O.size] at hj;omega,ej⟩,rfl⟩
 have tl:((live.map (·.2)).toArray.filterMap λi=>es[i]?).toList=(live.map (·.2)).filterMap λi=>es[i]?:=by rw[Array.toList_filterMap]
 have perm:((live.map (·.2)).toArray.filterMap λi=>es[i]?).toList.Perm es.toList:=by rw[tl];exact(pm.filterMap _).trans (by rw[filterMap_getElem?_range])
 have size:((live.map (·.2)).toArray.filterMap λi=>es[i]?).size=es.size:=by rw[<-Z9,perm.length_eq,Z9]
 have Ex:∀i:Nat,((live.map (·.2)).toArray.filterMap λi=>es[i]?)[i]?=(live[i]?).bind λp=>es[p.2]?:=λi=>by rw[<-aae,tl,BW ge,Zo];cases live[i]?<;>rfl
 have EB:∀i:Nat,((live.map (·.1)).toArray)[i]?=(live[i]?).map (·.1):=λi=>by rw[aeh,Zo]
 have inn:∀{j:Nat},(∃b:Nat,ow[j]?=some (some b))->j<=m->∃i:Nat,((live.map (·.1)).toArray)[i]?=some j:=λ{j} ⟨b,eb⟩ hj=>by obtain⟨i,hi,ei⟩:=aak (mem.mpr ⟨hj,eb⟩);exact⟨i,by rw[EB,Zk hi,ei];rfl⟩
 refine⟨⟨λi j hi hj ij=>?_,?_,rfl,hm,λi j q=>?_,by rw[size];exact l,λi j x q1 q2=>?_⟩,perm,size⟩
 ·have pw:(live.map (·.1)).Pairwise (· < ·):=by rw[e1];exact ad6.filter _
  have:=abe.mp pw i j (by simpa using hi) (by simpa using hj) ij
  simpa using this
 ·rw[size]
  have:=pm.length_eq
  rw[Zj,aaG] at this;simp[this]
 ·rw[EB] at q;obtain⟨⟨j',a⟩,qb,nM⟩:=Zp.mp q;cases nM;exact(mem.mp (Zr qb)).1
 ·rw[EB] at q1;rw[Ex] at q2;obtain⟨⟨j',a⟩,qb,nM⟩:=Zp.mp q1;cases nM;rw[qb] at q2;have US:es[a]?=some x:=q2;have mm:=mem.mp (Zr qb);obtain⟨k,k1,k2,k3⟩:=O.wp j' a x.1 mm.2 (by rw[aae,Array.getElem?_map,US];rfl);exact⟨k,k1,k2,λk' dP=>inn (k3 k' dP) (zY _ _ _)⟩
theorem Iz:SetTable.sizeAbove 20-1=31:=by decide
end L3
namespace L2
open PySem PySem.Spec PyProof.Rows
section
structure d7(src:Array Keyed)(kd:SortKind)(st:SortSt):Prop where
 pm:(arrOf st).Perm src
 kn:kindOf st=kd
 pn:pendingOf st=#[]
 fl:failedOf st=none
theorem d7.len{st:SortSt}(q:d7 src kd st):(arrOf st).size=src.size:=q.pm.size_eq
theorem d7.put{st:SortSt}{xs:Array Keyed}(q:d7 src kd st)(p:xs.Perm (arrOf st)):d7 src kd (setArr st xs):=⟨p.trans q.pm,q.kn,q.pn,q.fl⟩
abbrev ky(κ:PyProof.Rows.KeyKind)(st:SortSt)(i:Nat):κ.α:=KK κ (arrOf st) i
def mN(prog:Program)(w:World)(A:Around)(E:Value->Shared->Prop)(s:Shared)(src:Array Keyed)(kd:SortKind)(κ:PyProof.Rows.KeyKind):Prop:=
 ∀(st:SortSt) (i j:Nat) (R:Option Bool->SortSt->Prop),d7 src kd st->i<src.size->j<src.size->R (some (κ.blt (ky κ st i) (ky κ st j))) st->wpS (model prog w) A E s (ltAt' i j) R st
theorem EC{st:SortSt}(up:SortedToK κ (arrOf st) n)(last:0<n->κ.kle (ky κ st (n-1)) (ky κ st n)):SortedToK κ (arrOf st) (n+1):=by
 intro i j ij jn;rcases aa3 j n with q|q
 ·exact up i j ij q
 ·obtain rfl:j=n:=by omega
  rcases aa3 i j with r|r
  ·exact acC (up i (j-1) (by omega) (by omega)) (last (by omega))
  ·obtain rfl:i=j:=by omega
   exact abh _
theorem ik(dn:NonIncK κ xs n)(last:0<n->κ.kle (KK κ xs n) (KK κ xs (n-1))):NonIncK κ xs (n+1):=by
 intro i j ij jn;rcases aa3 j n with q|q
 ·exact dn i j ij q
 ·obtain rfl:j=n:=by omega
  rcases aa3 i j with r|r
  ·exact acC (last (by omega)) (dn i (j-1) (by omega) (by omega))
  ·obtain rfl:i=j:=by omega
   exact abh _
theorem IA:SortedToK κ xs 1:=λi j ij j1=>by
 obtain rfl:i=j:=by omega
 exact abh _
theorem Gr{st:SortSt}{R:AscSt->SortSt->Prop}(C:mN prog w A E s src kd κ)(q:d7 src kd st)(b1:1<=b)(bn:b<=n)(nn:n<=src.size)(up:SortedToK κ (arrOf st) b)
  (k:∀m,b<=m->m<=n->SortedToK κ (arrOf st) m->(m<n->κ.klt (ky κ st m) (ky κ st (m-1)))->R (none,m) st):wpS (model prog w) A E s (ascLoop b n) R st:=by
 unfold ascLoop;refine wpS_forRange (I:=λm c t=>t=st/\c=(none,m)/\SortedToK κ (arrOf st) m) (λm c t bm mn h=>?_) (λc t h=>?_) ⟨rfl,rfl,up⟩
 ·obtain⟨e1,e2,um⟩:=h;subst e1 e2;refine wpS_bind (C _ _ _ _ q (by omega) (by omega) ?_);by_cases lt:κ.klt (ky κ t m) (ky κ t (m-1))
  ·have lt':κ.blt (ky κ t m) (ky κ t (m-1))=true:=lt;rw[lt'];exact wpS_pure (k m bm (by omega) um λ_=>lt)
  ·have lt':κ.blt (ky κ t m) (ky κ t (m-1))=false:=abq lt;rw[lt'];exact wpS_pure ⟨rfl,rfl,EC um λ_=>lt'⟩
 ·obtain⟨e1,e2,um⟩:=h;subst e1 e2;rw[afg bn] at um⊢;exact k n bn (Zn _) um λz=>absurd z (ZX _)
theorem yi{st:SortSt}{R:Option Nat->SortSt->Prop}(C:mN prog w A E s src kd κ)(q:d7 src kd st)(m1:1<=m)(mn:m<=n)(nn:n<=src.size)(dn:NonIncK κ (arrOf st) m)
  (k:∀l t,d7 src kd t->1<=l->l<=n->SortedToK κ (arrOf t) l->R (some l) t):wpS (model prog w) A E s (tail3 m n) R st:=by
 unfold tail3;have ml:m<=(arrOf st).size:=by rw[q.len];omega
 refine wpS_bind (wpS_reverse ?_);have q2:=q.put (mirror_perm (arrOf st) 0 m ((m-0) / 2));refine wpS_bind (Gr C q2 m1 mn nn (λi j ij jm=>?_) λl ml ln up _=>wpS_pure (k l _ q2 (by omega) ln up));have ei:KK κ (mirror (arrOf st) 0 m ((m-0) / 2)) i=KK κ (arrOf st) (0+m-1-i):=by rw[KK_mirror ml,if_pos ⟨ZE _,by omega⟩]
 have ej:KK κ (mirror (arrOf st) 0 m ((m-0) / 2)) j=KK κ (arrOf st) (0+m-1-j):=by rw[KK_mirror ml,if_pos ⟨ZE _,by omega⟩]
 show κ.kle (KK κ (mirror (arrOf st) 0 m ((m-0) / 2)) i) (KK κ (mirror (arrOf st) 0 m ((m-0) / 2)) j)
 rw[ei,ej];exact dn _ _ (by omega) (by omega)
def zZ(κ:PyProof.Rows.KeyKind)(xs:Array Keyed)(m e:Nat):Prop:=e<m/\∀i,m-(e+1)<=i->i<m->KK κ xs i=KK κ xs (m-1)
theorem vM(h:0<m):zZ κ xs m 0:=⟨h,λi a b=>by
 have e:i=m-1:=by omega
 rw[e]⟩
theorem IB{st:SortSt}{R:DescSt->SortSt->Prop}(C:mN prog w A E s src kd κ)(q:d7 src kd st)(b1:1<=b)(bn:b<=n)(nn:n<=src.size)(dn:NonIncK κ (arrOf st) b)
  (k:∀m e t,d7 src kd t->b<=m->m<=n->NonIncK κ (arrOf t) m->zZ κ (arrOf t) m e->R (none,m,e) t):wpS (model prog w) A E s (descLoop b n) R st:=by
 unfold descLoop;refine wpS_forRange (I:=λm c t=>∃e,c=(none,m,e)/\d7 src kd t/\NonIncK κ (arrOf t) m/\zZ κ (arrOf t) m e) (λm c t bm mn h=>?_) (λc t h=>?_) ⟨0,rfl,q,dn,vM (by omega)⟩
 ·obtain⟨e,rfl,qt,dt,fl⟩:=h;have ml:m<=(arrOf t).size:=by rw[qt.len];omega
  dsimp only;refine wpS_bind (C _ _ _ _ qt (by omega) (by omega) ?_);by_cases lt:κ.klt (ky κ t m) (ky κ t (m-1))
  ·have lt':κ.blt (ky κ t m) (ky κ t (m-1))=true:=lt;rw[lt'];dsimp only;rw[if_pos rfl];by_cases e0:e > 0
   ·rw[if_pos e0];refine wpS_bind (wpS_reverse (wpS_pure ⟨0,rfl,qt.put (mirror_perm _ _ _ _),?_,vM (by omega)⟩));have same:∀i,KK κ (mirror (arrOf t) (m-(e+1)) m ((m-(m-(e+1))) / 2)) i=KK κ (arrOf t) i:=adT ml fl.2;refine ik (λi j ij jm=>?_) λ_=>?_
    ·show κ.kle (KK κ (mirror (arrOf t) _ _ _) j) (KK κ (mirror (arrOf t) _ _ _) i)
     rw[same,same];exact dt i j ij jm
    ·show κ.kle (KK κ (mirror (arrOf t) _ _ _) m) (KK κ (mirror (arrOf t) _ _ _) (m-1))
     rw[same,same];exact abP lt
   ·rw[if_neg e0];exact wpS_pure ⟨0,rfl,qt,ik dt λ_=>abP lt,vM (by omega)⟩
  ·have lt':κ.blt (ky κ t m) (ky κ t (m-1))=false:=abq lt;rw[lt'];dsimp only;rw[if_neg ZM];refine wpS_bind (C _ _ _ _ qt (by omega) (by omega) ?_);by_cases gt:κ.klt (ky κ t (m-1)) (ky κ t m)
   ·have gt':κ.blt (ky κ t (m-1)) (ky κ t m)=true:=gt;rw[gt'];exact wpS_pure (k m e t qt bm (by omega) dt fl)
   ·have gt':κ.blt (ky κ t (m-1)) (ky κ t m)=false:=abq gt;rw[gt'];have alike:ky κ t m=ky κ t (m-1):=aez gt' lt';refine wpS_pure ⟨e+1,rfl,qt,ik dt λ_=>gt',by have:=fl.1;omega,λi a b=>?_⟩;rw[aca];rcases aa3 i m with r|r
    ·exact(fl.2 i (by omega) r).trans alike.symm
    ·obtain rfl:i=m:=by omega
     rfl
 ·obtain⟨e,rfl,qt,dt,fl⟩:=h;rw[afg bn] at dt fl⊢;exact k n e t qt bn (Zn _) dt fl
theorem sU{st:SortSt}{R:Option Nat->SortSt->Prop}(C:mN prog w A E s src kd κ)(q:d7 src kd st)(mn:m+1<=n)(nn:n<=src.size)(dn:NonIncK κ (arrOf st) (m+1))
  (k:∀l t,d7 src kd t->1<=l->l<=n->SortedToK κ (arrOf t) l->R (some l) t):wpS (model prog w) A E s (descPart m n) R st:=by
 unfold descPart;refine wpS_bind (wpS_lift (wpAny_rule ⟨rfl,?_⟩));refine wpS_bind (IB C q (by omega) mn nn dn λl e t qt bl ln dt fl=>?_);dsimp only;by_cases e0:e > 0
 ·rw[if_pos e0];have ll:l<=(arrOf t).size:=by rw[qt.len];omega
  have same:∀i,KK κ (mirror (arrOf t) (l-(e+1)) l ((l-(l-(e+1))) / 2)) i=KK κ (arrOf t) i:=adT ll fl.2;refine wpS_bind (wpS_reverse (yi C (qt.put (mirror_perm _ _ _ _)) (by omega) ln nn (λi j ij jl=>?_) k));show κ.kle (KK κ (mirror (arrOf t) _ _ _) j) (KK κ (mirror (arrOf t) _ _ _) i)
  rw[same,same];exact dt i j ij jl
 ·rw[if_neg e0];exact yi C qt (by omega) ln nn dt k
theorem BX{st:SortSt}{R:Option Nat->SortSt->Prop}(C:mN prog w A E s src kd κ)(q:d7 src kd st)(n1:1<=n)(nn:n<=src.size)
  (k:∀l t,d7 src kd t->1<=l->l<=n->SortedToK κ (arrOf t) l->R (some l) t):wpS (model prog w) A E s (countRun' 0 n) R st:=by
 rw[countRun0_eq];refine wpS_bind (Gr C q (Zn 1) n1 nn IA λm m1 mn up low=>?_);dsimp only;by_cases whole:m=n
 ·rw[if_pos (by simpa using whole)];exact wpS_pure (k m st q m1 mn up)
 rw[if_neg (by simpa using whole)];have less:=low (by omega);by_cases long:m > 1
 ·rw[if_pos long];refine wpS_bind (C _ _ _ _ q (by omega) (by omega) ?_);by_cases K7:κ.klt (ky κ st 0) (ky κ st (m-1))
  ·have uk:κ.blt (ky κ st 0) (ky κ st (m-1))=true:=K7;rw[uk];exact wpS_pure (k m st q m1 mn up)
  ·have uk:κ.blt (ky κ st 0) (ky κ st (m-1))=false:=abq K7;rw[uk];have ml:m<=(arrOf st).size:=by rw[q.len];omega
   have alike:∀i,0<=i->i<m->KK κ (arrOf st) i=KK κ (arrOf st) (m-1):=λi _ im =>aez (up i (m-1) (by omega) (by omega)) (acC uk (up 0 i (ZE _) im))
   have same:∀i,KK κ (mirror (arrOf st) 0 m ((m-0) / 2)) i=KK κ (arrOf st) i:=adT ml alike;dsimp only;rw[if_neg ZM];refine wpS_bind (wpS_reverse (sU C (q.put (mirror_perm _ _ _ _)) (by omega) nn (ik (λi j ij jm=>?_) λ_=>?_) k))
   ·show κ.kle (KK κ (mirror (arrOf st) _ _ _) j) (KK κ (mirror (arrOf st) _ _ _) i)
    rw[same,same,alike i (ZE _) (by omega),alike j (ZE _) jm];exact abh _
   ·show κ.kle (KK κ (mirror (arrOf st) _ _ _) m) (KK κ (mirror (arrOf st) _ _ _) (m-1))
    rw[same,same];exact abP less
 ·rw[if_neg long];obtain rfl:m=1:=by omega
  refine sU C q (by omega) nn (ik (λi j ij j1=>?_) λ_=>abP less) k;obtain rfl:i=j:=by omega
  exact abh _
theorem seek{st:SortSt}{R:Option Bool×Nat×Nat->SortSt->Prop}(C:mN prog w A E s src kd κ)(q:d7 src kd st)(kn:k<src.size)(up:SortedToK κ (arrOf st) k)
  (f:Nat->Option Bool×Nat×Nat->StateT SortSt Sem (ForInStep (Option Bool×Nat×Nat)))
  (hf:∀x l r,f x (none,l,r)=if l ≥ r then pure (.done (none,l,r)) else ltAt' k ((l+r) / 2)>>=λb=>match b with
   |some true=>pure (.yield (none,l,(l+r) / 2))
   |some false=>pure (.yield (none,(l+r) / 2+1,r))
   |none=>pure (.done (some false,l,r)))
  (h:∀l r,l<=k->(∀i,i<l->κ.kle (ky κ st i) (ky κ st k))->(∀i,l<=i->i<k->κ.klt (ky κ st k) (ky κ st i))->R (none,l,r) st) :
  wpS (model prog w) A E s (forIn [0:k] (none,0,k) f) R st:=by
 refine wpS_forRange (I:=λx c t=>t=st/\∃l r,c=(none,l,r)/\l<=r/\r<=k/\r<=l+(k-x)/\(∀i,i<l->κ.kle (ky κ st i) (ky κ st k))/\∀i,r<=i->i<k->κ.klt (ky κ st k) (ky κ st i))
  (λx c t _ xk z=>?_) (λc t z=>?_) ⟨rfl,0,k,rfl,ZE _,Zn _,by omega,λi z=>absurd z (abJ _),λi a b=>by omega⟩
 ·obtain⟨e,l,r,rfl,lr,rk,gap,lo,hi⟩:=z;subst e;rw[hf];by_cases met:l ≥ r
  ·rw[if_pos met];obtain rfl:l=r:=by omega
   exact wpS_pure (h l l rk lo hi)
  ·rw[if_neg met];refine wpS_bind (C _ _ _ _ q kn (by omega) ?_);by_cases lt:κ.klt (ky κ t k) (ky κ t ((l+r) / 2))
   ·have lt':κ.blt (ky κ t k) (ky κ t ((l+r) / 2))=true:=lt;rw[lt'];exact wpS_pure ⟨rfl,l,(l+r) / 2,rfl,by omega,by omega,by omega,lo,λi a b=>KeyOrd.klt_of_klt_of_kle lt (up _ _ a b)⟩
   ·have lt':κ.blt (ky κ t k) (ky κ t ((l+r) / 2))=false:=abq lt;rw[lt'];exact wpS_pure ⟨rfl,(l+r) / 2+1,r,rfl,by omega,rk,by omega,λi a=>acC (up i ((l+r) / 2) (by omega) (by omega)) lt',hi⟩
 ·obtain⟨e,l,r,rfl,lr,rk,gap,lo,hi⟩:=z;subst e;obtain rfl:l=r:=by omega
  exact h l l rk lo hi
theorem z9{st:SortSt}(kn:k<(arrOf st).size)(lk:l<=k)(up:SortedToK κ (arrOf st) k)(lo:∀i,i<l->κ.kle (ky κ st i) (ky κ st k))(hi:∀i,l<=i->i<k->κ.klt (ky κ st k) (ky κ st i)) :
  SortedToK κ (bubble (arrOf st) k (k-l)) (k+1):=by
 have at_:∀i,KK κ (bubble (arrOf st) k (k-l)) i=if i=l then ky κ st k else if l<i/\i<=k then ky κ st (i-1) else ky κ st i:=λi=>by rw[KK_bubble kn (by omega),show k-(k-l)=l by omega]
 intro i j ij jk;rw[at_,at_];rcases abv i l with a|a|a
 ·rw[if_neg (by omega),if_neg (by omega)];rcases abv j l with b|b|b
  ·rw[if_neg (by omega),if_neg (by omega)];exact up i j ij (by omega)
  ·rw[if_pos b];exact lo i a
  ·rw[if_neg (by omega),if_pos ⟨b,by omega⟩];exact up i (j-1) (by omega) (by omega)
 ·rw[if_pos a];rcases aa3 l j with b|b
  ·rw[if_neg (by omega),if_pos ⟨b,by omega⟩];exact abP (hi _ (by omega) (by omega))
  ·rw[if_pos (by omega)];exact abh _
 ·rw[if_neg (by omega),if_pos ⟨a,by omega⟩,if_neg (by omega),if_pos ⟨by omega,by omega⟩];exact up (i-1) (j-1) (by omega) (by omega)
theorem Aa{st:SortSt}{R:Bool->SortSt->Prop}(C:mN prog w A E s src kd κ)(q:d7 src kd st)(nn:n<=src.size)(mn:m<=n)(up:SortedToK κ (arrOf st) m)
  (k:∀t,d7 src kd t->SortedToK κ (arrOf t) n->R true t):wpS (model prog w) A E s (binarySort' 0 n m) R st:=by
 rw[binarySort'_eq];simp only[abA];refine wpS_bind (wpS_mono (wpS_forRange (I:=λx c t=>c=(none,())/\d7 src kd t/\SortedToK κ (arrOf t) (min x n)) (Q:=λc t=>c=(none,())/\d7 src kd t/\SortedToK κ (arrOf t) n)
  (λx c t mx xn z=>?_) (λc t z=>?_) ⟨rfl,q,?_⟩) λc t z=>?_)
 ·obtain⟨rfl,qt,ut⟩:=z;rw[abK (by omega)] at ut;have xs:x<(arrOf t).size:=by rw[qt.len];omega
  refine wpS_bind (seek (k:=x) C qt (by omega) ut _ (λy l r=>?_) λl r lx lo hi=>?_)
  ·split
   ·rfl
   ·congr 1;funext b
    match b with
    |some true=>rfl
    |some false=>rfl
    |none=>rfl
  ·show wpS _ _ _ _ (moveDown' x l>>=λ_=>pure (ForInStep.yield (none,()))) _ _
   rw[moveDown'_eq];refine wpS_bind (wpS_modify (wpS_pure ⟨rfl,qt.put (bubble_perm _ _ _),?_⟩));rw[abK (by omega)];exact z9 xs lx ut lo hi
 ·obtain⟨rfl,qt,ut⟩:=z;refine⟨rfl,qt,?_⟩;rw[Nat.min_eq_right (by omega)] at ut;exact ut
 ·rcases aeR m with e|e
  ·intro i j ij j1;obtain rfl:i=j:=by omega
   exact abh _
  ·rw[Nat.max_eq_left e,abK mn];exact up
 ·obtain⟨rfl,qt,ut⟩:=z;exact wpS_pure (k t qt ut)
structure qc(src:Array Keyed)(κ:PyProof.Rows.KeyKind)(st:SortSt):Prop where
 pm:(arrOf st).Perm src
 fl:failedOf st=none
 pn:(pendingOf st).size=1
 up:SortedToK κ (arrOf st) src.size
theorem ED{st:SortSt}{R:Unit->SortSt->Prop}(C:mN prog w A E s src kd κ)(q:d7 src kd st)(two:2<=src.size)(aP:src.size<64)(k:∀t,qc src κ t->R () t):wpS (model prog w) A E s sortRuns' R st:=by
 rw[sortRuns'_eq];refine wpS_bind (wpS_get ?_);dsimp only;have one:minRun' src.size src.size 0=src.size:=by
  match hs:src.size,two with
  |n+1,_=>rw[minRun'_succ,if_pos (by omega)]
 simp only[q.len,one];refine wpS_bind (wpS_mono (wpS_forRange (I:=λx c t=>(x=0/\c=(none,0)/\d7 src kd t)\/(0<x/\c=(none,src.size)/\qc src κ t)) (Q:=λc t=>c=(none,src.size)/\qc src κ t)
  (λx c t _ xn z=>?_) (λc t z=>?_) (.inl ⟨rfl,rfl,q⟩)) λc t z=>?_)
 ·rcases z with⟨rfl,rfl,qt⟩|⟨x0,rfl,en⟩
  ·dsimp only;rw[if_neg (by omega)];simp only[af5,Nat.min_self,abA];have push:∀t2,d7 src kd t2->SortedToK κ (arrOf t2) src.size->qc src κ (setPending t2 ((pendingOf t2).push (0,src.size,0))):=λt2 q2 u2=>⟨q2.pm,q2.fl,by show((pendingOf t2).push _).size=1;rw[q2.pn];rfl,u2⟩
   refine wpS_bind (BX C qt (by omega) (Zn _) λl t1 q1 l1 ln u1=>?_);dsimp only;by_cases short:l<src.size
   ·rw[if_pos short];refine wpS_bind (wpS_lift (wpAny_rule ⟨rfl,?_⟩));refine wpS_bind (Aa C q1 (Zn _) ln u1 λt2 q2 u2=>?_);simp only[abG,ZR,aam];refine wpS_bind (wpS_get ?_);rw[show(pendingOf t2).back?=none by rw[q2.pn];rfl];exact wpS_bind (wpS_modify (wpS_pure (.inr ⟨afr,rfl,push t2 q2 u2⟩)))
   ·rw[if_neg short];obtain rfl:l=src.size:=by omega
    refine wpS_bind (wpS_get ?_);rw[show(pendingOf t1).back?=none by rw[q1.pn];rfl];exact wpS_bind (wpS_modify (wpS_pure (.inr ⟨afr,rfl,push t1 q1 u1⟩)))
  ·dsimp only;rw[if_pos (Zn _)];exact wpS_pure ⟨rfl,en⟩
 ·rcases z with⟨z,_⟩|⟨_,e,en⟩
  ·omega
  ·exact⟨e,en⟩
 ·obtain⟨rfl,en⟩:=z;dsimp only;refine wpS_bind (wpS_mono (wpS_forRange (I:=λ_ c t'=>t'=t/\c=(none,())) (Q:=λc t'=>t'=t/\c=(none,())) (λx c t' _ _ z=>?_) (λ_ _ z=>z) ⟨rfl,rfl⟩) λc t' z=>?_)
  ·obtain⟨e,rfl⟩:=z;subst e;refine wpS_bind (wpS_get ?_);rw[if_pos (by rw[en.pn];exact Zn 1)];exact wpS_pure ⟨rfl,rfl⟩
  ·obtain⟨e,rfl⟩:=z;subst e;exact wpS_pure (k _ en)
theorem vN{h:Heap}{us:List Value}{P:Fin->Shared->Prop}(hs:s.heap=h.push (seqObj "list" us.toArray 0))(aP:us.length<64)(kd:SortKind)(κ:PyProof.Rows.KeyKind)
  (hk:∀(t:Shared),(∀b o,h.get? b=some o->t.heap.get? b=some o)->2<=us.length->∀(R:SortKind->Shared->Prop),R kd t->wpAny (model prog w) A (keyKind' us.toArray) R E t)
  (C:∀(t:Shared),(∀b o,h.get? b=some o->t.heap.get? b=some o)->mN prog w A E t (pairsOf us) kd κ)
  (k:∀(out:Array Keyed) (n:Nat) (h2:Heap),out.Perm (pairsOf us)->SortedToK κ out us.length->(∀b o,h.get? b=some o->h2.get? b=some o)->h2.get? h.objs.size=some (seqObj "list" (out.map (·.2)) n)->P (.done (.ret .none)) {s with heap:=h2}) :
  wpAny (model prog w) A (Builtin.«list.sort» ⟨[.ref h.objs.size],[]⟩) P E s:=by
 have ho:s.heap.get? h.objs.size=some (seqObj "list" us.toArray 0):=by rw[hs];exact Zw _ rfl
 have old:∀b o,h.get? b=some o->b≠h.objs.size:=λb o e=>ZQ (Zx e);have k0:∀b o,h.get? b=some o->s.heap.get? b=some o:=λb o e=>by rw[hs];exact Zl _ e
 rw[list_sort_plain];refine wpAny_bind (listItems_at ho rfl ?_);refine wpAny_bind (listUpdate_at ho rfl ?_);have lK:=adU ho (λ_=>#[]);have k1:∀b o,h.get? b=some o->(s.heap.update h.objs.size (Obj.mapSeq λ_=>#[])).get? b=some o:=λb o e=>(Z3 _ _ (Z0 (old b o e))).trans (k0 b o e);generalize s.heap.update h.objs.size (Obj.mapSeq λ_=>#[])=h1 at lK k1⊢;generalize (if ((λ_=>#[]) us.toArray).size==us.toArray.size then 0 else 0+1)=e1 at lK;refine wpAny_bind (seqEpoch_at lK rfl ?_);refine wpAny_bind (wpAny_newTuple ?_ (Zu (aag aP) (by decide)));refine wpAny_bind (wpAny_newList ?_);refine wpAny_holding ?_;dsimp only;have Yh:@LT.lt Nat _ h.objs.size h1.objs.size:=Zx lK;have k2:∀b o,h1.get? b=some o->((h1.push (seqObj "tuple" us.toArray.toList.toArray 0)).push (seqObj "list" #[] 0)).get? b=some o:=λb o e=>Zl _ (Zl _ e);have gK:=k2 _ _ lK;show wpAny (model prog w) A _ P E {s with heap:=(h1.push (seqObj "tuple" us.toArray.toList.toArray 0)).push (seqObj "list" #[] 0)}
 generalize (h1.push (seqObj "tuple" us.toArray.toList.toArray 0)).push (seqObj "list" #[] 0)=h2 at k2 gK⊢;have Gs:us.toArray.size=us.length:=Zt ..;by_cases two:us.length<2
 ·rw[if_pos (by rw[Gs];exact two)];refine wpAny_bind (wpAny_pure ?_);rw[if_pos (by rw[Gs];exact two),StateT.run_pure];refine wpAny_bind (wpAny_pure ?_);have up:SortedToK κ (pairsOf us) us.length:=λi j ij j1=>by
   obtain rfl:i=j:=by omega
   exact abh _
  obtain⟨st,es,ef,pm⟩:∃st,st=SortSt.mk' general' (us.toArray.zip us.toArray) #[] 7 none/\failedOf st=none/\arrOf st=pairsOf us:=⟨_,rfl,rfl,rfl⟩
  rw[<-es];dsimp only;have len:((arrOf st).map (·.2)).size=us.length:=by rw[aej,((by rw[pm]:(arrOf st).Perm (pairsOf us))).size_eq,abR]
  refine wpAny_bind (seqEpoch_at gK rfl ?_);refine wpAny_bind (listUpdate_at gK rfl ?_ (hsz2:=by rw[len];exact Zu (aag aP) (by decide)));rw[ef];dsimp only;rw[if_neg (by simp)];have K8:=adU gK (λ_=>(arrOf st).map (·.2));exact wpAny_pure (k (arrOf st) _ _ ((by rw[pm]:(arrOf st).Perm (pairsOf us))) (by rw[pm];exact up) (λb o e=>(Z3 _ _ (Z0 (old b o e))).trans (k2 b o (k1 b o e))) K8)
 ·rw[if_neg (by rw[Gs];exact two)];refine wpAny_bind (hk _ (λb o e=>k2 b o (k1 b o e)) (by omega) _ ?_);rw[if_neg (by rw[Gs];exact two)];refine wpAny_bind (wpAny_mono (ED (R:=λ_ t=>qc (pairsOf us) κ t) (C _ (λb o e=>k2 b o (k1 b o e))) (st:=SortSt.mk' kd (us.toArray.zip us.toArray) #[] 7 none) ⟨agu _,rfl,rfl,rfl⟩ (by rw[abR];omega) (by rw[abR];exact aP) λt en=>en) (λr s' z=>?_) λ_ _ z=>z);obtain⟨u,st⟩:=r;obtain⟨e,en⟩:=z;subst e;have up:=en.up;rw[abR] at up;dsimp only;have len:((arrOf st).map (·.2)).size=us.length:=by rw[aej,(en.pm).size_eq,abR]
  refine wpAny_bind (seqEpoch_at gK rfl ?_);refine wpAny_bind (listUpdate_at gK rfl ?_ (hsz2:=by rw[len];exact Zu (aag aP) (by decide)));rw[en.fl];dsimp only;rw[if_neg (by simp)];have K8:=adU gK (λ_=>(arrOf st).map (·.2));exact wpAny_pure (k (arrOf st) _ _ (en.pm) (up) (λb o e=>(Z3 _ _ (Z0 (old b o e))).trans (k2 b o (k1 b o e))) K8)
end
def cR:List Str->List Str->Bool
 |[],[]=>false
 |[],_::_=>true
 |_::_,[]=>false
 |a::as,b::bs=>if a=b then cR as bs else decide (a.cps.toList<b.cps.toList)
theorem qZ{a b:Str}(h:a.cps.toList=b.cps.toList):a=b:=by cases a;cases b;simp only[af3];exact abX.mp h
theorem qd:∀a:List Str,cR a a=false
 |[]=>rfl
 |x::xs=>by rw[cR,if_pos rfl];exact qd xs
theorem sV:∀a b c:List Str,cR a b=true->cR b c=true->cR a c=true
 |[],[],_,h,_=>by cases h
 |[],_::_,[],_,h=>by cases h
 |[],_::_,_::_,_,_=>rfl
 |_::_,[],_,h,_=>by cases h
 |_::_,_::_,[],_,h=>by cases h
 |x::xs,y::ys,z::zs,h1,h2=>by
  rw[cR] at h1 h2⊢;by_cases e1:x=y
  ·subst e1;rw[if_pos rfl] at h1;by_cases e2:x=z
   ·subst e2;rw[if_pos rfl] at h2⊢;exact sV xs ys zs h1 h2
   ·rw[if_neg e2] at h2⊢;exact h2
  ·rw[if_neg e1,ZY] at h1;by_cases e2:y=z
   ·subst e2;rw[if_neg e1];exact decide_eq_true h1
   ·rw[if_neg e2,ZY] at h2;have lt:=afA h1 h2;have ne:x≠z:=λq=>by rw[q] at lt;exact ac3 _ lt
    rw[if_neg ne];exact decide_eq_true lt
theorem yj:∀a b c:List Str,cR a c=true->cR a b=true\/cR b c=true
 |[],[],_,h=>.inr h
 |[],_::_,_,_=>.inl rfl
 |_::_,_,[],h=>by cases h
 |_::_,[],_::_,_=>.inr rfl
 |x::xs,y::ys,z::zs,h=>by
  rw[cR] at h;rw[cR,cR];by_cases e:x=z
  ·subst e;rw[if_pos rfl] at h;by_cases e1:x=y
   ·subst e1;rw[if_pos rfl,if_pos rfl];exact yj xs ys zs h
   ·rw[if_neg e1,if_neg (Z0 e1)];rcases Std.lt_trichotomy x.cps.toList y.cps.toList with q|q|q
    ·exact .inl (decide_eq_true q)
    ·exact absurd (qZ q) e1
    ·exact .inr (decide_eq_true q)
  ·rw[if_neg e,ZY] at h;by_cases e1:x=y
   ·subst e1;rw[if_neg e];exact .inr (decide_eq_true h)
   ·by_cases e2:y=z
    ·subst e2;rw[if_neg e1];exact .inl (decide_eq_true h)
    ·rw[if_neg e1,if_neg e2];by_cases q:x.cps.toList<y.cps.toList
     ·exact .inl (decide_eq_true q)
     ·exact .inr (decide_eq_true (List.lt_of_le_of_lt (ad7.mp q) h))
theorem sW:∀a b:List Str,cR a b=false->cR b a=false->a=b
 |[],[],_,_=>rfl
 |[],_::_,h,_=>by cases h
 |_::_,[],_,h=>by cases h
 |x::xs,y::ys,h1,h2=>by
  rw[cR] at h1 h2;by_cases e:x=y
  ·subst e;rw[if_pos rfl] at h1 h2;rw[sW xs ys h1 h2]
  ·rw[if_neg e,aaB] at h1;rw[if_neg (Z0 e),aaB] at h2;exact absurd (qZ (afd (ad7.mp h2) (ad7.mp h1))) e
def j8(f:Addr->List Str):PyProof.Rows.KeyKind where
 α:=List Str
 blt:=cR
 irrefl:=qd
 trans:=sV
 negTrans:=yj
 total:=sW
 keyOf v:=match v with|.ref a=>some (f a)|_=>none
 dflt:=[]
theorem mO(b:Bool)(x y:Value):keyLt' (tuples' b) x y=(do
  let xs <-Builtin.List.listItems x;let ys <-Builtin.List.listItems y
  for ((p,q),i) in (xs.toList.zip ys.toList).zipIdx do
   if !(<-eqBool p q) then return <-oneLt' (b&&i==0) p q
  return xs.size<ys.size):=rfl
section
theorem sX(h:Q (decide (a.cps.toList<b.cps.toList)) s):wpAny (model prog w) A (oneLt' o (.str a t) (.str b u)) Q E s:=by
 cases o with
 |true=>exact oneLt_str h
 |false=>
  rw[oneLt'_eq];simp only[ZR,aam];refine wpAny_bind ?_;show wpAny _ _ (compareOp .Lt (.str a t) (.str b u)) _ _ _
  exact lt_str (wpAny_truthy_bool h)
theorem IC
  (hf:∀p q i,f ((p,q),i) (none,())=eqBool p q>>=λe=>if (!e)=true then oneLt' (o&&i==0) p q>>=λr=>pure (.done (some r,())) else pure (.yield (none,()))) :
  ∀{xs:List Value} {as:List Str},StrsAre xs as->∀{ys:List Value} {bs:List Str},StrsAre ys bs->∀(k:Nat) (Q:Option Bool×Unit->Shared->Prop),
   (∀r,(match r with|some b=>b=cR as bs|none=>cR as bs=decide (as.length<bs.length))->Q (r,()) s)->wpAny (model prog w) A (forIn ((xs.zip ys).zipIdx k) (none,()) f) Q E s:=by
 intro xs as sx;induction sx with
 |nil =>intro ys bs sy k Q h;rw[aeZ,acV,abQ];refine wpAny_pure (h none ?_);cases bs<;>simp[cR]
 |cons a ta sx ih=>
  intro ys bs sy k Q h;cases sy with
  |nil =>rw[aeK,acV,abQ];exact wpAny_pure (h none (by simp[cR]))
  |cons b tb sy=>
   rw[abI,adC,abp,hf];refine wpAny_bind (wpAny_bind (wpAny_eqBool_str ?_));by_cases e:a=b
   ·rw[decide_eq_true e,if_neg (by simp)];refine wpAny_pure (ih sy (k+1) Q λr z=>h r ?_);cases r with
    |some v=>rw[show v=_ from z,cR,if_pos e]
    |none=>
     show cR (a::_) (b::_)=_
     rw[cR,if_pos e,show cR _ _=_ from z];simp
   ·rw[decide_eq_false e,if_pos (by simp)];refine wpAny_bind (sX (wpAny_pure (wpAny_pure (h (some _) ?_))));show _=cR (a::_) (b::_)
    rw[cR,if_neg e]
theorem ID(hx:IsTup s.heap x xs.toArray)(hy:IsTup s.heap y ys.toArray)(sx:StrsAre xs as)(sy:StrsAre ys bs)(h:Q (cR as bs) s) :
  wpAny (model prog w) A (keyLt' (tuples' o) (.ref x) (.ref y)) Q E s:=by
 obtain⟨ox,K9,_,nx,dx⟩:=hx;obtain⟨oy,K',_,ny,dy⟩:=hy;rw[mO];refine wpAny_bind (listItems_at K9 dx ?_);refine wpAny_bind (listItems_at K' dy ?_);refine wpAny_bind ?_;refine IC (o:=o) (λp q i=>rfl) (by simpa using sx) (by simpa using sy) 0 _ λr z=>?_;cases r with
 |some v=>rw[show v=_ from z];exact wpAny_pure h
 |none =>refine wpAny_pure ?_;have lx:=kS sx;have ly:=kS sy;rw[Zt,Zt,lx,ly,<-show cR as bs=_ from z];exact h
def Ab(h:Heap):List Value->List (List Str)->Prop:=Paired λv zs=>∃a its,v=.ref a/\IsTup h a its.toArray/\StrsAre its zs
theorem BY(ha:IsTup s.heap a its.toArray)(q:StrsAre its (z::zs))(h:∀t,Q (some (.str z t)) s):wpAny (model prog w) A (firstOfTuple' (.ref a)) Q E s:=by
 obtain⟨o,ho,hc,n,hd⟩:=id ha;cases q with
 |cons _ t r=>
  show wpAny _ _ (typeOf (.ref a)>>=λt=>if (t !=.type "tuple")=true then pure none else Builtin.List.listItems (.ref a)>>=λxs=>pure xs[0]?) _ _ _
  refine wpAny_bind (wpAny_typeOf ha.typeIs ?_);rw[if_neg (by decide)];exact wpAny_bind (listItems_at ho hd (wpAny_pure (h t)))
theorem qf:∀{us:List Value} {nR:List (List Str)} {Q:List (Option Value)->Shared->Prop},Ab s.heap us nR->(∀zs∈nR,zs≠[])->(∀vs ss,StrsAre vs ss->vs.length=us.length->Q (vs.map some) s)->wpAny (model prog w) A (us.mapM firstOfTuple') Q E s
 |[],_,Q,.nil,_,h=>by rw[afB];exact wpAny_pure (h [] [] .nil rfl)
 |u::us,_,Q,.cons (b:=zs) ⟨a,its,e,ha,q⟩ t,ne,h=>by
  subst e;rw[ac4];match zs,q,ne zs Zy with
  |z::zr,q,_ =>refine wpAny_bind (BY ha q λtk=>wpAny_bind (qf t (λGu hz=>ne Gu (ZC _ hz)) λvs ss sv lv=>wpAny_pure ?_));exact h (.str z tk::vs) (z::ss) (.cons z tk sv) (by simp[lv])
  |[],_,z=>exact absurd rfl z
theorem BZ(t:Ab s.heap us nR)(ne:∀zs∈nR,zs≠[])(two:2<=us.length)(h:R (tuples' true) s):wpAny (model prog w) A (keyKind' us.toArray) R E s:=by
 rw[keyKind'_eq,acn];refine wpAny_bind ?_;show wpAny _ _ (List.toArray <$> us.mapM firstOfTuple') _ _ _
 rw[map_eq_pure_bind];refine wpAny_bind (qf t ne λvs ss sv lv=>wpAny_pure ?_);rw[if_pos (by simp)];refine wpAny_bind (wpAny_rule ?_);have e:((vs.map some).toArray.filterMap id)=vs.toArray:=by simp
 rw[e,afs,acn,mapM_typeOf_strs sv];simp only[map_pure,pure_bind];match vs,lv,sv with
 |v::r,lv,sv=>
  have all:((List.map (λ_=>Value.type "str") (v::r)).toArray.all λx=>x==Value.type "str")=true:=by simp only[afh,ab8,abk];intro _ _;rfl
  have h0:(List.map (λ_=>Value.type "str") (v::r)).toArray[0]?=some (Value.type "str"):=by simp
  rw[h0];simp only[all,Z7,pure_bind];exact wpAny_pure h
 |[],lv,_=>simp at lv;omega
end
end L2
namespace L3
open PySem PySem.Spec PyProof.Rows L2
section
abbrev KT(prog:Program)(w:World)(h:Heap)(zs:List Str)(a:Addr):Prop:=IsTupleKey (PySem.strKind prog w) h zs a
abbrev hT(prog:Program)(w:World)(zs:List Str):Int:=tupleKeyHash (PySem.strKind prog w) zs
theorem items_str(h:ItemsAre (PySem.strKind prog w) ks vs):∀v∈vs,∃z t,v=.str z t:=by
 induction h with
 |nil=>intro v hv;exact nomatch hv
 |@cons k v' ks vs h1 _ ih=>
  intro v hv;rcases Zs.mp hv with rfl|hv
  ·have h1':Value.isStrOf k v=true:=h1;cases v with
   |str z t=>exact⟨z,t,rfl⟩
   |_=>simp[Value.isStrOf] at h1'
  ·exact ih v hv
theorem nU(hk:KT prog w s.heap ks a)(h:Q false s):wpAny (model prog w) A (ofAClassStatement 8 (.ref a)) Q E s:=by
 have hT:=hk.typeIs;obtain⟨o,items,n,ho,_,hd,hi⟩:=hk;unfold ofAClassStatement;refine wpAny_bind (wpAny_typeOf hT ?_);dsimp only;rw[if_pos (by decide)];refine wpAny_bind (wpAny_pure ?_);simp only[abG,ZR,aam];refine wpAny_bind (wpAny_seqItems ho hd ?_);dsimp only;refine wpAny_bind ?_;rw[<-ac8];refine abW _ (λrest r s'=>r.1=none/\s'=s/\∀v∈rest,∃z t,v=.str z t) _ ?_ ?_ _ _ ⟨rfl,rfl,items_str hi⟩
 ·rintro v rest r s' ⟨hr,rfl,hall⟩;obtain⟨z,t,rfl⟩:=hall v Zy;have e:ofAClassStatement 7 (.str z t)=pure false:=rfl;rw[e];refine wpAny_bind (wpAny_pure ?_);simp only[ZR,aam];exact wpAny_pure ⟨rfl,rfl,λu hu=>hall u (ZC _ hu)⟩
 ·rintro⟨r1,r2⟩ s' ⟨hr,rfl,_⟩;simp only at hr;subst hr;exact wpAny_pure h
theorem La{ks:List Str}{b:Addr}{Q:Bool->Shared->Prop}(hk:KT prog w s.heap ks b){stored:List Value}(hs:∀v∈stored,∃c ys,v=.ref c/\KT prog w s.heap ys c)(h:Q false s):wpAny (model prog w) A (searchCouldBeSeen (.ref b) stored) Q E s:=by
 unfold searchCouldBeSeen;refine wpAny_bind ?_;refine abW _ (λrest r s'=>r.1=none/\s'=s/\∀v∈rest,∃c ys,v=.ref c/\KT prog w s.heap ys c) _ ?_ ?_ _ _ ⟨rfl,rfl,hs⟩
 ·rintro v rest r s' ⟨hr,rfl,hall⟩;obtain⟨c,ys,rfl,hc⟩:=hall v Zy;have Gv:∀u∈rest,∃c ys,u=.ref c/\KT prog w s'.heap ys c:=λu hu=>hall u (ZC _ hu);dsimp only;by_cases q:(b==c||carriedByValue (.ref b)&&carriedByValue (.ref c))=true
  ·rw[if_pos q];exact wpAny_pure ⟨rfl,rfl,Gv⟩
  ·rw[if_neg q];refine wpAny_bind (wpAny_eqIsQuiet_tuple hk ?_);simp only[abG,ZR,aam];refine wpAny_bind (wpAny_eqIsQuiet_tuple hc ?_);simp only[abG,ZR,aam];refine wpAny_bind (nU hk ?_);simp only[ZR,aam];refine wpAny_bind (nU hc ?_);simp only[ZR,aam];exact wpAny_pure ⟨rfl,rfl,Gv⟩
 ·rintro⟨r1,r2⟩ s' ⟨hr,rfl,_⟩;simp only at hr;subst hr;exact wpAny_pure h
def Gw(prog:Program)(w:World)(h:Heap)(es:Array (Int×Value)):Prop:=∀e∈es.toList,∃c ys,e.2=.ref c/\KT prog w h ys c/\e.1=hT prog w ys
def uo(prog:Program)(w:World)(h:Heap)(es:Array (Int×Value))(zs:List Str):Prop:=∃e∈es.toList,∃c,e.2=.ref c/\KT prog w h zs c
theorem q9{α:Type}{es:Array α}{i:Nat}{e:α}(h:es[i]?=some e):e∈es.toList:=by rw[<-aae] at h;exact Zr h
theorem nV{a b:Addr}{o:Obj}{es:Array (Int×Value)}{ep:Nat}{t:SetTable}{zs:List Str}{K:Nat}{Q:SetFound->Shared->Prop}(hu:A.units<cLine)(ho:s.heap.get? a=some o)(hd:o.data=.set es ep t)(T:Tab t es)(el:Gw prog w s.heap es)(hk:KT prog w s.heap zs b)
  (hK:K<10*SetTable.turns t.mask) (emp:∀i:Nat,t.place[i]?≠some (sl t.mask (hT prog w zs) K)) (bef:∀k,k<K->∃i:Nat,t.place[i]?=some (sl t.mask (hT prog w zs) k))
  (q1:uo prog w s.heap es zs->Q (.there none) s) (q2:¬ uo prog w s.heap es zs->Q (.free (sl t.mask (hT prog w zs) K) false) s) :
  ∀(fuel k:Nat) (stand:Option SetTable.Probe),K-k<fuel->k<=K->stand.getD (t.probeStart (hT prog w zs))=st t.mask (hT prog w zs) k ->
   (∀(k' i:Nat) (e:Int×Value),k'<k->t.place[i]?=some (sl t.mask (hT prog w zs) k')->es[i]?=some e->∀c,e.2=.ref c->¬ KT prog w s.heap zs c) ->
   wpAny (model prog w) A (setSearchFrom a (.ref b) (hT prog w zs) true fuel stand) Q E s
 |0,k,stand,lt,_,_,_=>by omega
 |fuel+1,k,stand,lt,le,UT,no=>by
  unfold setSearchFrom;refine wpAny_bind (wpAny_setState_of ho hd T.fits ?_);dsimp only;rw[T.Sb];simp only[ZR,aam];rw[UT];have hg:=ye T (λi=>((es[i]?).map (·.1)).getD 0) (hT prog w zs) (10*SetTable.turns t.mask) k ⟨K,le,by omega,emp⟩;obtain⟨n,kn,mid,res⟩:=hg;have nK:n<=K:=by refine adz λq=>?_;obtain⟨i,e,_⟩:=mid K le q;exact emp i e
  rcases res with⟨ne,pe⟩|⟨i,pi,hh,pe⟩
  ·have en:n=K:=by refine adV nK (adz λq=>?_);obtain⟨i,e⟩:=bef n q;exact ne i e
   subst en;have B0:t.probe (λi=>((es[i]?).map (·.1)).getD 0) (hT prog w zs) (st t.mask (hT prog w zs) k)=some (.empty (sl t.mask (hT prog w zs) n) none):=pe;have fin:¬ uo prog w s.heap es zs:=by
    intro am;obtain⟨e,he,c,ec,hc⟩:=am;obtain⟨i,hi,rfl⟩:=aak he;have hi':i<es.size:=by simpa using hi
    have ei:es[i]?=some es[i]:=ZF hi';have Gx:i<t.place.size:=by rw[T.size];exact hi'
    obtain⟨ke,b1,b2,b3⟩:=T.wp i t.place[i] es[i] (ZF Gx) ei;obtain⟨c',ys,vO,hys,sk⟩:=el _ he;have B1:es.toList[i]=es[i]:=by simp
    rw[B1] at ec vO sk;rw[ec] at vO;cases vO;have ez:zs=ys:=hc.inj hys;subst ez;rw[sk] at b2 b3;have kK:ke<n:=by
     refine Nat.lt_of_not_le λq=>?_;by_cases eq:n=ke
     ·subst eq;exact ne i (by rw[b2];exact ZF Gx)
     ·obtain⟨i',e'⟩:=b3 n (by omega);exact ne i' e'
    by_cases kk:ke<k
    ·exact no ke i es[i] kk (by rw[b2];exact ZF Gx) ei c ec hc
    ·obtain⟨i',e1,e2⟩:=mid ke (by omega) kK;have ii:i'=i:=by have x1:=below_at T.rise e1;have x2:=below_at T.rise (show t.place[i]?=some (sl t.mask (hT prog w zs) ke) by rw[b2];exact ZF Gx);omega
     subst ii;rw[ei] at e2;simp[sk] at e2
   split
   ·rename_i met heq
    have em:=ZH (heq.symm.trans B0);subst em;exact wpAny_pure (q2 fin)
   ·rename_i heq
    exact(heq _ B0).elim
  ·have hi:i<es.size:=by rw[<-T.size];exact(ab2.mp pi).1
   have ei:es[i]?=some es[i]:=ZF hi;obtain⟨c,ys,ec,hys,sk⟩:=el _ (q9 ei);have B0:t.probe (λi=>((es[i]?).map (·.1)).getD 0) (hT prog w zs) (st t.mask (hT prog w zs) k)=some (.candidate (sl t.mask (hT prog w zs) n) i (st t.mask (hT prog w zs) (n+1))):=pe;have PX:n<K:=by refine Nat.lt_of_le_of_ne nK λe=>?_;subst e;exact emp i pi
   split;rotate_left
   ·rename_i heq
    exact(heq _ B0).elim
   rename_i met heq
   have em:=ZH (heq.symm.trans B0);subst em;dsimp only;have hl:t.led=true\/t.led=false:=by cases t.led<;>simp
   rcases hl with ld|ld;all_goals rw[ld]
   all_goals simp only[abG,abS,ZR,aam,Z7]
   rotate_left;refine wpAny_bind (La hk (λv hv=>?hv) ?_)
   case hv=>
    obtain⟨e,he,rfl⟩:=ZD.mp hv;have i6:e∈es.toList:=by rw[aeA] at he;exact(aaI.mp he).1
    obtain⟨c2,Lb,g1,g2,_⟩:=el e i6;exact⟨c2,Lb,g1,g2⟩
   simp only[ZR,aam];all_goals (
    rw[ei];generalize es[i]=en at ec sk ei;obtain⟨Yi,y⟩:=en;dsimp only at ec sk;subst ec;dsimp only;refine wpAny_bind (wpAny_holding (wpAny_eqBool_tuple hu hys hk ?_));refine wpAny_bind (wpAny_setState_of ho hd T.fits ?_);dsimp only;by_cases ez:ys=zs
    ·rw[decide_eq_true ez];subst ez;simp only[ab1,Z7];exact wpAny_pure (q1 ⟨_,q9 ei,c,rfl,hys⟩)
    ·rw[decide_eq_false ez];simp only[ab1,ZR,aam];have sm:t.sameMemory t.moves t.mask=some true:=by unfold SetTable.sameMemory;rw[if_pos (by simp)]
     rw[sm];dsimp only;rw[if_pos rfl,mE T.rise pi];dsimp only;rw[ei];dsimp only;refine wpAny_bind (wpAny_isSame_ref_self ?_);refine wpAny_bind (wpAny_pure ?_);simp only[Z7];refine nV hu ho hd T el hk hK emp bef q1 q2 fuel (n+1) _ (by omega) (by omega) rfl λk' i' e' dP p' e1 c' vO kt=>?_;by_cases k1:k'<k
     ·exact no k' i' e' k1 p' e1 c' vO kt
     ·by_cases k2:k'=n
      ·subst k2;have ii:i'=i:=by have x1:=below_at T.rise p';have x2:=below_at T.rise pi;omega
       subst ii;rw[ei] at e1;cases e1;cases vO;exact ez (hys.inj kt)
      ·obtain⟨i2,f1,f2⟩:=mid k' (by omega) (by omega);have ii:i'=i2:=by have x1:=below_at T.rise p';have x2:=below_at T.rise f1;omega
       subst ii;obtain⟨c2,Lb,g1,g2,g3⟩:=el _ (q9 e1);rw[vO] at g1;cases g1
       have:zs=Lb:=kt.inj g2
       subst this;rw[e1] at f2;simp[g3] at f2)
end
section
variable {α:Type}[DecidableEq α]
def Sd(σ:List α)(z:α):List α:=if z∈σ then σ else z::σ
def qg(zs:List α):List α:=zs.foldl Sd []
end
section
theorem xy(hk:KT prog w s.heap ks a)(ne:ks≠[])(h:Q false s):wpAny (model prog w) A (hashByValue 8 (.ref a)) Q E s:=by
 have hT:=hk.typeIs;obtain⟨o,items,n,ho,_,hd,hi⟩:=hk;unfold hashByValue;refine wpAny_bind (wpAny_specialOf hT F.slot_tuple_hash.lookup ?_);dsimp only;refine wpAny_bind (wpAny_seqItems ho hd ?_);refine wpAny_bind ?_;show wpAny _ _ (forIn items _ _) _ _ s
 rw[<-ac8];have st:=items_str hi;have nil:items.toList≠[]:=λe=>by rw[e] at hi;cases hi;exact ne rfl
 cases hl:items.toList with
 |nil=>exact absurd hl nil
 |cons v r =>rw[hl] at st;obtain⟨z,t,rfl⟩:=st v Zy;rw[abp];have e:hashByValue 7 (.str z t)=pure false:=rfl;rw[e];refine wpAny_bind (wpAny_bind (wpAny_pure ?_));simp only[abS,Z7];exact wpAny_pure (wpAny_pure (wpAny_pure h))
abbrev Lc(prog:Program)(w:World)(p:Addr×List Str):Int×Value:=(hT prog w p.2,.ref p.1)
structure dF(prog:Program)(w:World)(h:Heap)(a:Addr)(ps:List (Addr×List Str))(led:Bool)(o:Obj)(es:Array (Int×Value))(ep:Nat)(t:SetTable):Prop where
 ho:h.get? a=some o
 ex:o.ExactSet
 hd:o.data=.set es ep t
 tab:Tab t es
 pm:es.toList.Perm (ps.map (Lc prog w))
 four:t.mask=7->es.size<=4
 led:t.led=led
 pl:es.size≠0->t.plain=false
def dG(ps:List (Addr×List Str))(p:Addr×List Str):List (Addr×List Str):=if p.2∈ps.map (·.2) then ps else ps++[p]
theorem dF.size{ps:List (Addr×List Str)}{led:Bool}{es:Array (Int×Value)}{t:SetTable}(x:dF prog w h a ps led o es ep t):es.size=ps.length:=by rw[<-Z9,x.pm.length_eq,Zj]
theorem dF.keep{ps:List (Addr×List Str)}{led:Bool}{es:Array (Int×Value)}{t:SetTable}(x:dF prog w h a ps led o es ep t)(k:∀o,h.get? a=some o->h'.get? a=some o):dF prog w h' a ps led o es ep t:={x with ho:=k _ x.ho}
theorem dF.elems{ps:List (Addr×List Str)}{led:Bool}{es:Array (Int×Value)}{t:SetTable}(x:dF prog w h a ps led o es ep t)(ks:∀p∈ps,KT prog w h p.2 p.1):Gw prog w h es:=λe he=>by obtain⟨p,hp,rfl⟩:=ZD.mp (x.pm.mem_iff.mp he);exact⟨p.1,p.2,rfl,ks p hp,rfl⟩
theorem dF.among{ps:List (Addr×List Str)}{led:Bool}{es:Array (Int×Value)}{t:SetTable}(x:dF prog w h a ps led o es ep t)(ks:∀p∈ps,KT prog w h p.2 p.1):uo prog w h es zs ↔ zs∈ps.map (·.2):=by
 constructor
 ·rintro⟨e,he,c,ec,hc⟩;obtain⟨p,hp,rfl⟩:=ZD.mp (x.pm.mem_iff.mp he);cases ec;exact ZD.mpr ⟨p,hp,(ks p hp).inj hc⟩
 ·intro hz;obtain⟨p,hp,rfl⟩:=ZD.mp hz;exact⟨_,x.pm.mem_iff.mpr (ZD.mpr ⟨p,hp,rfl⟩),p.1,rfl,ks p hp⟩
theorem Tab.plain(T:Tab t es)(p:Bool):Tab {t with plain:=p} es:=⟨T.rise,T.size,T.vG,T.vH,T.le,T.aP,T.wp⟩
theorem qh{h:Heap}{a:Addr}{o:Obj}{es:Array (Int×Value)}{ep:Nat}{t:SetTable}(ho:h.get? a=some o)(hd:o.data=.set es ep t)(es':Array (Int×Value))(t':SetTable):(h.update a (Obj.putSet es' t')).get? a=some {o with data:=.set es' (ep+1) t' }:=by
 have:=aad (Obj.putSet es' t') ho (by rw[putSet_of es' t' hd];rfl)
 rw[putSet_of es' t' hd] at this;exact this
theorem dF.add{a b:Addr}{zs:List Str}{ps:List (Addr×List Str)}{led:Bool}{o:Obj}{es:Array (Int×Value)}{ep:Nat}{t:SetTable}{Q:Bool->Shared->Prop}(hu:A.units<cLine)(x:dF prog w s.heap a ps led o es ep t)(ks:∀p∈ps,KT prog w s.heap p.2 p.1)(hk:KT prog w s.heap zs b)(ne:zs≠[])(room:ps.length+1<=12)
  (k:∀(bb:Bool) h' o' es' iS t',Heap.SameBut a s.heap h'->dF prog w h' a (dG ps (b,zs)) led o' es' iS t'->Q bb {s with heap:=h' }) :
  wpAny (model prog w) A (setAddHashed a (.ref b) (hT prog w zs)) Q E s:=by
 obtain⟨K,hK,emp,bef⟩:=x.tab.first (hT prog w zs)
 have big:es.size+1<=12:=by rw[x.size];exact room
 have Of:es.size+1<=t.mask:=by
  rcases x.tab.vH with e|e
  ·have:=x.four e;omega
  ·omega
 unfold setAddHashed;refine wpAny_holding ?_;show wpAny _ _ (setAddHashedIn a (.ref b) (hT prog w zs) (99999+1)) _ _ _
 unfold setAddHashedIn;refine wpAny_bind (wpAny_setState_of x.ho x.hd x.tab.fits ?_);dsimp only;have bs:byScan (.ref b) es=false:=rfl;rw[bs];simp only[ZR,aam];refine wpAny_bind ?_;refine nV hu x.ho x.hd x.tab (x.elems ks) hk hK emp bef (λam=>?_) (λnam=>?_) 100000 0 none (by have:SetTable.turns t.mask<=46:=by {unfold SetTable.turns;rcases x.tab.vH with e|e<;>omega};omega) (ZE _) rfl (λk' i e dP=>absurd dP (abJ _))
 ·have e2:dG ps (b,zs)=ps:=by unfold dG;rw[if_pos ((x.among ks).mp am)]
  refine wpAny_pure ?_;exact k false s.heap o es ep t (adl a s.heap) (by rw[e2];exact x)
 ·have e2:dG ps (b,zs)=ps++[(b,zs)]:=by unfold dG;rw[if_neg λq=>nam ((x.among ks).mpr q)]
  rw[e2] at k;dsimp only;refine wpAny_bind (wpAny_setState_of x.ho x.hd x.tab.fits ?_);dsimp only;have T1:=x.tab.put (x:=.ref b) Of hK emp bef (zY _ _ _);have em:(t.put (sl t.mask (hT prog w zs) K)).1.mask=t.mask:=rfl;have el1:(t.put (sl t.mask (hT prog w zs) K)).1.led=t.led:=rfl;have Se:(t.put (sl t.mask (hT prog w zs) K)).1.plain=t.plain:=rfl;have perm:(SetTable.insertAt es (t.put (sl t.mask (hT prog w zs) K)).2 (hT prog w zs,Value.ref b)).toList.Perm (es.toList++[(hT prog w zs,Value.ref b)]):=by
   have:=ad5 es (t.put (sl t.mask (hT prog w zs) K)).2 (hT prog w zs,Value.ref b)
   rw[ae2] at this;exact this
  generalize (t.put (sl t.mask (hT prog w zs) K)).1=t1 at T1 em el1 Se⊢;generalize SetTable.insertAt es (t.put (sl t.mask (hT prog w zs) K)).2 (hT prog w zs,Value.ref b)=es1 at T1 perm⊢;have PY:es1.size=es.size+1:=by rw[<-Z9,perm.length_eq,ZA,Z9];rfl
  have PZ:es1.toList.Perm ((ps++[(b,zs)]).map (Lc prog w)):=by rw[ZU];exact perm.trans (x.pm.append_right _)
  have tail:∀t2:SetTable,Tab t2 es1->t2.mask=t.mask->t2.led=led->t2.plain=false->wpAny (model prog w) A (do
    storeSet a es1 t2
    if (!false&&t2.tooFull)=true then do
      setRelay a (SetTable.grown (es.size+1))
      pure true
     else pure true) Q E s:=λt2 T2 m2 l2 p2=>by
   refine wpAny_bind (wpAny_storeSet_of x.ho x.hd ?_ (Zu (by omega:es1.size<=12) (by decide)));have g1:=qh x.ho x.hd es1 t2;have Ld:=aac s.heap a (Obj.putSet es1 t2);generalize s.heap.update a (Obj.putSet es1 t2)=h1 at g1 Ld⊢;by_cases tf:t2.tooFull=true
   ·rw[tf];simp only[abS,ab1,Z7];have Sf:t.mask=7/\es.size=4:=by
     unfold SetTable.tooFull SetTable.fill at tf;rw[T2.vG,T2.size,m2,PY] at tf;have Gy:(es.size+1+0)*5 ≥ t.mask*3:=by simpa using tf
     rcases x.tab.vH with e|e
     ·have:=x.four e;exact⟨e,by omega⟩
     ·omega
    rw[Sf.2];refine wpAny_bind ?_;unfold setRelay;refine wpAny_bind (wpAny_setState_of (s:={s with heap:=h1}) g1 rfl T2.fits ?_);dsimp only;have gr:SetTable.grown (4+1)=20:=rfl;rw[gr,if_neg (by decide)];obtain⟨t3,order,er,m3,l3,p3,T3,P0,P'⟩:=EA (m:=31) (.inr rfl) es1 (by omega) t2.finger (t2.movedTo 31) t2.led t2.plain;have UU:t2.relaid (es1.map (·.1)) 20=some (t3,order):=by unfold SetTable.relaid;rw[Iz];exact er
    rw[UU];refine wpAny_bind ?_;obtain⟨es3,Qa⟩:∃es3,es3=order.filterMap (λi=>es1[i]?):=⟨_,rfl⟩
    rw[<-Qa] at T3 P0 P';refine wpAny_of_eq (Eq.trans (b:=if (es3.size !=es1.size)=true then (unsupported "internal:set-table-lost-an-element">>=λ(_:PUnit)=>pure (es3,t3)) else pure (es3,t3)) ?_ (if_neg (by rw[P'];simp))) ?_
    ·rw[Qa];rfl
    dsimp only;refine wpAny_storeSet_of (s:={s with heap:=h1}) g1 rfl ?_ (Zu (by omega:es3.size<=12) (by decide));have g2:=qh (es':=es3) (t':=t3) g1 rfl;have UW:=Ld.trans (aac h1 a (Obj.putSet es3 t3));exact wpAny_pure (k true _ _ es3 _ t3 UW ⟨g2,x.ex,rfl,T3,P0.trans PZ,λe=>by rw[m3] at e;omega,by rw[l3];exact l2,λ_=>by rw[p3];exact p2⟩)
   ·have Gy:t2.tooFull=false:=by simpa using tf
    rw[Gy];simp only[aby,ZR,aam];refine wpAny_pure (k true _ _ es1 _ t2 Ld ⟨g1,x.ex,rfl,T2,PZ,λe=>?_,l2,λ_=>p2⟩);have q:¬ (es.size+1+0)*5 ≥ t.mask*3:=by
     intro q
     have:t2.tooFull=true:=by unfold SetTable.tooFull SetTable.fill;rw[T2.vG,T2.size,m2,PY];simpa using q
     rw[this] at Gy;cases Gy
    rw[m2] at e;omega
  by_cases tp:t1.plain=true
  ·rw[if_pos tp];refine wpAny_bind (xy hk ne ?_);simp only[ZR,aam];exact tail {t1 with plain:=false} (T1.plain false) em (el1.trans x.led) rfl
  ·rw[if_neg tp];refine wpAny_bind (wpAny_pure ?_);simp only[Z7];exact tail t1 T1 em (el1.trans x.led) (by simpa using tp)
end
section
theorem EE(h:Vals (zs.map V.str) us):ItemsAre (PySem.strKind prog w) zs us:=by
 induction zs generalizing us with
 |nil=>cases h;exact .nil
 |cons z zs ih=>
  cases h with
  |cons r t=>
   obtain⟨k,rfl⟩:=(show ∃k,_=Value.str z k from r)
   exact .cons (by show Value.isStrOf z (.str z k)=true;simp[Value.isStrOf]) (ih t)
theorem IE(hu:A.units+1<cLine)(x:dF prog w s.heap a ps led o es ep t)(ks:∀p∈ps,KT prog w s.heap p.2 p.1)(hk:KT prog w s.heap zs b)(ne:zs≠[])(room:ps.length+1<=12)
  (k:∀h' o' es' iS t',Heap.SameBut a s.heap h'->dF prog w h' a (dG ps (b,zs)) led o' es' iS t'->Q .none {s with heap:=h',toks:=s.toks+(zs.length+1)}) :
  wpAny (model prog w) A (call (.builtin "set.add") [.ref a,.ref b]) Q E s:=by
 have UX:s.TypeIs (.ref a) "set" := ⟨o,x.ho,x.ex.1⟩
 refine wpAny_call_entry F.slot_set_add UX F.entry_set_add ?_ (F.args_set_add_2 _ _);unfold Builtin.«set.add» Builtin.Frozenset.oneOther;simp only[aff,bind_assoc];unfold Builtin.Frozenset.addrOf setAdd;refine wpAny_bind (wpAny_pure ?_);try dsimp only
 refine wpAny_bind (wpAny_pure ?_);try dsimp only
 refine wpAny_bind ?_;refine wpAny_holding ?_;refine wpAny_bind (wpAny_pyHash_tuple (by show A.units+1<cLine;exact hu) hk ?_);refine dF.add (s:={s with toks:=s.toks+(zs.length+1)}) (by show A.units+1<cLine;exact hu) x ks hk ne room λbb h' o' es' iS t' sb x'=>?_;show wpAny _ _ (ret Value.none) _ _ _
 exact wpAny_pure ⟨_,rfl,k h' o' es' iS t' sb x'⟩
theorem EF(elt tg iter:Expr)(ifs:List Expr)(sc:Scope)(pos:Pos)(it acc:Value)(env:Env) :
  compTurn (.SetComp elt [⟨tg,iter,ifs,0⟩] sc pos) 0 it acc env=(do
   standAt iter.pos
   match <-pyNext it with
   |none=>pure (.done .next)
   |some v=>
    letOwnedTupleGo tg it v
    assign tg env v
    let mut ok:=true
    for c in ifs do
     if ok then ok <-isTrue c env (eval c env)
    if ok then
     (do let v <-eval elt env;standAt elt.pos;let _ <-call (.builtin "set.add") [acc,v])
    again (.compLoop (.SetComp elt [⟨tg,iter,ifs,0⟩] sc pos) 0 it acc env)):=by rfl
theorem B2{elt target iter ifs rest scope pos it acc env}
  (h0:codeAny (model prog w) A (.compLoop (.SetComp elt (⟨target,iter,ifs,0⟩::rest) scope pos) 0 it acc env) R s)
  (h:wpAny (model prog w) A (pyIter it) (λvP s'=>codeAny (model prog w) A (.compLoop (.SetComp elt (⟨target,iter,ifs,0⟩::rest) scope pos) 0 vP acc env) R s')
   (notedBy (model prog w) A env λx s'=>R (.error x) s') s) :
  codeAny (model prog w) A (.compStart (.SetComp elt (⟨target,iter,ifs,0⟩::rest) scope pos) 0 it acc env) R s:=by
 refine adQ ?_;show wpAny _ A ((compStart (.SetComp elt (⟨target,iter,ifs,0⟩::rest) scope pos) 0 it acc env).onRaise (λx=>do noteFrame x env;standAt theWindowsPlace)) _ _ s
 refine afC ?_;unfold compStart;show wpAny _ A (ask>>=_) _ _ s
 refine wpAny_bind (wpAny_askSetting (wpAny_ite ?_));split
 ·first
   |exact wpAny_bind (wpAny_pure (wpAny_pure (And.intro rfl h0)))
   |exact wpAny_pure (And.intro rfl h0)
 ·first
   |exact wpAny_bind (wpAny_rule (wpAny_bind (wpAny_standAt (wpAny_bind (wpAny_mono h (λvP s' h'=>wpAny_pure (And.intro rfl h')) λ_ _ x=>x)))))
   |(refine wpAny_bind (wpAny_rule ?_);show wpAny _ _ (standAt iter.pos>>=_) _ _ s;exact wpAny_bind (wpAny_standAt (wpAny_bind (wpAny_mono h (λvP s' h'=>wpAny_pure (And.intro rfl h')) λ_ _ x=>x))))
theorem B3{elt tg iter:Expr}{ifs:List Expr}{sc:Scope}{pos:Pos}{env:Env}{it:Value}{acc:Value}(G:Nat->Shared->Prop)
  (turn:∀k t,G k t->dq.Tame prog w A (pyNext it) (λr t1=>match r with
   |none=>R (.ok .next) t1
   |some v=>dq.Tame prog w A (letOwnedTupleGo tg it v) (λ_=>dq.Tame prog w A (assign tg env v) λ_=>dq.Tame prog w A (kP env ifs) λb t4=>match b with
     |false=>∃j,j<k/\G j t4
     |true=>dq.Tame prog w A (eval elt env) (λy=>dq.Tame prog w A (call (.builtin "set.add") [acc,y]) λ_ u=>∃j,j<k/\G j u) t4) t1) t)
  {k:Nat} {t:Shared} (g:G k t):codeAny (model prog w) A (.compLoop (.SetComp elt [⟨tg,iter,ifs,0⟩] sc pos) 0 it acc env) R t:=by
 have one:∀k t,G k t->dq.Tame prog w A (compTurn (.SetComp elt [⟨tg,iter,ifs,0⟩] sc pos) 0 it acc env) (λx t'=>match x with|.done r=>R (.ok r) t'|.again c=>c=.compLoop (.SetComp elt [⟨tg,iter,ifs,0⟩] sc pos) 0 it acc env/\∃j,j<k/\G j t') t:=by
  intro k t g;rw[EF];apply wpAny_bind;apply wpAny_standAt;apply wpAny_bind;refine aH (turn k t g) λx t1 h1=>?_;match x,h1 with
  |none,h1=>exact wpAny_pure h1
  |some v,h1=>
   apply wpAny_bind;refine aH h1 λ_ t2 h2=>?_;apply wpAny_bind;refine aH h2 λ_ t3 h3=>?_;apply wpAny_bind;refine aH h3 λb t4 h4=>?_;match b,h4 with
   |false,h4=>exact wpAny_pure ⟨rfl,h4⟩
   |true,h4 =>apply wpAny_bind;apply wpAny_bind;refine aH h4 λy t5 h5=>?_;apply wpAny_bind;apply wpAny_standAt;apply wpAny_bind;refine aH h5 λ_ t6 h6=>?_;exact wpAny_pure (wpAny_pure ⟨rfl,h6⟩)
 exact acO rfl G (λk t g=>wpAny_noted (wpAny_mono (one k t g) (λ_ _ q=>q) λ_ _ f=>f.elim)) k g
end
def sY(P:Program)(w:World)(a:Addr)(ps:List (Addr×List Str)):HO:=.ext λh=>∃o es ep t,dF P w h a ps (!dY w) o es ep t
theorem Le{X:Cx}{ps:List (Addr×List Str)}(x:∃o es ep t,dF X.prog X.w h a ps (!dY X.w) o es ep t):bg X.prog X.w H h a (sY X.prog X.w a ps):=by refine⟨x,?_,λh1 h2 ⟨o,es,ep,t,q⟩ k=>⟨o,es,ep,t,q.keep λo e=>k o e⟩⟩;obtain⟨o,es,ep,t,y⟩:=x;exact⟨o,y.ho⟩
def fv(H:Hp)(ps:List (Addr×List Str)):Prop:=∀p∈ps,H p.1=some (.tup (p.2.map V.str))
theorem Gz(I:Inv X pins σ H s)(h:H c=some (.tup (zs.map V.str))):KT X.prog X.w s.heap zs c:=by obtain⟨its,rv,⟨o,ho,hc,n,hd⟩,_⟩:=I.tuple (aO.of (K:=X.K) h);exact⟨o,its.toArray,n,ho,hc,hd,by simpa using EE rv⟩
def vQ(P:Program)(w:World)(own:List Str)(fr:List Nat)(g:TG)(tt:TT)(te:TE)(σ:L2.St)(Q:VK)(J:It)(H1:Hp):Prop:=
 ∃W:Nat->Nat->List (Addr×List Str)->Hp->Prop,(∃m,W 0 m [] H1)/\∀i m ps H2,W i m ps H2->fv H2 ps /\
  ((J.stop i H2/\∀D,H2 D=none->Q (.ref D) (upd H2 D (sY P w D ps))) \/
  (J.go i H2/\∀x H3,J.jw i H2 x H3->g x (cI own fr σ) H3 λσ4 H4=>tt σ4 H4 λb H5=>if b=true then te σ4 H5 λy H6=>∃c zs,y=.ref c/\zs≠[]/\H6 c=some (.tup (zs.map V.str))/\fv H6 ps/\ps.length+1<=12/\∃m',m'<m/\W (i+1) m' (dG ps (c,zs)) H6 else ∃m',m'<m/\W (i+1) m' ps H5))
def UY(P:Program)(w:World)(own:List Str)(fr:List Nat)(wi:TI)(g:TG)(tt:TT)(te:TE):TE:=λσ H Q=>wi σ H (vQ P w own fr g tt te σ Q)
section
theorem IF{pins:List (Addr×Obj)}{σ:L2.St}{H2:Hp}{s2:Shared}{Q:VK}{it:Addr}{fp:List Addr}{tn:Nat->Heap->Prop}{J:It}{RR:Value->Addr->Result->Shared->Prop}{E:Value->Shared->Prop}(hu:X.A.units+1<cLine)(hc:X.calm=true)(S:dD X own fr sc)(gk:GK own.length g)
  (hg:∀s H fp,PG (bJ X own fr sc s H fp) tg g) (ht:∀s H fp,dJ (bJ X own fr sc s H fp) ifs tt) (he:∀s H fp,PE (bJ X own fr sc s H fp) elt te)
  (I2:Inv X pins σ H2 s2) (T:Turn X.prog X.w X.K tg J fp it tn) (st2:tn 0 s2.heap) (f2:∀b∈fp,c5 X pins H2 b) (L:vQ X.prog X.w own fr g tt te σ Q J H2)
  (hRR:∀D C s',(∃m,s'.heap.Ns C m)->@LE.le Nat _ s2.heap.objs.size C->(∃H',H' C=none/\Q (.ref D) H'/\∀h' tk,Heap.SameBut C s'.heap h'->Inv X pins σ H' {s' with heap:=h',toks:=tk})->RR (.ref D) C (.ok .next) s') :
  wpAny (model X.prog X.w) X.A (newSet (.type "set")) (λacc s₃=>wpAny (model X.prog X.w) X.A (newFunctionEnv sc X.env.globals (cj X.env sc.names []) [] X.env.qual none .none (some X.env)) (λgE s₄ =>codeAny (model X.prog X.w) X.A (.compStart (.SetComp elt [⟨tg,iter,ifs,0⟩] sc pos) 0 (.ref it) acc {gE with scope:=relabel sc X.env}) (RR acc gE.locals) s₄) E s₃) E s2:=by
 obtain⟨W,⟨m0,w0⟩,turn⟩:=L;unfold newSet;refine wpAny_bind (gH (wpAny_newObj_type (eY ?_)));dsimp only;generalize dv:s2.heap.push {cls:=.type "set",dict:=none,data:=.set #[] 0 (.fresh 0 0 (!dY X.w))}=h1;have hz:h1.objs.size=s2.heap.objs.size+1:=by rw[<-dv,Z']
 have hk1:∀b o,s2.heap.get? b=some o->h1.get? b=some o:=λb o e=>by rw[<-dv];exact Zl _ e
 have lI:h1.get? s2.heap.objs.size=some {cls:=.type "set",dict:=none,data:=.set #[] 0 (.fresh 0 0 (!dY X.w))}:=by rw[<-dv];exact Zw _ rfl
 have hfl:∀b∈fp,@LT.lt Nat _ b s2.heap.objs.size:=λb hb=>by obtain⟨o,e,_⟩:=T.obj _ _ st2 b hb;exact Zx e
 have I3:=iZ I2 S f2 hz hk1 hfl;rw[hz];generalize hY:bJ X own fr sc s2 H2 fp=Y at I3;have jZ:(hC s2 sc h1).get? s2.heap.objs.size=some {cls:=.type "set",dict:=none,data:=.set #[] 0 (.fresh 0 0 (!dY X.w))}:=pushCells_keeps _ _ _ _ (Zl _ lI);have hG:tn 0 (hC s2 sc h1):=T.keep _ _ _ st2 λb _ o e=>pushCells_keeps _ _ _ _ (Zl _ (hk1 b o e));have eP:Y.prog=X.prog:=by rw[<-hY];rfl
 have eW:Y.w=X.w:=by rw[<-hY];rfl
 have eK:Y.K=X.K:=by rw[<-hY];rfl
 have eA:Y.A=X.A:=by rw[<-hY];rfl
 have eX:Y.xe=gB:=by rw[<-hY];rfl
 have ecm:Y.calm=true:=by rw[<-hY];exact hc
 have kQ:({scope:=relabel sc X.env,locals:=s2.heap.objs.size+1,globals:=X.env.globals,cells:=cellsFrom (s2.heap.objs.size+1+1) sc.names (cj X.env sc.names []),qual:=X.env.qual,func:=none,code:=X.env.code,frame:=X.env.frame,builtins:=X.env.builtins}:Env)=Y.env:=by rw[<-hY];rfl
 have eL:Y.env.locals=s2.heap.objs.size+1:=by rw[<-hY];rfl
 rw[kQ];have i4:PG Y tg g:=hY▸hg s2 H2 fp;have i5:dJ Y ifs tt:=hY▸ht s2 H2 fp;have i6:PE Y elt te:=hY▸he s2 H2 fp;have dfp:s2.heap.objs.size∉fp:=λz=>ZX _ (hfl _ z);have dC:s2.heap.objs.size≠s2.heap.objs.size+1:=ZQ (aav _);have iF:∀x c,Y.env.cells.lookup x=some c->c≠s2.heap.objs.size:=λx c e z=>by obtain⟨v,o,q,d⟩:=I3.cell x c e;rw[z] at q;have q':=jZ.symm.trans q;cases q';cases d
 have jJ:s2.heap.objs.size∉Y.fs:=by
  rw[<-hY];intro z;rcases Zs.mp (I2.dz _ z) with e|e
  ·exact ZX _ (by have:=I2.lt;rw[<-e] at this;exact this)
  ·exact I2.qI (Zn _) e
 have mv:@LE.le Nat _ Y.s₀.heap.objs.size s2.heap.objs.size:=by rw[<-hY];exact Zn _
 have fpY:∀{H':Hp} {pp:List (Addr×Obj)},(∀b∈fp,H' b=none)->(∀p∈pp,p.1∉fp)->∀b∈fp,c5 Y pp H' b:=λ{H' pp} hn hp b hb=>by
  refine⟨hn b hb,?_,?_,?_,?_,λp hq z=>?_⟩
  ·have:=hfl b hb;rw[eL];intro z;have z':@Eq Nat b (s2.heap.objs.size+1):=z;omega
  ·rw[<-hY];intro z;rcases Zs.mp (I2.dz _ z) with e|e
   ·exact(f2 b hb).2.1 e
   ·exact(f2 b hb).2.2.1 e
  ·exact .inl (by rw[<-hY];exact hb)
  ·exact(I3.ok.uu b (by rw[<-hY];exact hb)).2
  ·rcases Zv.mp hq with q|q
   ·have:p∈([]:List (Addr×Obj)):=by rw[<-hY] at q;exact q
    exact nomatch this
   ·exact hp p q (z▸hb)
 have i7:∀{H':Hp} {s':Shared} {σ':L2.St} {ob:Obj},Inv Y [] σ' H' s'->H' s2.heap.objs.size=none->s'.heap.get? s2.heap.objs.size=some ob->(∀v,ob.data≠.cell v)->Inv Y [(s2.heap.objs.size,ob)] σ' H' s':=λ{H' s' σ' ob} J0 hn e d=>
  J0.bG λp hp=>by
   have:p=(s2.heap.objs.size,ob):=by simpa using hp
   subst this;exact⟨e,hn,by rw[eL];exact dC,jJ,d⟩
 have gF:∀{ob:Obj} (p:Addr×Obj),p∈[(s2.heap.objs.size,ob)]->p.1∉fp:=λ{ob} p hp=>by
  have:p=(s2.heap.objs.size,ob):=by simpa using hp
  subst this;exact dfp
 have loop:codeAny (model X.prog X.w) X.A (.compLoop (.SetComp elt [⟨tg,iter,ifs,0⟩] sc pos) 0 (.ref it) (.ref s2.heap.objs.size) Y.env) (RR (.ref s2.heap.objs.size) (s2.heap.objs.size+1)) {s2 with heap:=hC s2 sc h1}:=by
  have BA:∃o es ep t,dF X.prog X.w (hC s2 sc h1) s2.heap.objs.size [] (!dY X.w) o es ep t:=by
   refine⟨_,_,_,_,jZ,⟨rfl,rfl,rfl⟩,rfl,⟨λi j hi=>absurd hi (abJ _),rfl,rfl,.inl rfl,λi j e=>?_,ZE _,λi j e e1=>?_⟩,.nil,λ_=>ZE _,rfl,λq=>absurd rfl q⟩
   ·have:(#[]:Array Nat)[i]?=some j:=e
    simp at this
   ·have:(#[]:Array Nat)[i]?=some j:=e1
    simp at this
  refine B3 (λn s'=>∃i ps H',W i n ps H'/\Inv Y [] (cI own fr σ) H' s'/\tn i s'.heap/\(∀b∈fp,H' b=none)/\H' s2.heap.objs.size=none/\∃o es ep t,dF X.prog X.w s'.heap s2.heap.objs.size ps (!dY X.w) o es ep t) ?_ (k:=m0)
   ⟨0,[],H2,w0,I3,hG,λb hb=>(f2 b hb).1,I2.aL.fresh (Zn _),BA⟩
  rintro n s' ⟨i,ps,H',w',J0,cV,ic,hDn,ob,es,ep,tb,hDo⟩;obtain⟨hold,eD⟩:=turn i n ps H' w';have BB:∀v,ob.data≠.cell v:=λv z=>by rw[hDo.hd] at z;cases z
  have J1:=i7 J0 hDn hDo.ho BB;rcases eD with⟨stop,fin⟩|⟨go,step⟩
  ·have d0:=T.done Y eP eW eK ecm i _ s' _ H' gB J1 (fpY ic gF) cV stop;rw[eA] at d0;refine wpAny_mono d0 (λr s4 ⟨hr,J4⟩=>?_) λ_ _ z=>z;subst hr;have pD:=(J4.pin (s2.heap.objs.size,_) (Zm _ Zy)).1;refine hRR _ _ s4 ?_ (aaR _) ⟨upd H' s2.heap.objs.size (sY X.prog X.w s2.heap.objs.size ps),?_,fin _ hDn,λh' tk hs=>?_⟩
   ·obtain⟨m,hn,_⟩:=J4.loc;rw[eL] at hn;exact⟨m,hn⟩
   ·rw[L2.ak (Z0 dC),<-eL];exact J4.free
   ·subst hY;have hO:bg X.prog X.w (upd H' s2.heap.objs.size (sY X.prog X.w s2.heap.objs.size ps)) h' s2.heap.objs.size (sY X.prog X.w s2.heap.objs.size ps):=Le ⟨ob,es,ep,tb,{hDo with ho:=(hs.2 _ dC).trans pD}⟩;exact i3 I2 f2 J4 (Zn _) hDn dC hs hO tk
  ·have d0:=T.item Y eP eW eK ecm i _ s' _ H' gB J1 (fpY ic gF) cV go;rw[eA] at d0;refine wpAny_mono d0 (λr s4 ⟨u,hr,h4⟩=>?_) λ_ _ z=>z;subst hr;refine wpAny_mono h4 (λ_ s5 ⟨x,H5,J5,r5,y5,st5,jQ⟩=>?_) λ_ _ z=>z;have mw:=J5.pinned (fpY jQ gF) (T.obj _ _ st5);have s1:=i4 _ s5 _ H5 x u _ mw r5 (gk _ _ _ _ (step x H5 y5));rw[eP,eW,eA,eX] at s1;refine wpAny_mono s1 (λ_ s6 ⟨σ6,H6,J6,q6,jz⟩=>?_) λ_ _ z=>z;have s2':=i5 _ s6 σ6 H6 _ J6 q6;rw[eP,eW,eA,eX] at s2';refine wpAny_mono s2' (λok s7 ⟨H7,J7,q7⟩=>?_) λ_ _ z=>z;have low:∀{H8:Hp} {s8:Shared},Inv Y ([(s2.heap.objs.size,ob)]++cb fp s5.heap) σ6 H8 s8 ->
     Inv Y (cb fp s5.heap) σ6 H8 s8/\H8 s2.heap.objs.size=none/\s8.heap.get? s2.heap.objs.size=some ob/\(∀b∈fp,H8 b=none)/\tn (i+1) s8.heap:=λ{H8 s8} J8=>by
    have p8:=J8.pin (s2.heap.objs.size,_) (Zm _ (ZN _ Zy));refine⟨J8.bG λp hp=>J8.pin p (Zm _ (Zm _ hp)),p8.2.1,p8.1,λb hb=>?_,T.keep _ _ _ st5 λb hb o e=>(J8.pin (b,o) (Zm _ (Zm _ (bM hb e)))).1⟩;obtain⟨o,e,d⟩:=T.obj _ _ st5 b hb;exact(J8.pin (b,o) (Zm _ (Zm _ (bM hb e)))).2.1
   have weak:∀{H8:Hp} {s8:Shared} {pp:List (Addr×Obj)},Inv Y pp σ6 H8 s8->Inv Y [] (cI own fr σ) H8 s8:=λ{H8 s8 pp} J8=>(J8.weak jz.1.symm (λj v e=>by
    by_cases hj:j<own.length
    ·exfalso;unfold cI at e;rw[ZZ (by simpa using hj),aaO] at e;split at e<;>cases e
    ·rw[jz.2 j (acP.mp hj)];exact e)).bG λp hp=>nomatch hp
   cases ok with
   |false=>
    obtain⟨m',hm,w7⟩:=(show ∃m',m'<n/\W (i+1) m' ps H7 by simpa using q7)
    obtain⟨_,l1,l2,l3,l4⟩:=low J7;exact⟨m',hm,i+1,ps,H7,w7,weak J7,l4,l3,l1,ob,es,ep,tb,{hDo with ho:=l2}⟩
   |true=>
    have pU:te σ6 H7 λy H6=>∃c zs,y=.ref c/\zs≠[]/\H6 c=some (.tup (zs.map V.str))/\fv H6 ps/\ps.length+1<=12/\∃m',m'<n/\W (i+1) m' (dG ps (c,zs)) H6:=by simpa using q7
    have s3:=i6 _ s7 σ6 H7 _ J7 pU;rw[eP,eW,eA,eX] at s3;show wpAny _ _ _ _ _ _
    refine wpAny_mono s3 (λyv s8 ⟨y,H8,J8,r8,c,zs,ey,ne,UZ,hold8,room,m',hm,w8⟩=>?_) λ_ _ z=>z;subst ey;cases r8;have Qb:=Gz J8 UZ;have U0:∀p∈ps,KT X.prog X.w s8.heap p.2 p.1:=λp hp=>by have:=Gz J8 (hold8 p hp);rw[eP,eW] at this;exact this
    rw[eP,eW] at Qb;obtain⟨Kt,l1,l2,l3,l4⟩:=low J8;refine IE hu ({hDo with ho:=l2}:dF X.prog X.w s8.heap s2.heap.objs.size ps (!dY X.w) ob es ep tb) U0 Qb ne room λh' o' es' iS t' hs' x'=>?_;have J9:Inv Y [] (cI own fr σ) H8 {s8 with heap:=h',toks:=s8.toks+(zs.length+1)}:=by
     refine(weak Kt).turned (t':=s8.toks+(zs.length+1)) (it:=s2.heap.objs.size) (λb o hb e=>(hs'.2 b hb).trans e) l1 (by rw[eL];exact dC) (.inr mv) iF λp hp=>?_
     have:p∈([]:List (Addr×Obj)):=by rw[<-hY] at hp;exact hp
     exact nomatch this
    refine⟨m',hm,i+1,dG ps (c,zs),H8,w8,J9,?_,l3,l1,o',es',iS,t',x'⟩;exact T.keep _ _ _ l4 λb hb o e=>(hs'.2 b (λz=>dfp (z▸hb))).trans e
 exact B2 loop (T.self X.A 0 _ _ _ hG loop)
theorem Og{P:Program}{w:World}(own:List Str)(fr:List Nat)(hu:X.A.units+1<cLine)(hc:X.calm=true)(S:dD X own fr sc)(gk:GK own.length g)(hi:PI X tg iter wi)
  (hg:∀s H fp,PG (bJ X own fr sc s H fp) tg g) (ht:∀s H fp,dJ (bJ X own fr sc s H fp) ifs tt) (he:∀s H fp,PE (bJ X own fr sc s H fp) elt te) (hP:X.prog=P:=by rfl) (hw:X.w=w:=by rfl)
  (hs:∀x,foldedSetIterable iter X.env x=pure x:=by intro _;rfl):PE X (.SetComp elt [⟨tg,iter,ifs,0⟩] sc pos) (UY P w own fr wi g tt te):=by
 subst hP hw;intro pins s σ H Q I h;show wpAny _ _ (comprehension (.SetComp elt [⟨tg,iter,ifs,0⟩] sc pos) sc X.env (firstIterPos [⟨tg,iter,ifs,0⟩] pos) (newSet (.type "set")) (firstAsync [⟨tg,iter,ifs,0⟩]) (firstIter [⟨tg,iter,ifs,0⟩] X.env)) _ _ _
 have gG:closureFor sc X.env=pure (cj X.env sc.names []):=dh λy hy hf=>I.ok.has y.1 (by
  rcases S.sE y hy hf with q|q
  ·exact .inl q
  ·exact .inr q)
 refine wpAny_comprehension_free (use:=none) rfl hs gG S.kind (λy hy hl=>bH S.nd (by rw[<-hl];exact hy)) ?_;refine aH (hi pins s σ H _ I h) λv s1 h1=>aH h1 λitv s2 h2=>?_;obtain⟨it,fp,tn,J,H2,e,I2,T,st2,f2,L⟩:=h2;subst e;exact IF hu hc S gk hg ht he I2 T st2 f2 L λD C s' ⟨m,hn⟩ _ ⟨H',_,q,hi⟩=>⟨m,hn,λh' hs'=>⟨.ref D,H',hi h' s'.toks hs',rfl,q⟩⟩
end
def gX(ps:List (Addr×List Str))(a:Addr):List Str:=((ps.find? λp=>decide (p.1=a)).map (·.2)).getD []
theorem str_inj:∀{xs ys:List Str},xs.map V.str=ys.map V.str->xs=ys
 |[],[],_=>rfl
 |[],_::_,h=>by simp at h
 |_::_,[],h=>by simp at h
 |x::xs,y::ys,h=>by simp only[ZI,aaY,V.str.injEq] at h;rw[h.1,str_inj h.2]
theorem vR(h:fv H ps)(hp:p∈ps):gX ps p.1=p.2:=by
 unfold gX;cases e:ps.find? λq=>decide (q.1=p.1) with
 |none=>
  have:=List.find?_eq_none.mp e p hp
  simp at this
 |some q=>
  have h1:=List.find?_some e;have h2:=List.mem_of_find?_eq_some e;have e1:q.1=p.1:=by simpa using h1
  have a:=h q h2;rw[e1,h p hp] at a;have a':p.2.map V.str=q.2.map V.str:=by injection a with a;injection a
  exact(str_inj a').symm
section
variable {prog:Program}{w:World}{A:Around}{E:Value->Shared->Prop}{s:Shared}
def oO(h:Heap)(f:Addr->List Str)(v:Value):Prop:=∃a its,v=.ref a/\IsTup h a its.toArray/\StrsAre its (f a)/\f a≠[]
theorem oO.keep(x:oO h f v)(k:∀b o,h.get? b=some o->h'.get? b=some o):oO h' f v:=let ⟨a,its,e,⟨o,ho,r⟩,q⟩:=x;⟨a,its,e,⟨o,k _ _ ho,r⟩,q⟩
theorem vS:∀{us:List Value},(∀v∈us,oO h f v)->∃nR,Ab h us nR/\∀zs∈nR,zs≠[]
 |[],_=>⟨[],.nil,λ_ z=>nomatch z⟩
 |u::us,k=>by obtain⟨nR,t,n⟩:=vS λv hv=>k v (ZC _ hv);obtain⟨a,its,e,hi,hs,ne⟩:=k u Zy;exact⟨f a::nR,.cons ⟨a,its,e,hi,hs⟩ t,λz hz=>(Zs.mp hz).elim (λe=>e▸ne) (n z)⟩
theorem EG(k:∀v∈us,oO s.heap f v):mN prog w A E s (pairsOf us) (tuples' true) (j8 f):=by
 intro st i j R q hi hj hR;have at_:∀{i:Nat},i<(pairsOf us).size->∃a its p,(arrOf st)[i]?=some (.ref a,p)/\IsTup s.heap a its.toArray/\StrsAre its (f a):=λ{i} hi=>by
  have hi':i<(arrOf st).size:=by rw[q.len];exact hi
  have m:(arrOf st)[i]∈(pairsOf us).toList:=by
   have:(arrOf st)[i]∈pairsOf us:=q.pm.mem_iff.mp (ae4 hi')
   simpa using this
  have m2:((arrOf st)[i]).1∈us:=by
   have:(arrOf st)[i]∈us.zip us:=by simpa [pairsOf] using m
   exact(abH this).1
  obtain⟨a,its,e,h1,h2,_⟩:=k _ m2;exact⟨a,its,((arrOf st)[i]).2,by rw[ZF hi',<-e],h1,h2⟩
 obtain⟨a,ia,pa,ea,ta,sa⟩:=at_ hi;obtain⟨b,ib,pb,eb,tb,sb⟩:=at_ hj;have ka:ky (j8 f) st i=f a:=by show KK _ _ _=_;unfold KK;rw[ea];rfl
 have kb:ky (j8 f) st j=f b:=by show KK _ _ _=_;unfold KK;rw[eb];rfl
 rw[ka,kb] at hR;rw[ltAt'_eq];refine wpS_bind (wpS_get ?_);show wpS _ _ _ _ (do let x <-elem' (arrOf st) i;let y <-elem' (arrOf st) j;lt' x y) R st
 rw[afi,afi,ea,eb];refine wpS_bind (wpS_pure (wpS_bind (wpS_pure ?_)));rw[lt'_eq];refine wpS_bind (wpS_get ?_);rw[q.kn];refine wpS_bind (wpS_lift (wpAny_attempt (ID ta tb sa sb ⟨rfl,?_⟩)));exact wpS_pure hR
theorem Ac{f:Addr->List Str}{Q:Value->Shared->Prop}(hk:∀v∈us,oO h f v)(aP:us.length<64)
  (q:∀(out:List Addr) (n:Nat) (h2:Heap),(out.map Value.ref).Perm us->out.Pairwise (λa b=>cR (f b) (f a)=false)->(∀b o,h.get? b=some o->h2.get? b=some o)->h2.get? h.objs.size=some {cls:=.type "list",data:=.seq (out.map Value.ref).toArray n}->Q (.ref h.objs.size) {s with heap:=h2,toks:=tk}) :
  wpAny (model prog w) A (call (.builtin "list.sort") [.ref h.objs.size]) (λ_ s'=>Q (.ref h.objs.size) s') E {s with heap:=h.push {cls:=.type "list",data:=.seq us.toArray},toks:=tk}:=by
 have my:(h.push {cls:=.type "list",data:=.seq us.toArray}).get? h.objs.size=some (seqObj "list" us.toArray 0):=Zw _ rfl;refine wpAny_call_entry acu ⟨_,my,rfl⟩ aci ?_ (args_list_sort _);refine vN (h:=h) (us:=us) rfl aP (tuples' true) (j8 f) (λt kp two R r=>?_) (λt kp=>EG λv hv=>(hk v hv).keep kp) λout n h2 pm aY kp g=>⟨_,rfl,?_⟩
 ·obtain⟨nR,T,ne⟩:=vS λv hv=>(hk v hv).keep kp;exact BZ T ne two r
 ·have ln:out.size=us.length:=by rw[pm.size_eq,abR]
  have pr:∀x∈out.toList,x.1=x.2/\x.2∈us:=λx hx=>by
   have m:x∈(pairsOf us).toList:=by
    have:x∈pairsOf us:=pm.mem_iff.mp (by simpa using hx)
    simpa using this
   have m':x∈us.zip us:=by simpa [pairsOf] using m
   obtain⟨a,b⟩:=x;refine⟨?_,(abH m').2⟩;obtain⟨i,hi,e⟩:=aak m';rw[List.getElem_zip] at e;cases e;rfl
  have ad:∃outs:List Addr,out.toList.map (·.2)=outs.map Value.ref:=by
   have:∀l:List Keyed,(∀x∈l,x.2∈us)->∃outs:List Addr,l.map (·.2)=outs.map Value.ref:=by
    intro l;induction l with
    |nil=>intro _;exact⟨[],rfl⟩
    |cons x l ih =>intro hx;obtain⟨outs,e⟩:=ih λy hy=>hx y (ZC _ hy);obtain⟨a,its,ea,_⟩:=hk _ (hx x Zy);exact⟨a::outs,by rw[ZI,ZI,e,ea]⟩
   exact this _ λx hx=>(pr x hx).2
  obtain⟨outs,eo⟩:=ad;have lo:outs.length=us.length:=by
   have:=congrArg List.length eo
   simp at this;omega
  have zu:(us.zip us).map (·.2)=us:=by
   have:∀l:List Value,(l.zip l).map (·.2)=l:=λl=>by induction l with|nil=>rfl|cons x l ih=>simp[ih]
   exact this us
  refine q outs n h2 ?_ ?_ kp ?_
  ·rw[<-eo];have p1:out.toList.Perm (pairsOf us).toList:=adg.mp pm;have p2:=p1.map (·.2);have e2:(pairsOf us).toList.map (·.2)=us:=by
    have:(pairsOf us).toList=us.zip us:=by simp[pairsOf]
    rw[this,zu]
   rw[e2] at p2;exact p2
  ·refine abe.mpr λi j hi hj ij=>?_;have s0:=aY i j (by omega) (by omega);have kk:∀{i:Nat} (hi:i<outs.length),KK (j8 f) out i=f outs[i]:=λ{i} hi=>by
    have hi':i<out.size:=by omega
    have e1:out[i]?=some out[i]:=ZF hi';have m:=pr out[i] (by simp);have e2:out[i].2=Value.ref outs[i]:=by
     have:=congrArg (λl=>l[i]?) eo
     simp[hi',hi] at this;exact this
    unfold KK;rw[e1];show((j8 f).keyOf out[i].1).getD _=_
    rw[m.1,e2];rfl
   rw[kk hi,kk hj] at s0;exact s0
  ·rw[g]
   have:(out.map (·.2))=(outs.map Value.ref).toArray:=by apply abX.mp;simp[eo]
   rw[this]
end
section
variable {X:Cx}
theorem qi(hc:X.calm=true)(hP:X.prog=P:=by rfl)(hw:X.w=w:=by rfl):cG X (.builtin "sorted") (λxs H Q=>∃(p:Addr) (ps:List (Addr×List Str)),xs=[.ref p]/\H p=some (sY P w p ps)/\fv H ps/\(∀x∈ps,x.2≠[])/\ps.length<64 /\
  ∀l (qs:List (Addr×List Str)),H l=none->qs.Perm ps->qs.Pairwise (λa b=>cR b.2 a.2=false)->Q (.ref l) (upd H l (.lst (qs.map λq=>V.ref q.1)))):=by
 subst hP hw;rintro pins s σ H xs us Q I r ⟨p,ps,rfl,hp,hold,ne,aP,q⟩;obtain⟨u,rfl,rx⟩:=vals1 r;cases rx;obtain⟨⟨o,es,ep,t,x⟩,_⟩:=I.aL _ _ hp;have sz:=x.size;refine aaX ac5 acT acU (args_sorted1 _) ?_;unfold Builtin.«sorted»;apply wpAny_bind (m:=checkCount "sorted" 1 1 _);apply wpAny_pure;apply wpAny_bind;refine xx (A:=X.A.in1) ⟨⟨o,x.ho,x.ex,x.hd⟩,x.tab.fits,x.led,λq=>.inl (x.pl (by omega))⟩ (by rw[sz];exact Zu (aag aP) (by decide)) (by exact I.ok.hd hc) λh1 tk dr acc keep pm=>?_;have pm':acc.Perm (ps.map λp=>Value.ref p.1):=pm.trans (by
  have:=x.pm.map (·.2)
  rw[aaC] at this;exact this)
 have la:acc.length=ps.length:=by rw[pm'.length_eq,Zj]
 have tf:∀v∈acc,oO h1 (gX ps) v:=λv hv=>by obtain⟨pp,Lf,rfl⟩:=ZD.mp (pm'.mem_iff.mp hv);obtain⟨its,rv,⟨ot,ho,r1⟩,_⟩:=I.tuple (aO.of (K:=X.K) (hold pp Lf));have e:=vR hold Lf;exact⟨pp.1,its,rfl,⟨ot,keep _ _ ho,r1⟩,by rw[e];exact iJ rv,by rw[e];exact ne pp Lf⟩
 apply wpAny_bind;refine wpAny_newList ?_ (by rw[la];exact Zu (aag aP) (by decide));apply wpAny_bind;apply wpAny_holding;refine wpAny_mono (Ac (prog:=X.prog) (w:=X.w) (s:={s with drawn:=dr}) (h:=h1) (tk:=tk) (Q:=EP X pins σ Q) tf (by rw[la];exact aP) λout n h2 o1 o2 o3 o4=>?_) (λ_ _ z=>wpAny_pure ⟨_,rfl,z⟩) λ_ _ z=>z;have no:s.heap.get? h1.objs.size=none:=by
  cases e:s.heap.get? h1.objs.size with
  |none=>rfl
  |some o=>exact absurd (Zx (keep _ _ e)) (ZX _)
 have mz:H h1.objs.size=none:=by
  cases e:H h1.objs.size with
  |none=>rfl
  |some o =>obtain⟨u,eu⟩:=(I.aL _ _ e).there;rw[no] at eu;cases eu
 have pa:out.Perm (ps.map (·.1)):=by
  have:=(o1.trans pm').map λv=>match v with|Value.ref a=>a|_=>0
  rw[aaC,aaC] at this;have e1:(out.map ((λv=>match v with|Value.ref a=>a|_=>0)∘Value.ref))=out:=by rw[show((λv=>match v with|Value.ref a=>a|_=>(0:Addr))∘Value.ref)=id from rfl];simp
  rw[e1] at this;exact this
 have qp:(out.map λa=>(a,gX ps a)).Perm ps:=by
  have:=pa.map λa=>(a,gX ps a)
  rw[aaC] at this;have e:ps.map ((λa=>(a,gX ps a))∘(·.1))=ps:=by
   have:∀l:List (Addr×List Str),(∀x∈l,x∈ps)->l.map ((λa=>(a,gX ps a))∘(·.1))=l:=by
    intro l;induction l with
    |nil=>intro _;rfl
    |cons y l ih=>
     intro hy;rw[ZI,ih λz hz=>hy z (ZC _ hz)];show(y.1,gX ps y.1)::l=y::l
     rw[vR hold (hy y Zy)]
   exact this ps λ_ h=>h
  rw[e] at this;exact this
 have qw:(out.map λa=>(a,gX ps a)).Pairwise (λa b=>cR b.2 a.2=false):=aa0.mpr o2;have em:(out.map λa=>(a,gX ps a)).map (λq=>V.ref q.1)=out.map V.ref:=by rw[aaC];rfl
 have fin:=q h1.objs.size _ mz qp qw;rw[em] at fin;refine⟨.ref h1.objs.size,_,(I.drawn (dr:=dr)).ui (t':=tk) (o:=.lst (out.map V.ref)) (λb o e=>o3 _ _ (keep _ _ e)) no mz ?_,rfl,fin⟩;refine⟨by rw[Zj];have:=qp.length_eq;rw[Zj] at this;rw[this];exact Zu (aag aP) (by decide),out.map Value.ref,n,?_,o4⟩
 have:∀l:List Addr,Vals (l.map V.ref) (l.map Value.ref):=λl=>by
  induction l with
  |nil=>exact .nil
  |cons x l ih=>exact .cons rfl ih
 exact this out
end
theorem fv.same(h:fv H ps)(s:av H H'):fv H' ps:=λp hp=>s _ _ (h p hp)
theorem IG{P:Program}{w:World}{K:PySem.W.Frag}{a:Addr}{xs:List V}{own:List Str}{fr:List Nat}{g:TG}{tt:TT}{te:TE}{σ:L2.St}{Q:VK}{H:Hp}(Pv:Nat->List (Addr×List Str)->Hp->Prop)(h0:Pv 0 [] H)
  (hh:∀i ps H,i<=xs.length->Pv i ps H->fv H ps) (hl:∀i ps H,i<=xs.length->Pv i ps H->aq K H a xs)
  (hs:∀i x ps H (R:List (Addr×List Str)->Hp->Prop),xs[i]?=some x->Pv i ps H->(∀ps' H',Pv (i+1) ps' H'->R ps' H')->g x (cI own fr σ) H λσ4 H4=>tt σ4 H4 λb H5=>if b=true then te σ4 H5 λy H6=>∃c zs,y=.ref c/\zs≠[]/\H6 c=some (.tup (zs.map V.str))/\fv H6 ps/\ps.length+1<=12/\R (dG ps (c,zs)) H6 else R ps H5)
  (hd:∀ps H,Pv xs.length ps H->∀D,H D=none->Q (.ref D) (upd H D (sY P w D ps))):vQ P w own fr g tt te σ Q (lF K a) H:=by
 refine⟨λi m ps H=>m=xs.length-i/\i<=xs.length/\Pv i ps H,⟨xs.length,rfl,ZE _,h0⟩,?_⟩;rintro i m ps H2 ⟨rfl,hi,p⟩;refine⟨hh i ps H2 hi p,?_⟩;have q:=hl i ps H2 hi p;by_cases h:i<xs.length
 ·refine .inr ⟨⟨xs,xs[i],q,by simp[h]⟩,λx H3 hy=>?_⟩;obtain⟨rfl,hy⟩:=hy;have z:=hs i x ps _ (λps' H'=>∃m',m'<xs.length-i/\(m'=xs.length-(i+1)/\i+1<=xs.length/\Pv (i+1) ps' H')) (hy xs q) p λps' H' q=>⟨xs.length-(i+1),by omega,rfl,h,q⟩
  exact z
 ·have e:i=xs.length:=by omega
  subst e;exact .inl ⟨⟨xs,q,Zn _⟩,hd ps H2 p⟩
theorem B8(ps:List (Addr×List Str))(p:Addr×List Str)(zs:List Str):zs∈(dG ps p).map (·.2) ↔ zs∈ps.map (·.2)\/zs=p.2:=by
 unfold dG;split
 ·rename_i h
  exact⟨.inl,λq=>q.elim id λe=>e▸h⟩
 ·rw[ZU,Zv];simp
theorem IH(h:(ps.map (·.2)).Nodup):((dG ps p).map (·.2)).Nodup:=by
 unfold dG;split
 ·exact h
 ·rename_i n
  rw[ZU];refine ZP.mpr ⟨h,by simp,λx hx y hy e=>?_⟩
  have:y=p.2:=by simpa using hy
  subst this;exact n (e▸hx)
theorem B9(h:fv H ps)(hp:H p.1=some (.tup (p.2.map V.str))):fv H (dG ps p):=by
 unfold dG;split
 ·exact h
 ·intro q hq;rcases Zv.mp hq with q1|q1
  ·exact h q q1
  ·rw[ZJ.mp q1];exact hp
theorem II(h:∀x∈ps,x.2≠[])(hp:p.2≠[]):∀x∈dG ps p,x.2≠[]:=by
 unfold dG;split
 ·exact h
 ·intro q hq;rcases Zv.mp hq with q1|q1
  ·exact h q q1
  ·rw[ZJ.mp q1];exact hp
theorem EH(ps:List (Addr×List Str))(p:Addr×List Str):(dG ps p).length<=ps.length+1:=by
 unfold dG;split
 ·omega
 ·simp
end L3
namespace cM
open PySem PySem.Spec PyProof.Rows L2 L3
abbrev vT:Stmt:=top 22 -- Lg
abbrev j9:Stmt:=top 23 -- pieces
abbrev mP:Stmt:=top 24 -- hangs
abbrev kc(K:PySem.W.Frag):List V->Hp->VK->Prop:=λxs H Q=>∃p ys,xs=[V.ref p]/\((aq K H p ys/\∀l,H l=none->Q (V.ref l) (upd H l (.tup ys)))\/(aO K H p ys/\Q (V.ref p) H))
def within(ns:List Str)(ps:List (Str×Str)):List (Str×Str):=ps.filter λp=>decide (p.1∈ns)&&decide (p.2∈ns)
def fo(es:List (Str×Str)):List (Str×Str):=es++turn es
noncomputable def comp(ns:List Str)(ps:List (Str×Str))(z:Str):List Str:=mJ ns (fo (within ns ps)) z
theorem B'(ns:List Str)(ps:List (Str×Str)):jc ns (within ns ps):=λp hp=>by
 have:=(aaI.mp hp).2
 simpa using this
theorem rg(h:jc ns es):jc ns (fo es):=λp hp=>(Zv.mp hp).elim (h p) (Iu h p)
theorem Ca(h:z∈ns):z∈comp ns ps z:=Ir.mpr ⟨h,df.here _⟩
structure Lh(ns:List Str)(ps:List (Str×Str))(qs:List (Addr×List Str)):Prop where
 mem:∀zs,zs∈qs.map (·.2) ↔ ∃z∈ns,zs=comp ns ps z
 nd:(qs.map (·.2)).Nodup
 up:qs.Pairwise (λa b=>cR b.2 a.2=false)
theorem lN:∀{a c:List α} {b d:List β},Paired F a b->Paired F c d->Paired F (a++c) (b++d)
 |_,_,_,_,.nil,q=>q
 |_,_,_,_,.cons r t,q=>.cons r (lN t q)
section
variable {P:Program}{w:World}{K:PySem.W.Frag}{mg:Str->Option Value}{base:Heap}
variable {C fP fS fL yk yl Cb Cc U1:Addr}{fdP dZ kg rh rm vU vV Sg:FuncData}
def Li(C:Addr):Sp:=λvs H Q _=>∃(x a:Addr) (ms ns:List Str) (ps:List (Str×Str)),vs=[.ref x,.ref a]/\bN C H x ms ps/\ps.length<=30/\H a=some (.lst (ns.map V.str))/\ns.Nodup/\ns.length<=12 /\
 ∀l qs H',H l=none->H' l=some (.lst (qs.map λq=>V.ref q.1))->fv H' qs->Lh ns ps qs->av H H'->Q (.ref l) H'
abbrev Lj:List Str:=["web","among","inner","steps"]
theorem EI:aQ Lj ["web","among"] (ar vT):=⟨rfl,rfl,rfl,by decide +kernel,rfl,by decide +kernel,by decide +kernel⟩
theorem Oh(F:bx K "pieces_among" "pieces_among" vT f fd)(M:Mt K mg C fP fS fdP dZ)(DL:Df K mg "leads" jh ["places","ties"] fL kg)(DS:Df K mg "spread" iK ["steps","start"] yk rh)(DT:Df K mg "turned_pairs" gU ["ties"] yl rm)(T:cm mg):aG P w K mg base aS 2 f fd ["web","among"] (Li C):=by
 have U2:aG P w K mg base aS 1 fS dZ ["self"] (zL C):=qS M.sF M.wc T;have GL:aG P w K mg base aS 1 fL kg ["places","ties"] yc:=Et DL.fn T;have GS:aG P w K mg base aS 1 yk rh ["steps","start"] vw:=BN DS.fn T;have GT:aG P w K mg base aS 1 yl rm ["ties"] vB:=BP DT.fn T;refine F.ok EI (λvs H Q E h=>?_) (λcdv A outer s H vs Q E hr h=>?_)
 ·obtain⟨x,a,ms,ns,ps,rfl,_⟩:=h;rfl
 ·obtain⟨x,a,ms,ns,ps,rfl,hW,lp,ha,nn,aP,k⟩:=h;have hu:=fh hr;refine⟨_,ao (gQ (i:=2) ["a","b"] [1] EI.nd rfl rfl rfl (bA (osc:=(ar vT).names) (N:=Lj) rfl rfl (by decide +kernel)) (gC (K:=K) (k:=2) (by decide) (by decide)) (bo (bZ (pv 0) M.wc.cl M.sM U2 hr M.sB .nil aK))
    (λ_ _ _=>cU rfl (aU (aE (i:=0) (show(["a","b","among"]:List Str).Nodup by decide +kernel) rfl (Or.inl rfl)) (aU (aE (i:=1) (show(["a","b","among"]:List Str).Nodup by decide +kernel) rfl (Or.inl rfl)) cv)))
    (λ_ _ _=>oG (PW.pt (AK (aZ (r:=A5 K false) jy (pv 0) (pv 2) rfl) (xF (aZ (r:=A5 K false) jy (pv 1) (pv 2) rfl)))))
    (λ_ _ _=>bE (aa (pv 0) (aa (pv 1) af))))
   (ao (aR (i:=3) EI.nd rfl (Or.inr rfl) (aJ GL hr rfl DL.bK DL.fn.kp DL.b .nil aK (aa (pv 1) (aa (bc pP (pv 2) (aJ GT hr rfl DT.bK DT.fn.kp DT.b .nil aK (aa (pv 2) af))) af))))
   (au (aT (aA (qi (P:=P) (w:=w) rfl) (by rfl) T.sorted abN (aa (Og (P:=P) (w:=w) ["place"] [3] hu rfl (bA (osc:=(ar vT).names) (N:=Lj) rfl rfl (by decide +kernel)) (bP (by decide)) (bo (pv 1))
    (λ_ _ _=>aE (i:=0) (show(["place","steps"]:List Str).Nodup by decide +kernel) rfl (Or.inl rfl)) (λ_ _ _=>bp)
    (λ_ _ _=>bR (r:=kc K) bY (by rfl) T.tuple aan (aa (aJ GS hr rfl DS.bK DS.fn.kp DS.b .nil aK (aa (pv 1) (aa (pv 0) af))) af))) af))))),?_⟩
  try rw[ck]
  obtain⟨d1,f1,q1,r1⟩:=hW.eV "ties";refine⟨_,rfl,x,d1,f1,rfl,q1,r1,x,ms,ps,rfl,hW,λlt tt PX Qc=>⟨lt,rfl,⟨_,aq.of ai⟩,?_⟩⟩;have s0:=aj (o:=.lst (tt.map V.ref)) PX;have hlt:=ai (H:=H) (a:=lt) (o:=.lst (tt.map V.ref));generalize upd H lt (.lst (tt.map V.ref))=H0 at s0 hlt⊢;have hT0:=Qc.same s0;have lz:(tt.map V.ref).length=ps.length:=by rw[Zj,Qc.len]
  refine cQ (K:=K) (xs:=tt.map V.ref) (λi ys H2=>av H0 H2/\∃us,ys=us.map V.ref/\ba H2 us (within ns (ps.take i))) ⟨av.refl _,[],rfl,.nil⟩ ?_ ?_ ?_ ?_
  ·rintro i ys H2 hi ⟨_,us,rfl,hU⟩;rw[Zj,hU.len];exact Zu (abb _ _) (Zu (by rw[ZK];exact acz _ _) (Zu lp (by decide)))
  ·rintro i ys H2 _ ⟨s2,_⟩;exact aq.of (s2 _ _ hlt)
  ·rintro i v ys H2 R hv ⟨s2,us,rfl,hU⟩ kR;rw[Zo] at hv;obtain⟨t,et,rfl⟩:=Zp.mp hv;obtain⟨p,ep,ht⟩:=(hT0.same s2).get et;have ym:=s2 _ _ (s0 _ _ ha);have fin:within ns (ps.take (i+1))=within ns (ps.take i)++(if (decide (p.1∈ns)&&decide (p.2∈ns))=true then [p] else []):=by unfold within;rw[ZO,ep,acb];congr 1;rw[Option.toList_some,afj];rfl
   refine⟨t,_,rfl,aO.of ht,rfl,_,_,rfl,_,_,rfl,rfl,?_⟩;refine⟨_,rfl,_,rfl,a,_,rfl,.inl (aq.of ym),rfl,ig ns,_,rfl,?_⟩;simp only[ZR,aam];rw[j5];by_cases h1:p.1∈ns
   ·rw[decide_eq_true h1];refine b6 ⟨_,rfl,_,rfl,a,_,rfl,.inl (aq.of ym),rfl,ig ns,_,rfl,?_⟩;simp only[ZR,aam];rw[j5];by_cases h2:p.2∈ns
    ·rw[decide_eq_true h2];refine b6 ⟨_,rfl,_,rfl,(show 2<=sizeLine by decide),λu hu=>kR _ _ ⟨s2.trans (aj hu),us++[u],by simp,?_⟩⟩;rw[fin,if_pos (by simp[h1,h2])];exact ba.snoc (hU.same (aj hu)) ai
    ·rw[decide_eq_false h2];exact br (kR _ _ ⟨s2,us,rfl,by rw[fin,if_neg (by simp[h2]),aaK];exact hU⟩)
   ·rw[decide_eq_false h1];exact br (kR _ _ ⟨s2,us,rfl,by rw[fin,if_neg (by simp[h1]),aaK];exact hU⟩)
  rintro ys H2 ⟨s2,us,rfl,hU⟩ q2 sZ;rw[lz,aab (Zn _)] at hU;have s3:=s2.trans (aj (o:=.lst (us.map V.ref)) sZ);have Lk:=ai (H:=H2) (a:=q2) (o:=.lst (us.map V.ref));have hU3:=hU.same (aj (o:=.lst (us.map V.ref)) sZ);change JL _ _ _ _ (upd H2 q2 (.lst (us.map V.ref)));generalize upd H2 q2 (.lst (us.map V.ref))=H3 at s3 Lk hU3⊢;have s03:=s0.trans s3;have lw:(within ns ps).length<=30:=Zu (abb _ _) lp;have hI:=rg (B' ns ps);have lb:(fo (within ns ps)).length<=60:=by unfold fo;rw[ZA,vA];omega
  refine⟨_,rfl,_,rfl,_,rfl,q2,us,_,rfl,Lk,hU3,by omega,λl4 u4 H4 n4 h4 hT4 s4=>?_⟩;refine⟨q2,l4,_,_,rfl,rfl,s4 _ _ Lk,h4,?_,λl5 n5=>?_⟩
  ·rw[Zj,Zj,hU3.len,hT4.len,vA];exact Zu (by omega:_<=60) (by decide)
  have s5:=aj (o:=.lst (us.map V.ref++u4.map V.ref)) n5;have h5:=ai (H:=H4) (a:=l5) (o:=.lst (us.map V.ref++u4.map V.ref));generalize upd H4 l5 (.lst (us.map V.ref++u4.map V.ref))=H5 at s5 h5⊢;have s05:=s03.trans (s4.trans s5);have U3:ba H5 (us++u4) (fo (within ns ps)):=lN ((hU3.same s4).same s5) (hT4.same s5);rw[<-ZU] at h5;refine⟨a,l5,ns,us++u4,_,rfl,s05 _ _ ha,h5,U3,nn,aP,hI,by omega,λd ls H6 hS s6=>?_⟩;have s06:=s05.trans s6;refine⟨_,rfl,a,rfl,⟨_,aq.of (s06 _ _ ha)⟩,?_⟩;refine IG (K:=K) (xs:=ns.map V.str) (λi ps' H7=>av H6 H7/\fv H7 ps'/\(∀zs,zs∈ps'.map (·.2) ↔ ∃z∈ns.take i,zs=comp ns ps z)/\(ps'.map (·.2)).Nodup/\(∀x∈ps',x.2≠[])/\ps'.length<=i) ⟨av.refl _,(λ_ z=>nomatch z),(λzs=>by simp),abz,(λ_ z=>nomatch z),Zn _⟩ ?_ ?_ ?_ ?_
  ·rintro i ps' H7 _ ⟨_,h,_⟩;exact h
  ·rintro i ps' H7 _ ⟨s7,_⟩;exact aq.of (s7 _ _ (s06 _ _ ha))
  ·rintro i v ps' H7 R hv ⟨s7,ho,me,nd,nz,le⟩ kR;rw[Zo] at hv;obtain⟨z,ez,rfl⟩:=Zp.mp hv;have hz:z∈ns:=Zr ez;have hi:i<ns.length:=(Zq.mp ez).1;simp only[cD,bj,Z7];refine⟨_,rfl,_,rfl,d,z,ns,_,ls,rfl,hS.same s7,nn,aP,hI,by omega,hz,λl8 H8 n8 h8 s8=>⟨l8,_,rfl,.inl ⟨aq.of h8,λc nc=>?_⟩⟩⟩;have s9:=s8.trans (aj (o:=.tup ((comp ns ps z).map V.str)) nc);have cz:comp ns ps z≠[]:=λe=>by have:=Ca (ps:=ps) hz;rw[e] at this;exact nomatch this
   refine⟨c,comp ns ps z,rfl,cz,ai,ho.same s9,by omega,kR _ _ ⟨s7.trans s9,B9 (ho.same s9) ai,λzs=>?_,IH nd,II nz cz,Zu (EH _ _) (by omega)⟩⟩;rw[B8,me,ZO,ez];constructor
   ·rintro(⟨y,hy,e⟩|e)
    ·exact⟨y,ZN _ hy,e⟩
    ·exact⟨z,Zm _ (by simp),e⟩
   ·rintro⟨y,hy,e⟩;rcases Zv.mp hy with h|h
    ·exact .inl ⟨y,h,e⟩
    ·have:y=z:=by simpa using h
     subst this;exact .inr e
  ·rintro ps' H7 ⟨s7,ho,me,nd,nz,le⟩ D nD;rw[Zj] at le me;have s8:=aj (o:=sY P w D ps') nD;refine⟨D,ps',rfl,ai,ho.same s8,nz,by omega,λl qs nl pm up=>?_⟩;have s9:=s8.trans (aj (o:=.lst (qs.map λq=>V.ref q.1)) nl);have U4:=s06.trans (s7.trans s9);refine k l qs _ ((s06.trans (s7.trans s8)).free nl) ai (λq hq=>(ho.same s9) q (pm.mem_iff.mp hq)) ⟨λzs=>?_,(pm.map (·.2)).nodup_iff.mpr nd,up⟩ U4;rw[(pm.map (·.2)).mem_iff,me,aab (Zn _)]
end
def qj(ns:List Str)(ps:List (Str×Str)):Prop:=∀a∈ns,∀b∈ns,df (fo ps) a b
theorem Ad(h:jc ms ps):within ms ps=ps:=by unfold within;rw[List.filter_eq_self];intro p hp;simp[h p hp]
theorem GoodW.Ll(g:GoodW ns ps):jc (aY ns) ps:=λp hp=>⟨j7.mpr (g.ins p hp).1,j7.mpr (g.ins p hp).2⟩
theorem Cd(g:GoodW ns ps)(h:qj ns ps)(p:Lh (aY ns) ps qs):qs.length=1:=by
 have nS:=BJ g.good.nd;have all:∀z∈aY ns,comp (aY ns) ps z=aY (aY ns):=λz hz=>by
  unfold comp;rw[Ad g.Ll];refine(BK nS nS (rg g.Ll) hz λy=>?_).symm;constructor
  ·intro hy;exact h z (j7.mp hz) y (j7.mp hy)
  ·intro r;exact r.stays (S:=(·∈aY ns)) hz λq hq _=>(rg g.Ll q hq).2
 have one:∀zs∈qs.map (·.2),zs=aY (aY ns):=λzs hz=>by obtain⟨z,h1,e⟩:=(p.mem zs).mp hz;rw[e,all z h1]
 obtain⟨z0,h0⟩:∃z,z∈aY ns:=by
  have h1:=g.good.one;cases e:aY ns with
  |nil=>exact absurd (show ns.length=0 from by have:=congrArg List.length e;rw[gg] at this;exact this) (by omega)
  |cons z r=>exact⟨z,Zy⟩
 have ex:=(p.mem (comp (aY ns) ps z0)).mpr ⟨z0,h0,rfl⟩;have nd:=p.nd;cases e:qs with
 |nil=>rw[e] at ex;exact nomatch ex
 |cons a r=>
  cases r with
  |nil=>rfl
  |cons b r =>exfalso;rw[e] at one nd;simp only[ZI,ZT,Zs,not_or] at nd;exact nd.1.1 ((one a.2 (by simp)).trans (one b.2 (by simp)).symm)
section
variable {P:Program}{w:World}{K:PySem.W.Frag}{mg:Str->Option Value}{base:Heap}
variable {C fP fS fL yk yl Cb Cc U1:Addr}{fdP dZ kg rh rm vU vV Sg:FuncData}
def Lm(C:Addr):Sp:=λvs H Q _=>∃(x:Addr) (ns:List Str) (ps:List (Str×Str)),vs=[.ref x]/\bN C H x ns ps/\GoodW ns ps /\
 ∀l qs H',H l=none->H' l=some (.lst (qs.map λq=>V.ref q.1))->fv H' qs->Lh (aY ns) ps qs->av H H'->Q (.ref l) H'
theorem Sh:aQ ["web"] ["web"] (ar j9):=⟨rfl,rfl,rfl,by decide +kernel,rfl,by decide +kernel,by decide +kernel⟩
theorem Ce(F:bx K "pieces" "pieces" j9 f fd)(yn:Df K mg "pieces_among" vT ["web","among"] Cb vU)(M:Mt K mg C fP fS fdP dZ)(DL:Df K mg "leads" jh ["places","ties"] fL kg)(DS:Df K mg "spread" iK ["steps","start"] yk rh)(DT:Df K mg "turned_pairs" gU ["ties"] yl rm)(T:cm mg):aG P w K mg base aS 3 f fd ["web"] (Lm C):=by
 have GP:aG P w K mg base aS 1 fP fdP ["self"] (u7 C):=jC M.pF M.wc T;have GA:aG P w K mg base aS 2 Cb vU ["web","among"] (Li C):=Oh yn.fn M DL DS DT T;refine F.ok Sh (λvs H Q E h=>?_) (λcdv A outer s H vs Q E hr h=>?_)
 ·obtain⟨x,ns,ps,rfl,_⟩:=h;rfl
 ·obtain⟨x,ns,ps,rfl,hW,g,k⟩:=h;have h1:=hr.mono (j:=1) (by decide);refine⟨_,au (aT (aJ GA hr rfl yn.bK yn.fn.kp yn.b .nil aK (aa (pv 0) (aa (bZ (pv 0) M.wc.cl M.pM GP h1 M.pB .nil aK) af)))),?_⟩;try rw[ck]
  obtain⟨d1,f1,q1,r1⟩:=hW.eV "places";refine⟨_,rfl,_,rfl,x,d1,f1,rfl,q1,r1,x,ns,ps,rfl,hW,λl1 hl1=>?_⟩;have sl1:=aj (o:=.lst ((aY ns).map V.str)) hl1;exact⟨x,l1,ns,aY ns,ps,rfl,hW.same sl1,g.aP,ai,BJ g.good.nd,by rw[gg];exact g.good.aP,λl qs H' nl hl ho pc s'=>k l qs H' (sl1.free nl) hl ho pc (sl1.trans s')⟩
def Ln(C:Addr):Sp:=λvs H Q _=>∃(x:Addr) (ns:List Str) (ps:List (Str×Str)),vs=[.ref x]/\bN C H x ns ps/\GoodW ns ps/\qj ns ps/\∀H',av H H'->Q (.bl true) H'
theorem Si:aQ ["web"] ["web"] (ar mP):=⟨rfl,rfl,rfl,by decide +kernel,rfl,by decide +kernel,by decide +kernel⟩
theorem EJ(F:bx K "hangs" "hangs" mP f fd)(yo:Df K mg "pieces" j9 ["web"] Cc vV)(G:aG P w K mg base aS 3 Cc vV ["web"] (Lm C))(T:cm mg):aG P w K mg base aS 4 f fd ["web"] (Ln C):=by
 refine F.ok Si (λvs H Q E h=>?_) (λcdv A outer s H vs Q E hr h=>?_)
 ·obtain⟨x,ns,ps,rfl,_⟩:=h;rfl
 ·obtain⟨x,ns,ps,rfl,hW,g,hh,k⟩:=h;refine⟨_,au (aT (jS ua (aA aN (by rfl) T.len ZW (aa (aJ G hr rfl yo.bK yo.fn.kp yo.b .nil aK (aa (pv 0) af)) af)) aD (bz _))),?_⟩;try rw[ck]
  refine⟨_,rfl,x,ns,ps,rfl,hW,g,λl qs H' nl hl ho pc s'=>⟨l,_,rfl,.inl (aq.of hl),rfl,?_⟩⟩;rw[Zj,Cd g hh pc,decide_eq_true (show V.int ((1:Nat):Int)=V.int 1 from rfl)];exact k H' s'
end
open PySem PySem.Spec PyProof.Rows L2
section
variable {P:Program}{w:World}{K:PySem.W.Frag}{mg:Str->Option Value}{base:Heap}
def yq:Sp:=λvs H Q _=>∃(p:Addr) (m:Int),vs=[.ref p,.int m]/\1<=m/\m<=12/\Row H p/\∀(q:Addr) (ns:List Str) (H':Hp),pZ ns->(ns.length:Int)=m->H q=none->H' q=some (.lst (ns.map V.str))->Row H' p->cC p H H'->Q (.ref q) H'
abbrev Lo:List Str:=["_law_pot_here","_law_many","_law_letters","_law_found","_law_k","_law_long","_law_name"]
theorem oP:aQ Lo ["_law_pot_here","_law_many"] (ar jd):=⟨rfl,rfl,rfl,by decide +kernel,rfl,by decide +kernel,by decide +kernel⟩
theorem EK(F:bx K "_law_names" "_law_names" jd f fd)(D:Df K mg "_law_take" iG ["_law_pot_here","_law_many"] fD tj)(T:cm mg):aG P w K mg base aS 2 f fd ["_law_pot_here","_law_many"] yq:=by
 have G:aG P w K mg base aS 1 fD tj ["_law_pot_here","_law_many"] j0:=j6 D.fn T;refine F.ok oP (λvs H Q E h=>?_) (λcdv A outer s H vs Q E hr h=>?_)
 ·obtain⟨p,m,rfl,_⟩:=h;rfl
 ·obtain⟨p,m,rfl,m1,Lp,hp,k⟩:=h;refine⟨_,ao (aR (i:=2) oP.nd rfl (Or.inr rfl) pA)
   (ao (aR (i:=3) oP.nd rfl (Or.inr rfl) (bV af))
   (ao (cH aaa rfl (fX rfl T.range (aa (pv 1) af)) (aE (i:=4) oP.nd rfl (Or.inl rfl))
    (ao (aR (i:=5) oP.nd rfl (Or.inl rfl) (bc c6 aD (aJ G hr rfl D.bK D.fn.kp D.b .nil aK (aa (pv 0) (aa
     (bX cJ (bV (aa aD (aa aD (aa aD af)))) (aJ G hr rfl D.bK D.fn.kp D.b .nil aK (aa (pv 0) (aa aD af))) (λ_ _=>rfl)) af)))))
    (ao (aR (i:=6) oP.nd rfl (Or.inl rfl) (cP PySem.F.plainAttrs_str PySem.F.slot_str_join PySem.F.type_str_join HY pA (aa
     (dw ["_law_j"] [2,0] rfl (bA (osc:=(ar jd).names) (N:=Lo) rfl rfl (by decide +kernel)) (bP (by decide))
      (fX rfl T.range (aa (pv 5) af))
      (λ_ _ _=>aE (i:=0) (show(["_law_j","_law_letters","_law_pot_here"]:List Str).Nodup by decide +kernel) rfl (Or.inl rfl)) (λ_ _ _=>bp)
      (λ_ _ _=>bX Kg (pv 1) (aJ G hr rfl D.bK D.fn.kp D.b .nil aK (aa (pv 2) (aa aD af))) (λ_ _=>rfl))) af)))
    (ao (bQ (aZ jy (pv 6) (pv 3) rfl) (au (aR (i:=6) oP.nd rfl (Or.inl rfl) (bX cJ
     (dw ["_law_letter"] [3] rfl (bA (osc:=(ar jd).names) (N:=Lo) rfl rfl (by decide +kernel)) (bP (by decide)) (Bi (pv 2))
      (λ_ _ _=>aE (i:=0) (show(["_law_letter","_law_found"]:List Str).Nodup by decide +kernel) rfl (Or.inl rfl)) (λ_ _ _=>oG (aZ (r:=A5 K true) uK (pv 0) (pv 1) rfl))
      (λ_ _ _=>pv 0)) aD (λ_ _=>rfl)))) bu)
    (au (bw (cP ZS aah aai cA (pv 3) (aa (pv 6) af))))))))
   (au (aT (pv 3))))),?_⟩
  try rw[ck]
  refine⟨(by decide),λq hq=>?_⟩;have Lq:p≠q:=aw hp.lst.choose_spec hq;obtain⟨n,rfl⟩:∃n:Nat,m=(n:Int):=⟨m.toNat,by omega⟩
  refine⟨_,rfl,_,rfl,by omega,by omega,?_⟩;refine jx (λi σ H2=>∃(v4 v5 v6:Option V) (ns:List Str),σ=[some (V.ref p),some (V.int n),some (V.str gh),some (V.ref q),v4,v5,v6]/\Row H2 p/\cC p H H2/\H2 q=some (.lst (ns.map V.str))/\ns.length=i/\(∀z∈ns,nm z=true)/\ns.Nodup)
   ⟨_,_,_,[],rfl,hp.ak Lq,(λc o e _=>by rw[L2.ak (aw e hq)];exact e),ai,rfl,(λ_ z=>nomatch z),abz⟩ ?_ ?_
  ·rintro i σ H2 Sj ⟨v4,v5,v6,ns,rfl,hp2,b2,Lr,hl,hn,nd⟩;refine⟨_,rfl,(by show 3<=sizeLine;decide),λl0 yd=>?_⟩;have GG:p≠l0:=aw hp2.lst.choose_spec yd;have s0:=aj (o:=.lst [.int 1,.int 3,.int 8]) yd;refine⟨_,rfl,p,3,rfl,hp2.ak GG,by decide,by decide,λd0 H0 Yj Yk Ls b0=>?_⟩;have U5:cC p H2 H0:=λc o e n=>b0 c o (s0 c o e) n;have hl':=b0 _ _ ai (Z0 GG);obtain⟨m,em,m0,m8⟩:∃m:Int,iV [V.int 1,V.int 3,V.int 8] d0=some (.int m)/\0<m/\m<=8:=by
    have:d0=0\/d0=1\/d0=2:=by omega
    rcases this with rfl|rfl|rfl
    ·exact⟨1,rfl,by decide,by decide⟩
    ·exact⟨3,rfl,by decide,by decide⟩
    ·exact⟨8,rfl,by decide,by decide⟩
   refine⟨l0,_,_,_,rfl,rfl,aq.of hl',em,p,m,rfl,Ls,m0,by omega,λd1 H1 GJ GQ hp1 b1=>?_⟩;have U6:=U5.trans b1;refine⟨_,_,rfl,rfl,rfl,_,rfl,_,rfl,by omega,by omega,uU (λi ys H3=>Row H3 p/\cC p H2 H3/\∃cs:List Nat,ys=(cs.map one).map V.str/\cs.length=i/\∀c∈cs,(lo c&&hi c)=true) ⟨hp1,U6,[],rfl,rfl,λ_ h=>nomatch h⟩ ?_ ?_ ?_⟩
   ·rintro i ys H3 hi ⟨_,_,cs,rfl,hl,_⟩;rw[Zj,Zj,hl];exact Zu hi (Zu (show(1+d1).toNat<=8 by omega) (by decide))
   ·rintro i ys H3 R hi ⟨qk,b3,cs,rfl,hl,h1⟩ kR;simp only[cD,bj,Z7];refine⟨_,rfl,_,rfl,p,26,rfl,qk,by decide,by decide,λd2 H4 yr GR lO b4=>?_⟩;obtain⟨c,hc⟩:=Ky (z:=gh) yr (by rw[Bp];exact GR);refine⟨_,_,c,rfl,rfl,by decide +kernel,hc,kR _ _ ⟨lO,b3.trans b4,cs++[c],by simp,by simp[hl],λy hy=>?_⟩⟩;rcases Zv.mp hy with q|q
    ·exact h1 y q
    ·rw[ZJ.mp q];exact Bu c (Ik hc)
   rintro ys H3 ⟨qk,b3,cs,rfl,Lu,h1⟩ D0 mv;obtain⟨b4,lO⟩:=b3.laid (o:=.lst ((cs.map one).map V.str)) mv qk;have l1:1<=cs.length:=by rw[Lu];omega
   have l8:cs.length<=8:=by rw[Lu];omega
   have Lv:((cs.map one).map (·.length)).sum+(cs.map one).length*("" : Str).length<=8:=by
    have e1:((cs.map one).map (·.length)).sum=cs.length:=by
     have:∀cs:List Nat,((cs.map one).map (·.length)).sum=cs.length:=λcs=>by
      rw[aaC];induction cs with
      |nil=>rfl
      |cons c r ih=>rw[ZI,acy,ih];show 1+_=_;simp;omega
     exact this cs
    have:("" : Str).length=0:=by decide +kernel
    rw[e1,this];omega
   have hz:nm (Txt.join "" (cs.map one))=true:=Oc (join_ones (by intro e;rw[e] at l1;simp at l1)) l1 l8 h1;refine⟨"",D0,cs.map one,rfl,rfl,aq.of ai,Zu Lv (by decide),?_⟩;generalize Txt.join "" (cs.map one)=z0 at hz⊢;generalize upd H3 D0 (HO.lst ((cs.map one).map V.str))=H4 at b4 lO⊢;have yt:=b4 _ _ Lr (Z0 Lq);have Qd:=b2.trans b4;clear b3 qk h1 Lu l1 l8 Lv;have fin:∀(z:Str) (H5:Hp),nm z=true->z∉ns->Row H5 p->cC p H H5->H5 q=some (.lst (ns.map V.str))->Row (upd H5 q (.lst (ns.map V.str++[V.str z]))) p/\cC p H (upd H5 q (.lst (ns.map V.str++[V.str z])))/\upd H5 q (.lst (ns.map V.str++[V.str z])) q=some (.lst ((ns++[z]).map V.str))/\(ns++[z]).length=i+1/\(∀y∈ns++[z],nm y=true)/\(ns++[z]).Nodup:=λz H5 nz U7 hp5 b5 Cf=>by
    refine⟨hp5.ak Lq,b5.bS hq,by rw[ai];simp,by simp[hl],λy hy=>?_,jY nd U7⟩;rcases Zv.mp hy with h|h
    ·exact hn y h
    ·rw[ZJ.mp h];exact nz
   have Qe:ns.length<sizeLine:=hZ (by rw[hl];have:=Sj;omega);refine⟨_,rfl,_,rfl,q,_,rfl,.inl (aq.of yt),rfl,ig ns,_,rfl,?_⟩;simp only[ZR,aam];rw[j5];refine iA (λhin=>?_) (λhin=>?_)
   ·refine⟨_,rfl,gh,rfl,KI (λi ys H5=>H5=H4/\ys=(((gh.cps.toList.take i).filter λc=>decide (one c∉ns)).map one).map V.str) ⟨rfl,rfl⟩ ?_ ?_ ?_⟩
    ·rintro i ys H5 hi ⟨_,rfl⟩;rw[Zj,Zj];refine Zu (abb _ _) ?_;rw[ZK,Z9,u9];exact Zu (acz _ _) (by decide)
    ·rintro i c ys H5 R hc ⟨rfl,rfl⟩ kR;simp only[bj];refine⟨_,rfl,_,rfl,q,_,rfl,.inl (aq.of yt),rfl,ig ns,_,rfl,?_⟩;simp only[Z7];rw[j5];have et:gh.cps.toList.take (i+1)=gh.cps.toList.take i++[c]:=by rw[ZO,show gh.cps.toList[i]?=some c by simpa using hc];rfl
     have ef:((gh.cps.toList.take (i+1)).filter λc=>decide (one c∉ns))=((gh.cps.toList.take i).filter λc=>decide (one c∉ns))++(if one c∈ns then [] else [c]):=by rw[et,acb];by_cases h:one c∈ns<;>simp[h]
     by_cases h:one c∈ns
     ·rw[decide_eq_true h];refine br (kR _ _ ⟨rfl,?_⟩);rw[ef,if_pos h,aaK]
     ·rw[decide_eq_false h];refine b6 ⟨_,rfl,kR _ _ ⟨rfl,?_⟩⟩;rw[ef,if_neg h];simp
    ·rintro ys H5 ⟨rfl,rfl⟩ D1 lI;have all:gh.cps.toList.take gh.cps.size=gh.cps.toList:=aab (by simp);rw[all];obtain⟨b5,hp5⟩:=Qd.laid (o:=.lst (((gh.cps.toList.filter λc=>decide (one c∉ns)).map one).map V.str)) lI lO;have Qf:=ai (H:=H5) (a:=D1) (o:=.lst (((gh.cps.toList.filter λc=>decide (one c∉ns)).map one).map V.str));have Cf:=(aj (o:=.lst (((gh.cps.toList.filter λc=>decide (one c∉ns)).map one).map V.str)) lI) _ _ yt;cases ef:gh.cps.toList.filter λc=>decide (one c∉ns) with
     |nil=>
      exfalso;have h:=Bt _ ns KJ λx hx=>by
       obtain⟨c,hc,rfl⟩:=ZD.mp hx
       have:=ad8.mp ef c hc
       simpa using this
      rw[Zj,Z9,u9] at h;omega
     |cons c r=>
      rw[ef] at b5 hp5 Qf Cf;have hc:c∈gh.cps.toList.filter λc=>decide (one c∉ns):=by rw[ef];exact Zy
      obtain⟨m1,m2⟩:=aaI.mp hc;refine⟨D1,_,_,_,rfl,rfl,aq.of Qf,cw (j:=0) rfl,?_⟩;refine⟨_,rfl,.inl ⟨rfl,_,aq.of Cf⟩,_,rfl,q,_,_,rfl,rfl,Cf,(by rw[Zj];exact Qe),?_⟩;exact⟨_,_,_,ns++[one c],rfl,fin (one c) _ (KL (Bu c m1)) (by simpa using m2) hp5 b5 Cf⟩
   ·refine⟨_,rfl,.inl ⟨rfl,_,aq.of yt⟩,_,rfl,q,_,_,rfl,rfl,yt,(by rw[Zj];exact Qe),?_⟩;exact⟨_,_,_,ns++[z0],rfl,fin z0 _ hz (by simpa using hin) lO Qd yt⟩
  ·rintro σ H2 ⟨v4,v5,v6,ns,rfl,hp2,b2,Lr,hl,hn,nd⟩;have el:ns.length=n:=by rw[hl];simp
   exact⟨_,rfl,k q ns H2 ⟨by omega,by omega,hn,nd⟩ (by omega) hq Lr hp2 b2⟩
end
end cM
namespace cM
def bh(r:List α)(u v:α):Prop:=∃i:Nat,r[i]?=some u/\(r[i+1]?=some v\/(i+1=r.length/\r[0]?=some v))
theorem bh.eE(h:bh r u v):u∈r:=let ⟨_,h,_⟩:=h;Zr h
theorem bh.jM(h:bh r u v):v∈r:=by obtain⟨i,_,h|⟨_,h⟩⟩:=h<;>exact Zr h
theorem bh.ex(h:u∈r):∃v,bh r u v:=by
 obtain⟨i,hi,rfl⟩:=acW.mp h;by_cases c:i+1<r.length
 ·exact⟨r[i+1],i,Zk hi,.inl (Zk c)⟩
 ·exact⟨r[0]'(by omega),i,Zk hi,.inr ⟨by omega,Zk (by omega)⟩⟩
theorem gY{r:List α}(nd:r.Nodup){i j:Nat}{x:α}(hi:r[i]?=some x)(hj:r[j]?=some x):i=j:=by
 obtain⟨a,ea⟩:=Zq.mp hi;obtain⟨b,eb⟩:=Zq.mp hj;have p:=abe.mp nd;rcases abv i j with h|h|h
 ·exact absurd (ea.trans eb.symm) (p i j a b h)
 ·exact h
 ·exact absurd (eb.trans ea.symm) (p j i b a h)
theorem bh.fn{r:List α}(nd:r.Nodup){u v w:α}(h:bh r u v)(k:bh r u w):v=w:=by
 obtain⟨i,hi,h⟩:=h;obtain⟨j,hj,k⟩:=k;obtain rfl:=gY nd hi hj;rcases h with h|⟨l,h⟩<;>rcases k with k|⟨l',k⟩
 ·exact ZH (h.symm.trans k)
 ·have:=(Zq.mp h).1;omega
 ·have:=(Zq.mp k).1;omega
 ·exact ZH (h.symm.trans k)
theorem gj:bh r u v ↔ (∃A B,r=A++u::v::B)\/∃A,r=A++[u]/\(A++[u]).head?=some v:=by
 constructor
 ·rintro⟨i,hi,h|⟨l,h⟩⟩
  ·obtain⟨a,rfl⟩:=Zq.mp hi;obtain⟨b,rfl⟩:=Zq.mp h;refine .inl ⟨r.take i,r.drop (i+2),?_⟩;rw[aaD b,aaD a,aap]
  ·obtain⟨a,rfl⟩:=Zq.mp hi;have e:r=r.take i++[r[i]]:=by
    have:=(aap i r).symm
    rw[<-aaD a,show r.drop (i+1)=[] from List.drop_eq_nil_of_le (by omega)] at this;exact this
   refine .inr ⟨r.take i,e,?_⟩;rw[<-e,aa4];exact h
 ·rintro(⟨A,B,rfl⟩|⟨A,rfl,h⟩)
  ·exact⟨A.length,by simp,.inl (by simp)⟩
  ·exact⟨A.length,by simp,.inr ⟨by simp,by rw[<-aa4];exact h⟩⟩
theorem dH:bh (A++u::v::B) u v:=gj.mpr (.inl ⟨A,B,rfl⟩)
theorem iL(h:(A++[u]).head?=some v):bh (A++[u]) u v:=gj.mpr (.inr ⟨A,rfl,h⟩)
theorem EL(h:bh (a::r) u v):bh (r++[a]) u v:=by
 rcases gj.mp h with⟨A,B,e⟩|⟨A,e,h1⟩
 ·cases A with
  |nil =>simp only[adW,aaY] at e;obtain⟨rfl,rfl⟩:=e;exact iL (A:=v::B) rfl
  |cons x A =>simp only[acB,aaY] at e;obtain⟨rfl,rfl⟩:=e;rw[ZV];exact dH (B:=B++[a])
 ·cases A with
  |nil =>simp only[adW,aaY] at e;obtain⟨rfl,rfl⟩:=e;exact iL h1
  |cons x A =>simp only[acB,aaY] at e;obtain⟨rfl,rfl⟩:=e;obtain rfl:a=v:=ZH h1;rw[ZV];exact dH (B:=[])
theorem iM:∀{A B:List α} {u v:α},bh (A++B) u v->bh (B++A) u v
 |[],B,u,v,h=>by rw[aaK];exact h
 |a::A,B,u,v,h=>by
  have:=EL (a:=a) (r:=A++B) h
  rw[ZV] at this
  have:=iM (A:=A) (B:=B++[a]) this
  rw[ZV] at this;exact this
theorem dS{P Q:List α}{z e u v:α}(nd:(P++z::Q).Nodup)(ne:e∉P++z::Q):bh (P++z::e::Q) u v ↔ (bh (P++z::Q) u v/\u≠z)\/(u=z/\v=e)\/(u=e/\bh (P++z::Q) z v):=by
 have r1:∀{L M:List α} {u v:α},bh (L++M) u v ↔ bh (M++L) u v:=⟨iM,iM⟩
 have a1:∀u v,bh (P++z::Q) u v ↔ bh ((Q++P)++[z]) u v:=λu v=>by rw[show P++z::Q=(P++[z])++Q by simp,r1,<-ZV]
 have a2:∀u v,bh (P++z::e::Q) u v ↔ bh ((Q++P)++[z,e]) u v:=λu v=>by rw[show P++z::e::Q=(P++[z,e])++Q by simp,r1,<-ZV]
 have nd':((Q++P)++[z]).Nodup:=by
  have:(P++z::Q).Perm ((Q++P)++[z]):=by rw[show P++z::Q=(P++[z])++Q by simp,ZV Q P];exact abd
  exact this.nodup_iff.mp nd
 have ne':e∉(Q++P)++[z]:=λh=>ne (by simp at h⊢;rcases h with h|h|h<;>simp[h]);rw[a2,a1 u v,a1 z v];generalize Q++P=M at nd' ne'⊢;have hd:∀c,((M++[z,e]).head?=some c ↔ (M++[z]).head?=some c):=λc=>by cases M<;>simp
 have nz:z∉M:=λh=>by rw[ZP] at nd';exact nd'.2.2 z h z (by simp) rfl
 constructor
 ·intro h;rcases gj.mp h with⟨A,B,h⟩|⟨A,h,hh⟩
  ·-- within
   rcases adt.mp h with⟨C,rfl,h2⟩|⟨C,rfl,h2⟩
   ·rcases C with _|⟨c,_|⟨d,C⟩⟩
    ·simp at h2;exact .inr (.inl ⟨h2.1.symm,h2.2.1.symm⟩)
    ·simp at h2
    ·simp at h2
   ·rcases C with _|⟨c,_|⟨d,C⟩⟩
    ·simp at h2;exact .inr (.inl ⟨h2.1,h2.2.1⟩)
    ·simp at h2;obtain⟨rfl,rfl,_⟩:=h2;refine .inl ⟨?_,λz'=>nz (by simp[z'])⟩;rw[ZV];exact dH (B:=[])
    ·simp at h2;obtain⟨rfl,rfl,_⟩:=h2;refine .inl ⟨?_,λz'=>nz (by simp[z'])⟩;rw[show(A++u::v::C)++[z]=A++u::v::(C++[z]) by simp];exact dH
  ·-- Kq end
   rw[show M++[z,e]=(M++[z])++[e] by simp] at h;obtain⟨hA,h2⟩:=acD h rfl;subst hA;obtain rfl:e=u:=by simpa using h2
   refine .inr (.inr ⟨rfl,iL ?_⟩);rw[<-hd,show M++[z,e]=(M++[z])++[e] by simp];exact hh
 ·rintro(⟨h,hu⟩|⟨rfl,rfl⟩|⟨rfl,h⟩)
  ·rcases gj.mp h with⟨A,B,h⟩|⟨A,h,hh⟩
   ·rw[show M++[z,e]=(M++[z])++[e] by simp,h,show A++u::v::B++[e]=A++u::v::(B++[e]) by simp];exact dH
   ·obtain⟨_,h2⟩:=acD h rfl;exact absurd (afD h2).1.symm hu
  ·exact dH (B:=[])
  ·rcases gj.mp h with⟨A,B,h⟩|⟨A,h,hh⟩
   ·-- z is Kq last
    exfalso;have i1:(M++[z])[M.length]?=some z:=by simp
    have i2:(M++[z])[A.length]?=some z:=by rw[h];simp
    have:=gY nd' i1 i2
    have:=congrArg List.length h
    simp at this;omega
   ·obtain⟨rfl,_⟩:=acD h rfl;rw[show M++[z,u]=(M++[z])++[u] by simp];exact iL (by rw[<-hd] at hh;rw[show(M++[z])++[u]=M++[z,u] by simp];exact hh)
theorem oQ:bh (A++B) u v ↔ bh (B++A) u v:=⟨iM,iM⟩
theorem tm{f:List α}{P:α->Prop}{e:α}(he:e∈f)(pe:P e)(st:∀u v,bh f u v->P u->P v):∀x∈f,P x:=by
 obtain⟨A,B,rfl⟩:=aaq he;have key:∀(i:Nat) (x:α),(e::B++A)[i]?=some x->P x:=by
  intro i;induction i with
  |zero=>intro x hx;rw[acB,List.getElem?_cons_zero] at hx;exact ZH hx▸pe
  |succ i ih =>intro x hx;have hi:=(Zq.mp hx).1;have h0:(e::B++A)[i]?=some ((e::B++A)[i]'(by omega)):=Zk _;exact st _ _ (oQ.mpr ⟨i,h0,.inl hx⟩) (ih _ h0)
 intro x hx
 have:x∈e::B++A:=by simp at hx⊢;rcases hx with h|h|h<;>simp[h]
 obtain⟨i,hi,rfl⟩:=acW.mp this;exact key i _ (Zk hi)
theorem kh:∀{l m:List β},l.Nodup->(∀x∈l,x∈m)->l.length<=m.length
 |[],_,_,_=>ZE _
 |x::l,m,nd,h=>by
  obtain⟨A,B,rfl⟩:=aaq (h x (by simp));obtain⟨n1,n2⟩:=ZT.mp nd
  have:=kh (l:=l) (m:=A++B) n2 λy hy=>by
   have:=h y (by simp[hy])
   simp at this⊢;rcases this with h|h|h
   ·exact .inl h
   ·exact absurd (h▸hy) n1
   ·exact .inr h
  simp at this⊢;omega
structure Dec(S:List α)(φ:α->α->Prop)(fs:List (List α)):Prop where
 nd:fs.flatten.Nodup
 mem:∀e,e∈fs.flatten ↔ e∈S
 ne:∀f∈fs,f≠[]
 eF:∀f∈fs,∀u v,bh f u v->φ u v
def Fn(φ:α->α->Prop):Prop:=∀u v w,φ u v->φ u w->v=w
theorem cc:∀{fs:List (List α)},fs.flatten.Nodup->∀f∈fs,f.Nodup
 |g::fs,nd,f,hf=>by
  rw[aaf,ZP] at nd;rcases Zs.mp hf with rfl|hf
  ·exact nd.1
  ·exact cc nd.2.1 f hf
theorem eG:∀{fs:List (List α)},fs.flatten.Nodup->∀{f g:List α} {x:α},f∈fs->g∈fs->x∈f->x∈g->f=g
 |h::fs,nd,f,g,x,hf,hg,xf,xg=>by
  rw[aaf,ZP] at nd;rcases Zs.mp hf with e1|hf<;>rcases Zs.mp hg with e2|hg
  ·rw[e1,e2]
  ·rw[e1] at xf;exact absurd rfl (nd.2.2 x xf x (ZL.mpr ⟨g,hg,xg⟩))
  ·rw[e2] at xg;exact absurd rfl (nd.2.2 x xg x (ZL.mpr ⟨f,hf,xf⟩))
  ·exact eG nd.2.1 hf hg xf xg
theorem mQ:∀{fs:List (List α)},fs.flatten.Nodup->(∀f∈fs,f≠[])->fs.Nodup
 |[],_,_=>abz
 |h::fs,nd,ne=>by
  have nd':=nd;rw[aaf,ZP] at nd';refine ZT.mpr ⟨λhm=>?_,mQ nd'.2.1 λf hf=>ne f (by simp[hf])⟩;cases h with
  |nil=>exact ne [] (by simp) rfl
  |cons a h=>exact absurd rfl (nd'.2.2 a (by simp) a (ZL.mpr ⟨_,hm,by simp⟩))
theorem Dec.closed(G:Dec S φ gs)(fn:Fn φ)(hg:g∈gs)(hu:u∈g)(h:φ u v):v∈g:=by obtain⟨w,hw⟩:=bh.ex hu;rw[fn u v w h (G.eF g hg u w hw)];exact hw.jM
theorem Dec.sub{S:List α}{φ:α->α->Prop}{fs gs:List (List α)}(F:Dec S φ fs)(G:Dec S φ gs)(fn:Fn φ){f g:List α}(hf:f∈fs)(hg:g∈gs){e:α}(ef:e∈f)(eg:e∈g):∀x∈f,x∈g:=
 tm ef eg λu v c hu=>G.closed fn hg hu (F.eF f hf u v c)
theorem Dec.at(G:Dec S φ gs)(h:e∈S):∃g∈gs,e∈g:=ZL.mp ((G.mem e).mpr h)
theorem Dec.le{S:List α}{φ:α->α->Prop}{fs gs:List (List α)}(F:Dec S φ fs)(G:Dec S φ gs)(fn:Fn φ):fs.length<=gs.length:=by
 classical
 have ex:∀f∈fs,∃g,g∈gs/\∃x,x∈f/\x∈g:=λf hf=>by
  cases f with
  |nil=>exact absurd rfl (F.ne _ hf)
  |cons a f =>obtain⟨g,hg,h⟩:=G.at ((F.mem a).mp (ZL.mpr ⟨_,hf,by simp⟩));exact⟨g,hg,a,by simp,h⟩
 let pick:List α->List α:=λf=>if h:∃g,g∈gs/\∃x,x∈f/\x∈g then Classical.choose h else []
 have pk:∀f∈fs,pick f∈gs/\∃x,x∈f/\x∈pick f:=λf hf=>by have e:pick f=Classical.choose (ex f hf):=dif_pos (ex f hf);rw[e];exact abr (ex f hf)
 have nd:(fs.map pick).Nodup:=by refine aa0.mpr (abB ?_ (mQ F.nd F.ne));intro f g hf hg ne e;obtain⟨p1,x,xf,xp⟩:=pk f hf;obtain⟨p2,y,yg,yp⟩:=pk g hg;have yf:=G.sub F fn p1 hf xp xf y (e▸yp);exact ne (eG F.nd hf hg yf yg)
 have:=kh nd λx hx=>by obtain⟨f,hf,rfl⟩:=ZD.mp hx;exact(pk f hf).1
 simpa using this
theorem Dec.len(F:Dec S φ fs)(G:Dec S φ gs)(fn:Fn φ):fs.length=gs.length:=adV (F.le G fn) (G.le F fn)
theorem Dec.to(F:Dec S φ fs)(hS:∀e,e∈S ↔ e∈S')(h:∀u v,u∈S->φ u v->ψ u v):Dec S' ψ fs:=
 ⟨F.nd,λe=>(F.mem e).trans (hS e),F.ne,λf hf u v c=>h u v ((F.mem u).mp (ZL.mpr ⟨f,hf,c.eE⟩)) (F.eF f hf u v c)⟩
theorem Dec.swap{S S':List α}{φ:α->α->Prop}{F1 F2 gs:List (List α)}{f:List α}(F:Dec S φ (F1++f::F2))(pm:∀e,e∈S' ↔ e∈F1.flatten++(gs.flatten++F2.flatten))(nd:(F1.flatten++(gs.flatten++F2.flatten)).Nodup){ψ:α->α->Prop}
  (ne:∀g∈gs,g≠[]) (cy:∀g∈gs,∀u v,bh g u v->ψ u v) (h:∀u v,u∈S->u∉f->φ u v->ψ u v):Dec S' ψ (F1++gs++F2):=by
 have fl:(F1++gs++F2).flatten=F1.flatten++(gs.flatten++F2.flatten):=by simp
 refine⟨by rw[fl];exact nd,λe=>by rw[fl];exact(pm e).symm,λg hg=>?_,λg hg u v c=>?_⟩
 ·simp at hg;rcases hg with hg|hg|hg
  ·exact F.ne g (by simp[hg])
  ·exact ne g hg
  ·exact F.ne g (by simp[hg])
 ·have old:g∈F1\/g∈F2->ψ u v:=λhg=>by
   have i4:g∈F1++f::F2:=by simp;rcases hg with hg|hg<;>simp[hg]
   refine h u v ((F.mem u).mp (ZL.mpr ⟨g,i4,c.eE⟩)) (λuf=>?_) (F.eF g i4 u v c);obtain rfl:=eG F.nd i4 (show f∈F1++f::F2 by simp) c.eE uf;have nn:=mQ F.nd F.ne;rw[ZP] at nn;rcases hg with hg|hg
   ·exact nn.2.2 g hg g (by simp) rfl
   ·exact(ZT.mp nn.2.1).1 hg
  simp at hg;rcases hg with hg|hg|hg
  ·exact old (.inl hg)
  ·exact cy g hg u v c
  ·exact old (.inr hg)
end cM
namespace cM
variable {α:Type}
def oR(N N':α->α->Prop)(x e:α):Prop:=∀u v,N' u v ↔ (N u v/\u≠x)\/(u=x/\v=e)\/(u=e/\N x v)
structure tu(S:List α)(σ:α->α)(e e':α):Prop where
 inv:∀u∈S,σ (σ u)=u
 mem:∀u∈S,σ u∈S
 e1:σ e=e'
 e2:σ e'=e
 n1:e∉S
 n2:e'∉S
 ne:e≠e'
theorem tu.off(L:tu S σ e e')(hu:u∈S)(h:u≠σ x):σ u≠x:=λz=>h (by rw[<-z,L.inv u hu])
theorem tu.Sk(L:tu S σ e e')(hu:u∈S):σ u≠e:=λz=>L.n1 (z▸L.mem u hu)
theorem jN{S:List α}{u e:α}(hu:u∈S)(h:e∉S):u≠e:=λz=>h (z▸hu)
section
variable {S S':List α}{σ:α->α}{e e':α}{N N1 N2:α->α->Prop}{fs:List (List α)}
theorem swap_perm{F1 F2 gs:List (List α)}{f m:List α}(pm:gs.flatten.Perm (m++f)):(F1.flatten++(gs.flatten++F2.flatten)).Perm (m++(F1++f::F2).flatten):=by
 have:(m++(F1++f::F2).flatten).Perm (F1.flatten++((m++f)++F2.flatten)):=by rw[show(F1++f::F2).flatten=F1.flatten++(f++F2.flatten) by simp,<-ZV];refine List.Perm.trans (acv _ abd) ?_;rw[ZV,ZV]
 refine List.Perm.trans ?_ this.symm;exact acI _ (acv _ pm)
theorem Dec.swap'{F1 F2 gs:List (List α)}{f m:List α}{φ ψ:α->α->Prop}(F:Dec S φ (F1++f::F2))(pm:gs.flatten.Perm (m++f))(hS:∀a,a∈S' ↔ a∈m\/a∈S)(hm:m.Nodup)(hn:∀a∈m,a∉S)
  (ne:∀g∈gs,g≠[]) (cy:∀g∈gs,∀u v,bh g u v->ψ u v) (h:∀u v,u∈S->u∉f->φ u v->ψ u v):Dec S' ψ (F1++gs++F2):=by
 have p:=swap_perm (F1:=F1) (F2:=F2) pm;refine F.swap (λa=>?_) ?_ ne cy h
 ·rw[hS a,p.mem_iff,Zv,F.mem a]
 ·refine p.nodup_iff.mpr (ZP.mpr ⟨hm,F.nd,λa ha b hb z=>?_⟩);subst z;exact hn a ha ((F.mem a).mp hb)
theorem EM(F:Dec S (λu v=>N (σ u) v) fs)(L:tu S σ e e'){x:α}(hx:x∈S)(i1:oR N N1 x e)(i2:∀u v,N2 u v ↔ N1 u v\/(u=e'/\v=e'))(hS:∀a,a∈S' ↔ a∈[e,e']\/a∈S) :
  ∃gs,gs.length=fs.length/\Dec S' (λu v=>N2 (σ u) v) gs:=by
 obtain⟨f,hf,hz⟩:=F.at (L.mem x hx);obtain⟨F1,F2,rfl⟩:=aaq hf;obtain⟨P,Q,rfl⟩:=aaq hz;have fS:∀a∈P++σ x::Q,a∈S:=λa ha=>(F.mem a).mp (ZL.mpr ⟨_,hf,ha⟩);have nf:=cc F.nd _ hf;have ne1:e∉P++σ x::Q:=λh=>L.n1 (fS _ h);have ne2:e'∉P++σ x::Q:=λh=>L.n2 (fS _ h);have U8:(P++σ x::e'::Q).Nodup:=by refine(agn (l₂:=e'::(P++σ x::Q)) ?_).mpr (ZT.mpr ⟨ne2,nf⟩);rw[show P++σ x::e'::Q=(P++[σ x])++e'::Q by simp,show P++σ x::Q=(P++[σ x])++Q by simp];exact acE
 have ne3:e∉P++σ x::e'::Q:=λh=>by
  simp at h;rcases h with h|h|h|h
  ·exact ne1 (by simp[h])
  ·exact ne1 (by simp[h])
  ·exact L.ne h
  ·exact ne1 (by simp[h])
 have ok1:∀u v,u∈S->u≠σ x->N (σ u) v->N2 (σ u) v:=λu v hu h k=>(i2 _ _).mpr (.inl ((i1 _ _).mpr (.inl ⟨k,L.off hu h⟩)));refine⟨F1++[P++σ x::e::e'::Q]++F2,by simp,F.swap' (m:=[e,e']) ?_ hS (by simp[L.ne]) (by simp[L.n1,L.n2]) (by simp) (λg hg u v c=>?_) λu v hu hn k=>ok1 u v hu (λz=>hn (by simp[z])) k⟩
 ·simp only[aaf,acG,aaK];rw[show P++σ x::e::e'::Q=(P++[σ x])++([e,e']++Q) by simp,show P++σ x::Q=(P++[σ x])++Q by simp,<-ZV,<-ZV];exact acv _ abd
 ·obtain rfl:g=_:=by simpa using hg
  have old:∀v,bh (P++σ x::Q) (σ x) v->N x v:=λv c=>by
   have:=F.eF _ hf _ _ c
   rw[L.inv x hx] at this;exact this
  rcases(dS U8 ne3).mp c with⟨c2,h⟩|⟨rfl,rfl⟩|⟨rfl,c2⟩
  ·rcases(dS nf ne2).mp c2 with⟨c3,h'⟩|⟨rfl,_⟩|⟨rfl,c3⟩
   ·exact ok1 u v (fS _ c3.eE) h' (F.eF _ hf _ _ c3)
   ·exact absurd rfl h
   ·show N2 (σ u) v
    rw[L.e2];exact(i2 _ _).mpr (.inl ((i1 _ _).mpr (.inr (.inr ⟨rfl,old v c3⟩))))
  ·show N2 (σ (σ x)) v
   rw[L.inv x hx];exact(i2 _ _).mpr (.inl ((i1 _ _).mpr (.inr (.inl ⟨rfl,rfl⟩))))
  ·show N2 (σ u) v
   rw[L.e1];rcases(dS nf ne2).mp c2 with⟨_,h⟩|⟨_,rfl⟩|⟨h,_⟩
   ·exact absurd rfl h
   ·exact(i2 _ _).mpr (.inr ⟨rfl,rfl⟩)
   ·exact absurd h (jN (L.mem x hx) L.n2)
theorem EN(F:Dec S (λu v=>N (σ u) v) fs)(L:tu S σ e e'){x:α}(hx:x∈S)(i1:oR N N1 x e)(i2:oR N1 N2 e e')(hS:∀a,a∈S' ↔ a∈[e,e']\/a∈S) :
  ∃gs,gs.length=fs.length+1/\Dec S' (λu v=>N2 (σ u) v) gs:=by
 obtain⟨f,hf,hz⟩:=F.at (L.mem x hx);obtain⟨F1,F2,rfl⟩:=aaq hf;obtain⟨P,Q,rfl⟩:=aaq hz;have fS:∀a∈P++σ x::Q,a∈S:=λa ha=>(F.mem a).mp (ZL.mpr ⟨_,hf,ha⟩);have nf:=cc F.nd _ hf;have ne1:e∉P++σ x::Q:=λh=>L.n1 (fS _ h);have ok1:∀u v,u∈S->u≠σ x->N (σ u) v->N2 (σ u) v:=λu v hu h k=>(i2 _ _).mpr (.inl ⟨(i1 _ _).mpr (.inl ⟨k,L.off hu h⟩),L.Sk hu⟩);refine⟨F1++[P++σ x::e::Q,[e']]++F2,by simp;omega,F.swap' (m:=[e,e']) ?_ hS (by simp[L.ne]) (by simp[L.n1,L.n2]) (by simp) (λg hg u v c=>?_) λu v hu hn k=>ok1 u v hu (λz=>hn (by simp[z])) k⟩
 ·simp only[aaf,acG,aaK];refine List.Perm.trans abd ?_;show(e'::(P++σ x::e::Q)).Perm (e::e'::(P++σ x::Q))
  refine List.Perm.trans (List.Perm.cons e' ?_) (List.Perm.swap e e' _);rw[show P++σ x::e::Q=(P++[σ x])++e::Q by simp,show P++σ x::Q=(P++[σ x])++Q by simp];exact acE
 ·simp at hg;rcases hg with rfl|rfl
  ·rcases(dS nf ne1).mp c with⟨c2,h⟩|⟨rfl,rfl⟩|⟨rfl,c2⟩
   ·exact ok1 u v (fS _ c2.eE) h (F.eF _ hf _ _ c2)
   ·show N2 (σ (σ x)) v
    rw[L.inv x hx];exact(i2 _ _).mpr (.inl ⟨(i1 _ _).mpr (.inr (.inl ⟨rfl,rfl⟩)),jN hx L.n1⟩)
   ·show N2 (σ u) v
    rw[L.e1]
    have:=F.eF _ hf _ _ c2
    rw[L.inv x hx] at this;exact(i2 _ _).mpr (.inr (.inr ⟨rfl,(i1 _ _).mpr (.inr (.inr ⟨rfl,this⟩))⟩))
  ·obtain rfl:u=e':=by simpa using c.eE
   obtain rfl:v=u:=by simpa using c.jM
   show N2 (σ v) v
   rw[L.e2];exact(i2 _ _).mpr (.inr (.inl ⟨rfl,rfl⟩))
theorem vW(h:bh (C++[z,e]) u v):(u∈C/\∃A B,C++[z]=A++u::v::B)\/(u=z/\v=e)\/(u=e/\(C++[z]).head?=some v):=by
 rcases gj.mp h with⟨A,B,h⟩|⟨A,h,hh⟩
 ·rcases adt.mp h with⟨D,rfl,h2⟩|⟨D,rfl,h2⟩
  ·rcases D with _|⟨c,_|⟨d,D⟩⟩
   ·simp at h2;exact .inr (.inl ⟨h2.1.symm,h2.2.1.symm⟩)
   ·simp at h2
   ·simp at h2
  ·rcases D with _|⟨c,_|⟨d,D⟩⟩
   ·simp at h2;exact .inr (.inl ⟨h2.1,h2.2.1⟩)
   ·simp at h2;obtain⟨rfl,rfl,_⟩:=h2;exact .inl ⟨by simp,A,[],by simp⟩
   ·simp at h2;obtain⟨rfl,rfl,_⟩:=h2;exact .inl ⟨by simp,A,D++[z],by simp⟩
 ·rw[show C++[z,e]=(C++[z])++[e] by simp] at h;obtain⟨hA,h2⟩:=acD h rfl;subst hA;obtain rfl:e=u:=by simpa using h2
  refine .inr (.inr ⟨rfl,?_⟩);cases C<;>simpa using hh
theorem Ae[DecidableEq α](F:Dec S (λu v=>N (σ u) v) fs)(L:tu S σ e e'){x y:α}(hx:x∈S)(hy:y∈S)(nxy:x≠y){f:List α}(hf:f∈fs)(zx:σ x∈f)(zy:σ y∈f)(i1:oR N N1 x e)(i2:oR N1 N2 y e')(hS:∀a,a∈S' ↔ a∈[e,e']\/a∈S) :
  ∃gs,gs.length=fs.length+1/\Dec S' (λu v=>N2 (σ u) v) gs:=by
 obtain⟨F1,F2,rfl⟩:=aaq hf;have fS:∀a∈f,a∈S:=λa ha=>(F.mem a).mp (ZL.mpr ⟨_,hf,ha⟩);have nf:=cc F.nd _ hf;have zn:σ y≠σ x:=λz=>nxy (by rw[<-L.inv x hx,<-L.inv y hy,z]);obtain⟨P,Q,e1⟩:=aaq zx;have pf:f.Perm ((Q++P)++[σ x]):=by rw[e1,show P++σ x::Q=(P++[σ x])++Q by simp,ZV Q P];exact abd
 have cf:∀u v,bh ((Q++P)++[σ x]) u v->bh f u v:=λu v c=>by rw[e1,show P++σ x::Q=(P++[σ x])++Q by simp];rw[ZV] at c;exact iM c
 have U9:σ y∈Q++P:=by
  have:=(pf.mem_iff (a:=σ y)).mp zy
  rw[Zv] at this;exact this.resolve_right λh=>zn (by simpa using h)
 obtain⟨C,D,e2⟩:=aaq U9;rw[e2] at pf cf;have nd':=pf.nodup_iff.mp nf;obtain⟨q1,_,q3⟩:=ZP.mp nd';obtain⟨_,q5,q6⟩:=ZP.mp q1;have mC:∀a,a∈C->a≠σ x/\a≠σ y/\a∈S:=λa ha=>⟨q3 a (by simp[ha]) _ (by simp),q6 a ha _ (by simp),fS a (pf.mem_iff.mpr (by simp[ha]))⟩
 have mD:∀a,a∈D->a≠σ x/\a≠σ y/\a∈S:=λa ha=>⟨q3 a (by simp[ha]) _ (by simp),λz=>(ZT.mp q5).1 (z▸ha),fS a (pf.mem_iff.mpr (by simp[ha]))⟩
 have ok1:∀u v,u∈S->u≠σ x->u≠σ y->N (σ u) v->N2 (σ u) v:=λu v hu h1 h2 k=>(i2 _ _).mpr (.inl ⟨(i1 _ _).mpr (.inl ⟨k,L.off hu h1⟩),L.off hu h2⟩);have yx:y≠x:=Z0 nxy;refine⟨F1++[C++[σ y,e'],D++[σ x,e]]++F2,by simp;omega,F.swap' (m:=[e,e']) ?_ hS (by simp[L.ne]) (by simp[L.n1,L.n2]) (by simp) (λg hg u v c=>?_) λu v hu hn k=>ok1 u v hu (λz=>hn (z▸zx)) (λz=>hn (z▸zy)) k⟩
 ·simp only[aaf,acG,aaK];refine List.Perm.trans ?_ (acI _ pf.symm);refine ac1.mpr λa=>?_;simp only[aco,adX,afu];omega
 ·simp at hg;rcases hg with rfl|rfl
  ·rcases vW c with⟨hu,A,B,h⟩|⟨rfl,rfl⟩|⟨rfl,h⟩
   ·obtain⟨m1,m2,m3⟩:=mC u hu;refine ok1 u v m3 m1 m2 (F.eF _ hf _ _ (cf _ _ ?_));rw[show C++σ y::D++[σ x]=(C++[σ y])++(D++[σ x]) by simp,h,show A++u::v::B++(D++[σ x])=A++u::v::(B++(D++[σ x])) by simp];exact dH
   ·show N2 (σ (σ y)) v
    rw[L.inv y hy];exact(i2 _ _).mpr (.inr (.inl ⟨rfl,rfl⟩))
   ·show N2 (σ u) v
    rw[L.e2]
    have:bh (C++σ y::D++[σ x]) (σ x) v:=iL (by cases C<;>simpa using h)
    have:=F.eF _ hf _ _ (cf _ _ this)
    rw[L.inv x hx] at this;exact(i2 _ _).mpr (.inl ⟨(i1 _ _).mpr (.inr (.inr ⟨rfl,this⟩)),(jN hy L.n1).symm⟩)
  ·rcases vW c with⟨hu,A,B,h⟩|⟨rfl,rfl⟩|⟨rfl,h⟩
   ·obtain⟨m1,m2,m3⟩:=mD u hu;refine ok1 u v m3 m1 m2 (F.eF _ hf _ _ (cf _ _ ?_));rw[show C++σ y::D++[σ x]=(C++[σ y])++(D++[σ x]) by simp,h,<-ZV];exact dH
   ·show N2 (σ (σ x)) v
    rw[L.inv x hx];exact(i2 _ _).mpr (.inl ⟨(i1 _ _).mpr (.inr (.inl ⟨rfl,rfl⟩)),nxy⟩)
   ·show N2 (σ u) v
    rw[L.e1]
    have:bh (C++σ y::D++[σ x]) (σ y) v:=by
     rw[ZV];cases D with
     |nil=>
      obtain rfl:σ x=v:=by simpa using h
      exact dH (B:=[])
     |cons d D=>
      obtain rfl:d=v:=by simpa using h
      exact dH (B:=D++[σ x])
    have:=F.eF _ hf _ _ (cf _ _ this)
    rw[L.inv y hy] at this;exact(i2 _ _).mpr (.inr (.inr ⟨rfl,(i1 _ _).mpr (.inl ⟨this,yx⟩)⟩))
end
end cM
namespace cM
abbrev En:=Nat×Nat
def bL(e:En):En:=(e.1,1-e.2)
def Nx(rows:List (List En))(u v:En):Prop:=∃r∈rows,bh r u v
def cE(x e:En)(r:List En):List En:=if x∈r then r.take (r.idxOf x+1)++e::r.drop (r.idxOf x+1) else r
structure cW(n:Nat)(rows:List (List En)):Prop where
 nd:rows.flatten.Nodup
 mem:∀e:En,e∈rows.flatten ↔ e.1<n/\e.2<2
theorem uq(nd:rows.flatten.Nodup):Fn (Nx rows):=λu v w ⟨r,hr,c⟩ ⟨r',hr',c'⟩=>by obtain rfl:=eG nd hr hr' c.eE c'.eE;exact c.fn (cc nd _ hr) c'
theorem yu(h:x∉r):cE x e r=r:=if_neg h
theorem IJ(h:x∉P):cE x e (P++x::Q)=P++x::e::Q:=by
 unfold cE;have i:(P++x::Q).idxOf x=P.length:=by rw[List.idxOf_append,if_neg h];simp
 rw[if_pos (by simp),i,show P++x::Q=(P++[x])++Q by simp,List.take_left' (by simp),List.drop_left' (by simp)];simp
theorem EO(h:x∈r)(nd:r.Nodup):∃P Q,r=P++x::Q/\x∉P:=by obtain⟨P,Q,rfl⟩:=aaq h;exact⟨P,Q,rfl,λz=>(ZP.mp nd).2.2 x z x (by simp) rfl⟩
theorem tw(nd:rows.flatten.Nodup)(hx:x∈rows.flatten):∃R1 R2 P Q,rows=R1++(P++x::Q)::R2/\x∉P/\(∀r∈R1,x∉r)/\(∀r∈R2,x∉r)/\rows.map (cE x e)=R1++(P++x::e::Q)::R2:=by
 obtain⟨r,hr,xr⟩:=ZL.mp hx;obtain⟨P,Q,rfl,nP⟩:=EO xr (cc nd _ hr);obtain⟨R1,R2,rfl⟩:=aaq hr;have fl:(R1++(P++x::Q)::R2).flatten=R1.flatten++((P++x::Q)++R2.flatten):=by simp
 rw[fl] at nd;obtain⟨_,n2,n3⟩:=ZP.mp nd;have h1:∀r∈R1,x∉r:=λr hr z=>n3 x (ZL.mpr ⟨r,hr,z⟩) x (by simp) rfl;have h2:∀r∈R2,x∉r:=λr hr z=>(ZP.mp n2).2.2 x (by simp) x (ZL.mpr ⟨r,hr,z⟩) rfl;refine⟨R1,R2,P,Q,rfl,nP,h1,h2,?_⟩;rw[ZU,ZI,IJ nP];have no:∀{R:List (List En)},(∀r∈R,x∉r)->R.map (cE x e)=R:=λ{R} h=>(aeB (g:=id) λr hr=>yu (e:=e) (h r hr)).trans (af' R);rw[no h1,no h2]
theorem oS{rows:List (List En)}{x e:En}(nd:rows.flatten.Nodup)(hx:x∈rows.flatten):(rows.map (cE x e)).flatten.Perm (e::rows.flatten):=by obtain⟨R1,R2,P,Q,h,_,_,_,em⟩:=tw (e:=e) nd hx;rw[em,h];refine ac1.mpr λa=>?_;simp only[aaF,aaf,aco,adX];omega
theorem yw(nd:rows.flatten.Nodup)(hx:x∈rows.flatten)(he:e∉rows.flatten):oR (Nx rows) (Nx (rows.map (cE x e))) x e:=by
 obtain⟨R1,R2,P,Q,h,nP,h1,h2,em⟩:=tw (e:=e) nd hx;have hr:P++x::Q∈rows:=by rw[h];simp
 have nr:=cc nd _ hr;have ne:e∉P++x::Q:=λz=>he (ZL.mpr ⟨_,hr,z⟩);have only:∀v,Nx rows x v ↔ bh (P++x::Q) x v:=λv=>⟨λ⟨r,hr',c⟩=>by obtain rfl:=eG nd hr' hr c.eE (by simp);exact c,λc=>⟨_,hr,c⟩⟩
 intro u v;rw[only,em];constructor
 ·rintro⟨r,hr',c⟩;have old:r∈R1\/r∈R2->Nx rows u v/\u≠x:=λhh=>⟨⟨r,by rw[h];simp;rcases hh with hh|hh<;>simp[hh],c⟩,λz=>by
   subst z;rcases hh with hh|hh
   ·exact h1 r hh c.eE
   ·exact h2 r hh c.eE⟩
  simp at hr';rcases hr' with hr'|rfl|hr'
  ·exact .inl (old (.inl hr'))
  ·rcases(dS nr ne).mp c with⟨c2,h⟩|hh|hh
   ·exact .inl ⟨⟨_,hr,c2⟩,h⟩
   ·exact .inr (.inl hh)
   ·exact .inr (.inr hh)
  ·exact .inl (old (.inr hr'))
 ·have new:bh (P++x::e::Q) u v->Nx (R1++(P++x::e::Q)::R2) u v:=λc=>⟨_,by simp,c⟩
  rintro(⟨⟨r,hr',c⟩,hu⟩|hh|hh)
  ·rw[h] at hr';simp at hr';rcases hr' with hr'|rfl|hr'
   ·exact⟨r,by simp[hr'],c⟩
   ·exact new ((dS nr ne).mpr (.inl ⟨c,hu⟩))
   ·exact⟨r,by simp[hr'],c⟩
  ·exact new ((dS nr ne).mpr (.inr (.inl hh)))
  ·exact new ((dS nr ne).mpr (.inr (.inr hh)))
theorem IK(nd:(A++B).Nodup)(he:e∉A++B)(ne:A++B≠[]):∃x∈A++B,∀u v,bh (A++e::B) u v ↔ (bh (A++B) u v/\u≠x)\/(u=x/\v=e)\/(u=e/\bh (A++B) x v):=by
 rcases aek A with rfl|⟨A,x,rfl⟩
 ·rcases aek B with rfl|⟨B,x,rfl⟩
  ·exact absurd rfl ne
  ·rw[ael] at *;simp only[adW] at *;refine⟨x,by simp,λu v=>?_⟩;have h:=dS (P:=B) (Q:=[]) (z:=x) (u:=u) (v:=v) nd he;rw[<-h,show e::(B++[x])=[e]++(B++[x]) from rfl,oQ];simp
 ·rw[ael] at *;refine⟨x,by simp,λu v=>?_⟩;rw[show A++[x]++B=A++x::B by simp,show A++[x]++e::B=A++x::e::B by simp];exact dS (by simpa using nd) (by simpa using he)
end cM
namespace cM
theorem iN(h:u.2<2):bL (bL u)=u:=acA rfl (by show 1-(1-u.2)=u.2;omega)
theorem cW.bL(R:cW n rows)(hs:s<2):tu rows.flatten bL (n,s) (n,1-s) where
 inv u hu:=iN ((R.mem u).mp hu).2
 mem u hu:=(R.mem _).mpr ⟨((R.mem u).mp hu).1,by show 1-u.2<2;omega⟩
 e1:=rfl
 e2:=acA rfl (by show 1-(1-s)=s;omega)
 n1 h:=ZX _ ((R.mem _).mp h).1
 n2 h:=ZX _ ((R.mem _).mp h).1
 ne h:=by have:=congrArg Prod.snd h;simp at this;omega
theorem cW.more(R:cW n rows)(hs:s<2)(p:aV.flatten.Perm ((n,s)::(n,1-s)::rows.flatten)):cW (n+1) aV:=by
 have L:=R.bL hs;refine⟨p.nodup_iff.mpr (ZT.mpr ⟨λh=>?_,ZT.mpr ⟨L.n2,R.nd⟩⟩),λe=>?_⟩
 ·rcases Zs.mp h with h|h
  ·exact L.ne h
  ·exact L.n1 h
 ·rw[p.mem_iff,Zs,Zs,R.mem e];obtain⟨k,t⟩:=e;simp only[adh];omega
inductive Cn (rows:List (List En)):Nat->Prop
 |z:Cn rows 0
 |st {i j:Nat} {r r':List En} {e:En} (h:Cn rows i) (hi:rows[i]?=some r) (hj:rows[j]?=some r') (he:e∈r) (hf:cM.bL e∈r'):Cn rows j
theorem Cn.mono(m:∀(i:Nat) r,rows[i]?=some r->∃r',aV[i]?=some r'/\∀e∈r,e∈r')(h:Cn rows i):Cn aV i:=by
 induction h with
 |z=>exact .z
 |st _ hi hj he hf ih =>obtain⟨_,a1,b1⟩:=m _ _ hi;obtain⟨_,a2,b2⟩:=m _ _ hj;exact .st ih a1 a2 (b1 _ he) (b2 _ hf)
structure Flt(n:Nat)(rows:List (List En)):Prop where
 bW:cW n rows
 ne:0<n->∀r∈rows,r≠[]
 z:n=0->rows=[[]]
 con:∀i,i<rows.length->Cn rows i
 Lw:0<n->∃fs,Dec rows.flatten (λu v=>Nx rows (cM.bL u) v) fs/\fs.length+rows.length=n+2
theorem oT:Flt 0 [[]]:=⟨⟨by simp,λe=>by simp⟩,λh=>absurd h (by decide),λ_=>rfl,λi hi=>by
 obtain rfl:i=0:=by simpa using hi
 exact .z,λh=>absurd h (by decide)⟩
theorem IL(h:bh [a,b] u v):(u=a/\v=b)\/(u=b/\v=a):=by
 obtain⟨i,hi,h⟩:=h;match i,hi with
 |0,hi=>
  rcases h with h|⟨l,_⟩
  ·simp at hi h;exact .inl ⟨hi.symm,h.symm⟩
  ·simp at l
 |1,hi=>
  rcases h with h|⟨_,h⟩
  ·simp at h
  ·simp at hi h;exact .inr ⟨hi.symm,h.symm⟩
theorem k8:bh [a] a a:=⟨0,rfl,.inr ⟨rfl,rfl⟩⟩
theorem Af(h:rows[i]?=some r):∃R1 R2,rows=R1++r::R2/\R1.length=i/\rows.set i r'=R1++r'::R2:=by
 obtain⟨a,rfl⟩:=Zq.mp h;refine⟨rows.take i,rows.drop (i+1),?_,by simp;omega,?_⟩
 ·rw[aaD a,aap]
 ·rw[List.set_eq_take_append_cons_drop,if_pos a]
theorem ER(F:Flt n rows)(hi:rows[i]?=some r)(hs:s<2):Flt (n+1) (rows.set i (r.take j++(n,s)::r.drop j)++[[(n,1-s)]]):=by
 obtain⟨R1,R2,e,hl,es⟩:=Af (r':=r.take j++(n,s)::r.drop j) hi;have L:=F.bW.bL hs;have pm:(rows.set i (r.take j++(n,s)::r.drop j)++[[(n,1-s)]]).flatten.Perm ((n,s)::(n,1-s)::rows.flatten):=by
  rw[es,e];refine ac1.mpr λa=>?_
  have:=congrArg (List.count a) (aap j r)
  simp only[aco] at this;simp only[aaF,aaf,acG,aco,adX,afu];omega
 have len:(rows.set i (r.take j++(n,s)::r.drop j)++[[(n,1-s)]]).length=rows.length+1:=by simp
 refine⟨F.bW.more hs pm,λ_ q hq=>?_,λh=>absurd h (by omega),λk hk=>?_,λ_=>?_⟩
 ·rw[es] at hq;simp at hq;by_cases h0:n=0
  ·have hh:R1=[]/\r=[]/\R2=[]:=by
    have:=F.z h0
    rw[e] at this;cases R1 with
    |nil=>simp at this;exact⟨rfl,this.1,this.2⟩
    |cons a R1=>simp at this
   obtain⟨rfl,rfl,rfl⟩:=hh;simp at hq;rcases hq with rfl|rfl<;>simp
  ·rcases hq with hq|rfl|hq|rfl
   ·exact F.ne (by omega) q (by rw[e];simp[hq])
   ·simp
   ·exact F.ne (by omega) q (by rw[e];simp[hq])
   ·simp
 ·have mono:∀(k:Nat) q,rows[k]?=some q->∃q',(rows.set i (r.take j++(n,s)::r.drop j)++[[(n,1-s)]])[k]?=some q'/\∀e∈q,e∈q':=λk q hk=>by
   have lk:=(Zq.mp hk).1;rw[ZZ (by simpa using lk),adn];by_cases c:i=k
   ·subst c;rw[hi] at hk;cases hk;refine⟨_,by rw[if_pos rfl,if_pos lk],λa ha=>?_⟩
    have:a∈r.take j++r.drop j:=by rw[aap];exact ha
    rw[Zv,Zs];rcases Zv.mp this with h|h
    ·exact .inl h
    ·exact .inr (.inr h)
   ·exact⟨q,by rw[if_neg c];exact hk,λa ha=>ha⟩
  rw[len] at hk;by_cases c:k<rows.length
  ·exact(F.con k c).mono mono
  ·obtain rfl:k=rows.length:=by omega
   have li:=(Zq.mp hi).1;refine .st (i:=i) (e:=(n,s)) ((F.con i li).mono mono) (r:=r.take j++(n,s)::r.drop j) (r':=[(n,1-s)]) ?_ ?_ (by simp) (by simp[bL])
   ·rw[ZZ (by simpa using li),adn,if_pos rfl,if_pos li]
   ·rw[aal (by simp)];simp
 ·by_cases h0:n=0
  ·subst h0;have z:=F.z rfl;subst z;obtain rfl:i=0:=by have:=(Zq.mp hi).1;simpa using this
   obtain rfl:r=[]:=by simpa using hi.symm
   refine⟨[[(0,s),(0,1-s)]],⟨by simp[L.ne],λa=>by simp,by simp,λf hf u v c=>?_⟩,by simp⟩;obtain rfl:f=_:=by simpa using hf
   rcases IL c with⟨rfl,rfl⟩|⟨rfl,rfl⟩
   ·exact⟨[(0,1-s)],by simp,k8⟩
   ·refine⟨[(0,s)],by simp,?_⟩;rw[L.e2];exact k8
  ·obtain⟨fs,D,hc⟩:=F.Lw (by omega);have vX:r≠[]:=F.ne (by omega) r (by rw[e];simp);have hr:r∈rows:=by rw[e];simp
   have nr:=cc F.bW.nd _ hr;have er:=aap j r;obtain⟨x,hx,cx⟩:=IK (A:=r.take j) (B:=r.drop j) (e:=(n,s)) (by rw[er];exact nr) (by rw[er];exact λh=>L.n1 (ZL.mpr ⟨r,hr,h⟩)) (by rw[er];exact vX);rw[er] at hx;simp only[er] at cx;have xS:x∈rows.flatten:=ZL.mpr ⟨r,hr,hx⟩;have only:∀v,Nx rows x v ↔ bh r x v:=λv=>⟨λ⟨q,hq,c⟩=>by obtain rfl:=eG F.bW.nd hq hr c.eE hx;exact c,λc=>⟨_,hr,c⟩⟩
   have i1:oR (Nx rows) (Nx (R1++(r.take j++(n,s)::r.drop j)::R2)) x (n,s):=λu v=>by
    rw[only];have apart:∀q,(q∈R1\/q∈R2)->bh q u v->u≠x:=λq hq c z=>by
     subst z;have nn:=F.bW.nd;rw[e] at nn;rw[show(R1++r::R2).flatten=R1.flatten++(r++R2.flatten) by simp] at nn;obtain⟨_,n2,n3⟩:=ZP.mp nn;rcases hq with hq|hq
     ·exact n3 u (ZL.mpr ⟨q,hq,c.eE⟩) u (by simp[hx]) rfl
     ·exact(ZP.mp n2).2.2 u hx u (ZL.mpr ⟨q,hq,c.eE⟩) rfl
    constructor
    ·rintro⟨q,hq,c⟩;simp at hq;rcases hq with hq|rfl|hq
     ·exact .inl ⟨⟨q,by rw[e];simp[hq],c⟩,apart q (.inl hq) c⟩
     ·rcases(cx u v).mp c with⟨c2,h⟩|hh|hh
      ·exact .inl ⟨⟨r,hr,c2⟩,h⟩
      ·exact .inr (.inl hh)
      ·exact .inr (.inr hh)
     ·exact .inl ⟨⟨q,by rw[e];simp[hq],c⟩,apart q (.inr hq) c⟩
    ·have new:bh (r.take j++(n,s)::r.drop j) u v->Nx (R1++(r.take j++(n,s)::r.drop j)::R2) u v:=λc=>⟨_,by simp,c⟩
     rintro(⟨⟨q,hq,c⟩,hu⟩|hh|hh)
     ·rw[e] at hq;simp at hq;rcases hq with hq|rfl|hq
      ·exact⟨q,by simp[hq],c⟩
      ·exact new ((cx u v).mpr (.inl ⟨c,hu⟩))
      ·exact⟨q,by simp[hq],c⟩
     ·exact new ((cx u v).mpr (.inr (.inl hh)))
     ·exact new ((cx u v).mpr (.inr (.inr hh)))
   obtain⟨gs,hg,G⟩:=EM (S':=(rows.set i (r.take j++(n,s)::r.drop j)++[[(n,1-s)]]).flatten) (N2:=Nx (rows.set i (r.take j++(n,s)::r.drop j)++[[(n,1-s)]])) D L xS i1 (λu v=>by
    rw[es];constructor
    ·rintro⟨q,hq,c⟩;rcases Zv.mp hq with hq|hq
     ·exact .inl ⟨q,hq,c⟩
     ·obtain rfl:q=_:=by simpa using hq
      obtain rfl:u=_:=by simpa using c.eE
      obtain rfl:v=_:=by simpa using c.jM
      exact .inr ⟨rfl,rfl⟩
    ·rintro(⟨q,hq,c⟩|⟨rfl,rfl⟩)
     ·exact⟨q,ZN _ hq,c⟩
     ·exact⟨_,Zm _ (ZJ.mpr rfl),k8⟩) (λa=>by rw[pm.mem_iff];simp[or_assoc])
   exact⟨gs,G,by rw[len];omega⟩
theorem Cg(hs:s<2):Flt 1 [[(0,s),(0,1-s)]]:=by
 have L:=oT.bW.bL hs;have L1:((0,s):En)≠(0,1-s):=L.ne;refine⟨oT.bW.more hs (by simp),λ_ q hq=>(by obtain rfl:q=_:=(by simpa using hq);simp),λh=>absurd h (by decide),λi hi=>(by
  obtain rfl:i=0:=by simpa using hi
  exact .z),λ_=>⟨[[(0,s)],[(0,1-s)]],⟨by simp[L1],λa=>by simp,by simp,λf hf u v c=>?_⟩,by simp⟩⟩
 simp at hf;rcases hf with rfl|rfl
 ·obtain rfl:u=_:=by simpa using c.eE
  obtain rfl:v=_:=by simpa using c.jM
  exact⟨_,ZJ.mpr rfl,1,rfl,.inr ⟨rfl,rfl⟩⟩
 ·obtain rfl:u=_:=by simpa using c.eE
  obtain rfl:v=_:=by simpa using c.jM
  rw[L.e2];exact⟨_,ZJ.mpr rfl,0,rfl,.inl rfl⟩
theorem k9:∀a∈r,a∈cE x e r:=λa ha=>by
 unfold cE;split
 ·have:a∈r.take (r.idxOf x+1)++r.drop (r.idxOf x+1):=by rw[aap];exact ha
  rw[Zv,Zs];rcases Zv.mp this with h|h
  ·exact .inl h
  ·exact .inr (.inr h)
 ·exact ha
theorem Ag(F:Flt n rows)(hn:0<n)(hs:s<2)(D:Dec rows.flatten (λu v=>Nx rows (bL u) v) fs)(hf:f∈fs)(zx:bL x∈f)(zy:bL y∈f)(hx:x∈rows.flatten)(hy:y∈rows.flatten) :
  Flt (n+1) ((rows.map (cE x (n,s))).map (cE (if x=y then (n,s) else y) (n,1-s))):=by
 have L:=F.bW.bL hs;have p1:=oS (e:=(n,s)) F.bW.nd hx;have vL:(rows.map (cE x (n,s))).flatten.Nodup:=p1.nodup_iff.mpr (ZT.mpr ⟨L.n1,F.bW.nd⟩);have y1:(if x=y then (n,s) else y)∈(rows.map (cE x (n,s))).flatten:=by
  rw[p1.mem_iff];split
  ·simp
  ·simp[hy]
 have e1:(n,1-s)∉(rows.map (cE x (n,s))).flatten:=by
  rw[p1.mem_iff,Zs];rintro(h|h)
  ·exact L.ne h.symm
  ·exact L.n2 h
 have p2:=oS (e:=(n,1-s)) vL y1;have pm:((rows.map (cE x (n,s))).map (cE (if x=y then (n,s) else y) (n,1-s))).flatten.Perm ((n,s)::(n,1-s)::rows.flatten):=(p2.trans (List.Perm.cons _ p1)).trans (List.Perm.swap _ _ _);have i1:=yw F.bW.nd hx L.n1;have i2:=yw vL y1 e1;have hS:∀a,a∈((rows.map (cE x (n,s))).map (cE (if x=y then (n,s) else y) (n,1-s))).flatten ↔ a∈[(n,s),(n,1-s)]\/a∈rows.flatten:=λa=>by rw[pm.mem_iff];simp[or_assoc]
 obtain⟨Yl,D0,h0⟩:=F.Lw hn;have cnt:fs.length+rows.length=n+2:=by rw[D.len D0 (λu v w=>uq F.bW.nd _ _ _)];exact h0
 refine⟨F.bW.more hs pm,λ_ q hq=>?_,λh=>absurd h (by omega),λk hk=>?_,λ_=>?_⟩
 ·rw[aaC] at hq;obtain⟨q0,U',rfl⟩:=ZD.mp hq
  have:=F.ne hn q0 U'
  cases q0 with
  |nil=>exact absurd rfl this
  |cons a q0=>exact aeS (k9 a (k9 a (by simp)))
 ·simp only[Zj] at hk;refine(F.con k hk).mono λi r hi=>⟨_,by rw[Zo,Zo,hi];rfl,λa ha=>k9 a (k9 a ha)⟩
 ·by_cases c:x=y
  ·rw[if_pos c] at i2 hS⊢;obtain⟨gs,hg,G⟩:=EN D L hx i1 i2 hS;exact⟨gs,G,by simp only[Zj];omega⟩
  ·rw[if_neg c] at i2 hS⊢;obtain⟨gs,hg,G⟩:=Ae D L hx hy c hf zx zy i1 i2 hS;exact⟨gs,G,by simp only[Zj];omega⟩
end cM
namespace cM
def eO(a b:En):Prop:=a.1<b.1\/(a.1=b.1/\a.2<b.2)
theorem ip(h:eO a b)(k:eO b a):False:=by unfold eO at h k;omega
theorem ql(h:eO a a):False:=by unfold eO at h;omega
theorem nh(a b:En):eO a b\/a=b\/eO b a:=by obtain⟨a1,a2⟩:=a;obtain⟨b1,b2⟩:=b;simp only[eO,adh];omega
def Hd(f g:List En):Prop:=∀a b,f.head?=some a->g.head?=some b->eO a b
structure jo(S:List En)(φ:En->En->Prop)(fs:List (List En)):Prop where
 dec:Dec S φ fs
 least:∀f∈fs,∀h x,f.head?=some h->x∈f->x=h\/eO h x
 rise:fs.Pairwise Hd
theorem vY(fn:Fn φ)(nf:f.Nodup)(ng:g.Nodup)(hf:∀u v,bh f u v->φ u v)(hg:∀u v,bh g u v->φ u v)(h1:f.head?=some h)(h2:g.head?=some h):f=g:=by
 have z1:f[0]?=some h:=by rw[<-aa4];exact h1
 have z2:g[0]?=some h:=by rw[<-aa4];exact h2
 refine aaU λi=>?_;induction i with
 |zero=>rw[z1,z2]
 |succ i ih=>
  cases e:f[i]? with
  |none =>rw[e] at ih;rw[aao (by have:=aaE.mp e;omega),aao (by have:=aaE.mp ih.symm;omega)]
  |some a=>
   rw[e] at ih;have lf:=(Zq.mp e).1;have lg:=(Zq.mp ih.symm).1;cases e1:f[i+1]? with
   |some b=>
    have c1:=hf a b ⟨i,e,.inl e1⟩;cases e2:g[i+1]? with
    |some c=>rw[fn a b c c1 (hg a c ⟨i,ih.symm,.inl e2⟩)]
    |none=>
     have:=aaE.mp e2
     obtain rfl:=fn a b h c1 (hg a h ⟨i,ih.symm,.inr ⟨by omega,z2⟩⟩);exact absurd (gY nf e1 z1) (by omega)
   |none=>
    have:=aaE.mp e1
    have c1:=hf a h ⟨i,e,.inr ⟨by omega,z1⟩⟩;cases e2:g[i+1]? with
    |none=>rfl
    |some c =>obtain rfl:=fn a h c c1 (hg a c ⟨i,ih.symm,.inl e2⟩);exact absurd (gY ng e2 z2) (by omega)
theorem rn{β:Type}{R:β->β->Prop}(as:∀a b,R a b->R b a->False):∀{l m:List β},l.Pairwise R->m.Pairwise R->(∀x,x∈l ↔ x∈m)->l=m
 |[],[],_,_,_=>rfl
 |[],b::m,_,_,h=>absurd ((h b).mpr (by simp)) (by simp)
 |a::l,[],_,_,h=>absurd ((h a).mp (by simp)) (by simp)
 |a::l,b::m,p,q,h=>by
  obtain⟨p1,p2⟩:=abn.mp p;obtain⟨q1,q2⟩:=abn.mp q;have irr:∀x,¬ R x x:=λx r=>as x x r r;obtain rfl:a=b:=by
   rcases Zs.mp ((h a).mp (by simp)) with e|e
   ·exact e
   ·rcases Zs.mp ((h b).mpr (by simp)) with e'|e'
    ·exact e'.symm
    ·exact(as a b (p1 b e') (q1 a e)).elim
  rw[rn as p2 q2 λx=>?_];constructor
  ·intro hx;rcases Zs.mp ((h x).mp (by simp[hx])) with e|e
   ·exact absurd (p1 x hx) (e▸irr _)
   ·exact e
  ·intro hx;rcases Zs.mp ((h x).mpr (by simp[hx])) with e|e
   ·exact absurd (q1 x hx) (e▸irr _)
   ·exact e
theorem kj(h:f≠[]):∃a,f.head?=some a/\a∈f:=by
 cases f with
 |nil=>exact absurd rfl h
 |cons a f=>exact⟨a,rfl,by simp⟩
theorem jo.mem(fn:Fn φ)(F:jo S φ fs)(G:jo S φ gs):∀f∈fs,f∈gs:=λf hf=>by
 obtain⟨a,ha,am⟩:=kj (F.dec.ne f hf);obtain⟨g,hg,ag⟩:=G.dec.at ((F.dec.mem a).mp (ZL.mpr ⟨f,hf,am⟩));obtain⟨b,hb,bm⟩:=kj (G.dec.ne g hg);have bf:=G.dec.sub F.dec fn hg hf ag am b bm;obtain rfl:a=b:=by
  rcases F.least f hf a b ha bf with h|h
  ·exact h.symm
  ·rcases G.least g hg b a hb ag with k|k
   ·exact k
   ·exact(ip h k).elim
 rw[vY fn (cc F.dec.nd f hf) (cc G.dec.nd g hg) (F.dec.eF f hf) (G.dec.eF g hg) ha hb];exact hg
theorem ES{φ:En->En->Prop}(fn:Fn φ)(F:jo S φ fs)(G:jo S φ gs):fs=gs:=by
 have ne:∀{fs:List (List En)},jo S φ fs->fs.Pairwise λf g=>Hd f g/\f≠[]/\g≠[]:=λF=>abB (λ{a b} ha hb h=>⟨h,F.dec.ne a ha,F.dec.ne b hb⟩) F.rise;refine rn (λa b ⟨h,n1,n2⟩ ⟨k,_,_⟩=>?_) (ne F) (ne G) λx=>⟨F.mem fn G x,G.mem fn F x⟩
 obtain⟨c,hc,_⟩:=kj n1;obtain⟨d,hd,_⟩:=kj n2;exact ip (h c d hc hd) (k d c hd hc)
theorem jo.to(F:jo S φ fs)(hS:∀e,e∈S ↔ e∈S')(h:∀u v,u∈S->φ u v->ψ u v):jo S' ψ fs:=⟨F.dec.to hS h,F.least,F.rise⟩
structure mR(S:List En)(φ:En->En->Prop)(done:List En)(fs:List (List En)):Prop where
 nd:fs.flatten.Nodup
 sub:∀e∈fs.flatten,e∈S
 ne:∀f∈fs,f≠[]
 eF:∀f∈fs,∀u v,bh f u v->φ u v
 dn:∀e∈done,e∈fs.flatten
 hd:∀f∈fs,∀h,f.head?=some h->h∈done
 least:∀f∈fs,∀h x,f.head?=some h->x∈f->x=h\/eO h x
 rise:fs.Pairwise Hd
theorem yy:mR S φ [] []:=⟨by simp,by simp,by simp,by simp,by simp,by simp,by simp,.nil⟩
theorem mR.skip(p:mR S φ done fs)(h:e∈fs.flatten):mR S φ (done++[e]) fs:=
 ⟨p.nd,p.sub,p.ne,p.eF,λa ha=>by
  rcases Zv.mp ha with ha|ha
  ·exact p.dn a ha
  ·obtain rfl:a=e:=by simpa using ha
   exact h,λf hf a ha=>ZN _ (p.hd f hf a ha),p.least,p.rise⟩
theorem mR.add(fn:Fn φ)(p:mR S φ done fs)(h:e∉fs.flatten)(hf:f.head?=some e)(nf:f.Nodup)(sf:∀a∈f,a∈S)(cf:∀u v,bh f u v->φ u v)
  (lt:∀a∈done,eO a e) (all:∀a∈S,eO a e->a∈done):mR S φ (done++[e]) (fs++[f]):=by
 have ef:e∈f:=acJ hf;have qg:∀a∈f,a∉fs.flatten:=λa ha hm=>by obtain⟨g,hg,ag⟩:=ZL.mp hm;refine h (ZL.mpr ⟨g,hg,tm (P:=(·∈g)) ha ag (λu v c hu=>?_) e ef⟩);obtain⟨w,hw⟩:=bh.ex hu;rw[fn u v w (cf u v c) (p.eF g hg u w hw)];exact hw.jM
 refine⟨?_,λa ha=>?_,λg hg=>?_,λg hg=>?_,λa ha=>?_,λg hg a ha=>?_,λg hg=>?_,?_⟩
 ·rw[aaF,ZP];exact⟨p.nd,by simpa using nf,λa ha b hb z=>qg b (by simpa using hb) (z▸ha)⟩
 ·rw[aaF,Zv] at ha;rcases ha with ha|ha
  ·exact p.sub a ha
  ·exact sf a (by simpa using ha)
 ·rcases Zv.mp hg with hg|hg
  ·exact p.ne g hg
  ·obtain rfl:g=f:=by simpa using hg
   exact aeS ef
 ·rcases Zv.mp hg with hg|hg
  ·exact p.eF g hg
  ·obtain rfl:g=f:=by simpa using hg
   exact cf
 ·rw[aaF,Zv];rcases Zv.mp ha with ha|ha
  ·exact .inl (p.dn a ha)
  ·obtain rfl:a=e:=by simpa using ha
   exact .inr (by simpa using ef)
 ·rcases Zv.mp hg with hg|hg
  ·exact ZN _ (p.hd g hg a ha)
  ·obtain rfl:g=f:=by simpa using hg
   rw[hf] at ha;cases ha;simp
 ·rcases Zv.mp hg with hg|hg
  ·exact p.least g hg
  ·obtain rfl:g=f:=by simpa using hg
   intro a x ha hx;rw[hf] at ha;cases ha;rcases nh x e with k|k|k
   ·exact absurd (p.dn x (all x (sf x hx) k)) (qg x hx)
   ·exact .inl k
   ·exact .inr k
 ·rw[aeq];refine⟨p.rise,by simp,λg hg k hk a b ha hb=>?_⟩;obtain rfl:k=f:=by simpa using hk
  rw[hf] at hb;cases hb;exact lt a (p.hd g hg a ha)
theorem mR.fin(p:mR S φ done fs)(h:∀e∈S,e∈done):jo S φ fs:=
 ⟨⟨p.nd,λe=>⟨p.sub e,λhe=>p.dn e (h e he)⟩,p.ne,p.eF⟩,p.least,p.rise⟩
structure Wk(S:List En)(φ:En->En->Prop)(e:En)(f:List En)(v:En):Prop where
 hd:f.head?=some e
 nd:f.Nodup
 sub:∀a∈f,a∈S
 Lx:∀(i:Nat) a b,f[i]?=some a->f[i+1]?=some b->φ a b
 last:∀a,f.getLast?=some a->φ a v
def Inj(φ:En->En->Prop):Prop:=∀u w v,φ u v->φ w v->u=w
theorem Wk.eF(w:Wk S φ e f e):∀u v,bh f u v->φ u v:=by
 rintro u v ⟨i,hi,h|⟨l,h⟩⟩
 ·exact w.Lx i u v hi h
 ·rw[<-aa4,w.hd] at h;cases h;refine w.last u ?_;rw[ab5,<-l];exact hi
theorem Wk.more(ij:Inj φ)(w:Wk S φ e f v)(ne:v≠e)(hv:v∈S)(h:φ v v'):Wk S φ e (f++[v]) v':=by
 have fne:f≠[]:=λz=>by rw[z] at w;exact nomatch w.hd
 have nv:v∉f:=λhm=>by
  obtain⟨i,hi,rfl⟩:=acW.mp hm;cases i with
  |zero=>
   have:=w.hd
   rw[aa4,Zk hi] at this;exact ne (ZH this)
  |succ i=>
   have l:f.getLast?=some (f[f.length-1]'(by omega)):=by rw[ab5];exact Zk _
   have a:=w.Lx i f[i] _ (Zk _) (Zk hi)
   have:=ij _ _ _ a (w.last _ l)
   have:=gY w.nd (i:=i) (j:=f.length-1) (Zk (by omega)) (by rw[this];exact Zk _)
   omega
 refine⟨by rw[ae5,w.hd];rfl,?_,λa ha=>?_,λi a b ha hb=>?_,λa ha=>?_⟩
 ·rw[ZP];exact⟨w.nd,by simp,λa ha b hb z=>nv ((show b=v by simpa using hb)▸z▸ha)⟩
 ·rcases Zv.mp ha with ha|ha
  ·exact w.sub a ha
  ·obtain rfl:a=v:=by simpa using ha
   exact hv
 ·by_cases c:i+1<f.length
  ·rw[ZZ (by omega)] at ha hb;exact w.Lx i a b ha hb
  ·have:=(Zq.mp hb).1
   simp at this;have e1:i+1=f.length:=by omega
   rw[ZZ (by omega)] at ha;rw[e1,aal (Zn _)] at hb;obtain rfl:v=b:=by simpa using hb
   refine w.last a ?_;rw[ab5,<-e1];exact ha
 ·obtain rfl:v=a:=by simpa using ha
  exact h
theorem Ci(he:e∈S)(h:φ e v):Wk S φ e [e] v:=
 ⟨rfl,by simp,λa ha=>(show a=e by simpa using ha)▸he,λi a b _ hb=>(nomatch (show([]:List En)[i]?=some b from hb)),λa ha=>(show e=a by simpa using ha)▸h⟩
end cM
namespace cM
theorem bh.inj(nd:r.Nodup)(h:bh r u v)(k:bh r w v):u=w:=by
 obtain⟨i,hi,h⟩:=h;obtain⟨j,hj,k⟩:=k
 have:i=j:=by
  rcases h with h|⟨l,h⟩<;>rcases k with k|⟨l',k⟩
  ·have:=gY nd h k;omega
  ·have:=gY nd h k;omega
  ·have:=gY nd h k;omega
  ·omega
 subst this;exact ZH (hi.symm.trans hj)
theorem Ly(nd:rows.flatten.Nodup)(h:Nx rows u v)(k:Nx rows w v):u=w:=by obtain⟨r,hr,c⟩:=h;obtain⟨r',hr',c'⟩:=k;obtain rfl:=eG nd hr hr' c.jM c'.jM;exact c.inj (cc nd _ hr) c'
theorem Oi(h:u∈rows.flatten):∃v,Nx rows u v/\v∈rows.flatten:=by obtain⟨r,hr,hu⟩:=ZL.mp h;obtain⟨v,c⟩:=bh.ex hu;exact⟨v,⟨r,hr,c⟩,ZL.mpr ⟨r,hr,c.jM⟩⟩
def Ph(rows:List (List En))(u v:En):Prop:=u.2<2/\Nx rows (bL u) v
theorem qm(nd:rows.flatten.Nodup):Fn (Ph rows):=λ_ _ _ h k=>uq nd _ _ _ h.2 k.2
theorem yz(h1:u.2<2)(h2:w.2<2)(h:bL u=bL w):u=w:=by rw[<-iN h1,h,iN h2]
theorem Cj(nd:rows.flatten.Nodup):Inj (Ph rows):=λ_ _ _ h k=>yz h.1 k.1 (Ly nd h.2 k.2)
theorem cW.iO(R:cW n rows)(h:u∈rows.flatten):cM.bL u∈rows.flatten:=(R.mem _).mpr ⟨((R.mem u).mp h).1,by show 1-u.2<2;omega⟩
theorem cW.ph(R:cW n rows)(h:u∈rows.flatten):∃v,Ph rows u v/\v∈rows.flatten:=by obtain⟨v,a,b⟩:=Oi (R.iO h);exact⟨v,⟨((R.mem u).mp h).2,a⟩,b⟩
structure Tn(n:Nat)(rows:List (List En)):Prop where
 bW:cW n rows
 ne:0<n->∀r∈rows,r≠[]
 cnt:∀fs,0<n->Dec rows.flatten (Ph rows) fs->fs.length+rows.length=n+2
theorem Flt.tn(F:Flt n rows):Tn n rows:=⟨F.bW,F.ne,λfs hn G=>by obtain⟨gs,D,h⟩:=F.Lw hn;rw[G.len (D.to (λ_=>aeU) λu v hu k=>⟨((F.bW.mem u).mp hu).2,k⟩) (qm F.bW.nd)];exact h⟩
def iH(r r':List En):Prop:=r.Perm r'/\∀u v,bh r u v ↔ bh r' u v
def cO:List (List En)->List (List En)->Prop
 |[],[]=>True
 |r::rs,r'::cX=>iH r r'/\cO rs cX
 |_,_=>False
theorem tx(r:List En)(i:Nat):iH r (r.drop i++r.take i):=by
 have e:=aap i r;refine⟨?_,λu v=>?_⟩
 ·exact(acX e.symm).trans abd
 ·rw[<-oQ,e]
theorem cO.perm:∀{rs cX:List (List En)},cO rs cX->rs.flatten.Perm cX.flatten
 |[],[],_=>.nil
 |r::rs,r'::cX,h=>by rw[aaf,aaf];exact adD h.1.1 (cO.perm h.2)
theorem cO.len:∀{rs cX:List (List En)},cO rs cX->rs.length=cX.length
 |[],[],_=>rfl
 |r::rs,r'::cX,h=>by simp[cO.len h.2]
theorem cO.nx:∀{rs cX:List (List En)},cO rs cX->∀u v,Nx rs u v ↔ Nx cX u v
 |[],[],_,u,v=>aeU
 |r::rs,r'::cX,h,u,v=>by
  have ih:=cO.nx h.2 u v;constructor
  ·rintro⟨q,hq,c⟩;rcases Zs.mp hq with rfl|hq
   ·exact⟨r',by simp,(h.1.2 u v).mp c⟩
   ·obtain⟨q',a,b⟩:=ih.mp ⟨q,hq,c⟩;exact⟨q',by simp[a],b⟩
  ·rintro⟨q,hq,c⟩;rcases Zs.mp hq with rfl|hq
   ·exact⟨r,by simp,(h.1.2 u v).mpr c⟩
   ·obtain⟨q',a,b⟩:=ih.mpr ⟨q,hq,c⟩;exact⟨q',by simp[a],b⟩
theorem cO.ne:∀{rs cX:List (List En)},cO rs cX->(∀r∈rs,r≠[])->∀r∈cX,r≠[]
 |[],[],_,_,q,hq=>nomatch hq
 |r::rs,r'::cX,h,k,q,hq=>by
  rcases Zs.mp hq with rfl|hq
  ·intro z;subst z;exact k r (by simp) h.1.1.eq_nil
  ·exact cO.ne h.2 (λr hr=>k r (by simp[hr])) q hq
theorem cO.ph(s:cO rs cX)(u v:En):Ph rs u v ↔ Ph cX u v:=and_congr_right λ_=>s.nx _ _
theorem Tn.sim(T:Tn n rows)(s:cO rows aV):Tn n aV:=
 ⟨⟨s.perm.nodup_iff.mp T.bW.nd,λe=>s.perm.mem_iff.symm.trans (T.bW.mem e)⟩,λh=>s.ne (T.ne h),λfs hn G=>by rw[<-s.len];exact T.cnt fs hn (G.to (λe=>s.perm.mem_iff.symm) λu v _ h=>(s.ph u v).mpr h)⟩
theorem Tn.perm(T:Tn n rows)(p:rows.Perm aV):Tn n aV:=by
 have pf:rows.flatten.Perm aV.flatten:=p.flatten;have nx:∀u v,Nx rows u v ↔ Nx aV u v:=λu v=>⟨λ⟨r,hr,c⟩=>⟨r,p.mem_iff.mp hr,c⟩,λ⟨r,hr,c⟩=>⟨r,p.mem_iff.mpr hr,c⟩⟩
 exact⟨⟨pf.nodup_iff.mp T.bW.nd,λe=>pf.mem_iff.symm.trans (T.bW.mem e)⟩,λh r hr=>T.ne h r (p.mem_iff.mpr hr),λfs hn G=>by rw[<-p.length_eq];exact T.cnt fs hn (G.to (λe=>pf.mem_iff.symm) λu v _ h=>⟨h.1,(nx _ _).mpr h.2⟩)⟩
theorem yA{r:List En}{u v:En}(h:bh r u v):bh r.reverse v u:=by
 rcases gj.mp h with⟨A,B,rfl⟩|⟨A,rfl,h1⟩
 ·rw[show(A++u::v::B).reverse=B.reverse++v::u::A.reverse by simp];exact dH
 ·cases A with
  |nil=>
   obtain rfl:u=v:=by simpa using h1
   exact k8
  |cons a A=>
   obtain rfl:a=v:=by simpa using h1
   rw[show(a::A++[u]).reverse=(u::A.reverse)++[a] by simp];exact iL rfl
theorem IM(g:En->En)(h:bh (r.map g) u v):∃a b,u=g a/\v=g b/\bh r a b:=by
 obtain⟨i,hi,h⟩:=h;rw[Zo,Zp] at hi;obtain⟨a,ha,rfl⟩:=hi;rcases h with h|⟨l,h⟩
 ·rw[Zo,Zp] at h;obtain⟨b,hb,rfl⟩:=h;exact⟨a,b,rfl,rfl,i,ha,.inl hb⟩
 ·rw[Zo,Zp] at h;obtain⟨b,hb,rfl⟩:=h;exact⟨a,b,rfl,rfl,i,ha,.inr ⟨by simpa using l,hb⟩⟩
theorem Dec.ET{g:List (List En)}(f:En->En):(g.map λc=>(c.map f).reverse).flatten.Perm (g.flatten.map f):=by
 induction g with
 |nil=>exact .nil
 |cons c g ih =>rw[ZI,aaf,aaf,ZU];exact adD (ado _) ih
theorem oU(rows:List (List En)):(rows.map List.reverse).flatten.Perm rows.flatten:=by
 induction rows with
 |nil=>exact .nil
 |cons c g ih =>rw[ZI,aaf,aaf];exact adD (ado _) ih
theorem rev_rev(rows:List (List En)):(rows.map List.reverse).map List.reverse=rows:=(aaC ..).trans ((aeB (g:=id) λr _=>aer r).trans (af' rows))
theorem Lz(h:Nx rows u v):Nx (rows.map List.reverse) v u:=let ⟨r,hr,c⟩:=h;⟨r.reverse,ZD.mpr ⟨r,hr,rfl⟩,yA c⟩
theorem cW.rev(R:cW n rows):cW n (rows.map List.reverse):=⟨(oU rows).nodup_iff.mpr R.nd,λe=>(oU rows).mem_iff.trans (R.mem e)⟩
theorem IP{n:Nat}{rows:List (List En)}(R:cW n rows){fs:List (List En)}(F:Dec rows.flatten (Ph rows) fs):Dec (rows.map List.reverse).flatten (Ph (rows.map List.reverse)) (fs.map λc=>(c.map bL).reverse):=by
 have two:∀a∈fs.flatten,a.2<2:=λa ha=>((R.mem a).mp ((F.mem a).mp ha)).2;have pm:=Dec.ET (g:=fs) bL;refine⟨pm.nodup_iff.mpr (aa0.mpr (abB (λ{a b} ha hb ne e=>ne (yz (two a ha) (two b hb) e)) F.nd)),λe=>?_,λg hg=>?_,λg hg u v c=>?_⟩
 ·rw[pm.mem_iff,(oU rows).mem_iff,ZD];constructor
  ·rintro⟨a,ha,rfl⟩;exact R.iO ((F.mem a).mp ha)
  ·intro he;exact⟨bL e,(F.mem _).mpr (R.iO he),iN ((R.mem e).mp he).2⟩
 ·obtain⟨c,hc,rfl⟩:=ZD.mp hg
  have:=F.ne c hc
  simpa using this
 ·obtain⟨c',hc,rfl⟩:=ZD.mp hg;have c2:=yA c;rw[aer] at c2;obtain⟨a,b,rfl,rfl,c3⟩:=IM bL c2;have ph:=F.eF c' hc a b c3;have b2:b.2<2:=two b (ZL.mpr ⟨c',hc,c3.jM⟩);refine⟨by show 1-b.2<2;omega,?_⟩;rw[iN b2];exact Lz ph.2
theorem Tn.rev(T:Tn n rows):Tn n (rows.map List.reverse):=
 ⟨T.bW.rev,λh r hr=>by
  obtain⟨q,hq,rfl⟩:=ZD.mp hr;simpa using T.ne h q hq,λfs hn G=>by
  have D:=IP T.bW.rev G;rw[rev_rev] at D
  have:=T.cnt _ hn D
  simpa using this⟩
end cM
namespace L2
open PySem PySem.Spec PyProof.Rows
section
theorem Ck(hl:s.heap.IsList l items)
  (h:∀s₂:Shared,s₂={s with heap:=s.heap.push {cls:=.type "list_iterator",data:=.fields #[.ref l,.int 0 0]} } ->
   (s₂.heap.IsListIter s.heap.objs.size l 0/\s₂.heap.IsList l items)->(∀b∈[s.heap.objs.size,l],b<s₂.heap.objs.size)->l≠s.heap.objs.size->Q (.ref s.heap.objs.size) s₂) :
  wpAny (model prog w) A (pyIter (.ref l)) Q E s:=by
 have hlt:@LT.lt Nat _ l s.heap.objs.size:=by obtain⟨_,e,_⟩:=hl;exact Zx e
 refine wpAny_pyIter_list hl (h _ rfl ⟨⟨_,Zw _ rfl,rfl,rfl⟩,hl.push _⟩ (λb hb=>?_) (ZQ hlt));show @LT.lt Nat _ b (s.heap.push _).objs.size
 rw[Z'];rcases Zs.mp hb with rfl|hb
 ·exact aav _
 ·rcases Zs.mp hb with rfl|hb
  ·exact abj hlt
  ·cases hb
end
theorem EU(h:Vals xs us):Vals xs.reverse us.reverse:=by
 induction h with
 |nil=>exact .nil
 |cons r t ih=>rw[acp,acp];exact ih.append (.cons r .nil)
def GX(K:PySem.W.Frag)(te:TE)(t3:TO):TE:=λσ H Q=>te σ H λx H1=>t3 σ H1 λo H2=>∃a xs,o=some (-1)/\x=.ref a/\aq K H2 a xs/\∀p,H2 p=none->Q (.ref p) (upd H2 p (.lst xs.reverse))
section
theorem IQ{e st:Expr}{t3:TO}{p2 pos:Pos}(he:PE X e te)(hs:PO X (some st) t3)(ji:∀a b,∃ops,subscripted (.Slice none none (some st) p2) false a b=operate ops (getItem a b):=by intro a b;exact⟨_,rfl⟩):PE X (.Subscript e (.Slice none none (some st) p2) pos) (GX X.K te t3):=by
 intro pins s σ H Q I h;refine aen (aH (he pins s σ H _ I h) λv s1 ⟨x,H1,I1,r1,q1⟩=>?_);refine wpAny_Slice ?_;rw[aev];refine wpAny_pure (wpAny_pure (aH (hs pins s1 σ H1 _ I1 q1) λvs s2 ⟨o,H2,I2,pl,q2⟩=>?_));obtain⟨a,xs,rfl,rfl,hx,q⟩:=q2;cases r1;have I3:Inv X pins σ H2 {s2 with heap:=s2.heap.push {cls:=.type "slice",data:=.fields #[.none,.none,vs]} }:=I2.kept (t':=s2.toks) λb ob q=>Zl _ q;obtain⟨its,r,ht,hz⟩:=I3.list hx;have hlen:=r.length;show wpAny (model X.prog X.w) X.A (subscriptTail e (.Slice none none (some st) p2) (.ref a) (.ref s2.heap.objs.size)) (EP X pins σ Q) X.xe {s2 with heap:=s2.heap.push {cls:=.type "slice",data:=.fields #[.none,.none,vs]} }
 obtain⟨ops,eo⟩:=ji (.ref a) (.ref s2.heap.objs.size);refine af1 (ops:=ops) ht.isList.typeIs slot_list_getitem.lookup ?_ eo;refine ady ht.isList (aeM ..) .none .none pl (by simp) ?_ (by rw[Zt]<;>omega);rw[PySem.W.krv_pick];refine⟨.ref _,_,I3.laid (t':=s2.toks) (o:=.lst xs.reverse) (λb ob q=>Zl _ q) (Zn _) ?_,rfl,q _ (I3.aL.fresh (Zn _))⟩;exact⟨by rw[List.length_reverse];exact hz,_,0,EU r,Zw _ rfl⟩
end
theorem qo{α:Type}{lt:α->α->Prop}[DecidableRel lt](tr:∀{a b c:α},lt a b->lt b c->lt a c)(irr:∀a,¬ lt a a)(val:Nat->α):∀n i,i<=n->¬ lt (val i) (val (argBest (λi j=>decide (lt (val i) (val j))) n))
 |0,i,h=>by
  have:i=0:=by omega
  subst this;show ¬ lt (val 0) (val (argBest _ 0))
  unfold argBest;exact irr _
 |n+1,i,h=>by
  have ih:=qo (lt:=lt) tr irr val n;unfold argBest;generalize hb:argBest (λi j=>decide (lt (val i) (val j))) n=b at ih⊢;by_cases c:lt (val (n+1)) (val b)
  ·rw[if_pos (decide_eq_true c)];rcases aa3 n i with q|q
   ·have:i=n+1:=by omega
    rw[this];exact irr _
   ·exact λz=>ih i q (tr z c)
  ·rw[if_neg (by simp[c])];rcases aa3 n i with q|q
   ·have:i=n+1:=by omega
    rw[this];exact c
   ·exact ih i q
end L2
namespace L9
open PySem PySem.Spec PyProof.Rows L2
section
variable {prog:Program}{w:World}{A:Around}{R:Result->Shared->Prop}{I:Addr}{fp wr:List Addr}{n:Nat}{P:Nat->Value->Prop}{St:Nat->Heap->Prop}{Ok:Heap->Prop}
theorem Cm(W:Walks prog w A.in1 I fp wr n P St)(bt:Nat->Nat->Bool)(S:Addr)(hSf:S∉fp)(ok:∀h h':Heap,Ok h->(∀b o,b∉wr->b≠S->h.get? b=some o->h'.get? b=some o)->Ok h')
  (cmp:∀i j vi vj (s:Shared) (Q:Value->Shared->Prop) (E:Value->Shared->Prop),Ok s.heap->P i vi->P j vj->Q (.bool (bt i j)) s->wpAny (model prog w) A.in1 (richCompare .Lt vi vj) Q E s) :
  ∀(k j:Nat) (s:Shared) (vb:Value) (c:Nat),n-(j+1)=k->j+1<=n->St (j+1) s.heap->Ok s.heap->P (argBest bt j) vb->s.heap.get? S=some {cls:=.type "list",dict:=none,data:=.seq #[vb,vb] c,slots:=#[]} ->
  (∀v h' tk,P (argBest bt (n-1)) v->(∀b o,b∉wr->b≠S->s.heap.get? b=some o->h'.get? b=some o)->R (.ok (.ret v)) {s with heap:=h',toks:=tk})->codeAny (model prog w) A (.builtin "min.loop" ⟨[.ref I,.none,.ref S],[]⟩) R s:=by
 have nS:S∉wr:=λh=>hSf (W.sub _ h);have nm:(toString "min" ++ toString ".loop" : String)="min.loop" := by decide
 intro k;induction k with
 |zero=>
  intro j s vb c hk hj st o hP hS hR;have e:j+1=n:=by omega
  refine codeAny_builtin acw ?_;rw[aaQ aaS _];show wpAny _ A.in1 (seqItems? (.ref S)>>=λ_=>_) _ _ s
  refine wpAny_bind (wpAny_seqItems hS rfl ?_);show wpAny _ A.in1 (tryCatch (pyNext (.ref I)) _>>=λ_=>_) _ _ s
  refine wpAny_bind (wpAny_tryCatch (W.done s _ _ (e▸st) λh' tk k'=>?_));show wpAny _ A.in1 (updateSeq S (λ_=>#[])>>=λ_=>_) _ _ _
  refine wpAny_bind (wpAny_updateSeq (k' S _ nS hS) rfl (wpAny_bind (wpAny_letGo (wpAny_pure ?_))));exact hR vb _ tk (by rw[<-e];exact hP) λb ob b1 b2 z=>(Z3 _ _ (Z0 b2)).trans (k' b ob b1 z)
 |succ k ih=>
  intro j s vb c hk hj st o hP hS hR;refine codeAny_builtin acw ?_;rw[aaQ aaS _];show wpAny _ A.in1 (seqItems? (.ref S)>>=λ_=>_) _ _ s
  refine wpAny_bind (wpAny_seqItems hS rfl ?_);show wpAny _ A.in1 (tryCatch (pyNext (.ref I)) _>>=λ_=>_) _ _ s
  refine wpAny_bind (wpAny_tryCatch (W.item (j+1) s _ _ (by omega) st λv h' tk hv cV k'=>?_));have S':=k' S _ nS hS;have o':Ok h':=ok _ _ o λb ob b1 _ z=>k' b ob b1 z;show wpAny _ A.in1 (tryCatch (holding [v,v] (richCompare .Lt v vb>>=λ_=>_)) _>>=λ_=>_) _ _ _
  refine wpAny_bind (wpAny_tryCatch (wpAny_holding (wpAny_bind (cmp (j+1) (argBest bt j) v vb {s with heap:=h',toks:=tk} _ _ o' hv hP (wpAny_bind (wpAny_holding (wpAny_truthy_bool (wpAny_bind (wpAny_letGo (wpAny_pure ?_))))))))));cases hb:bt (j+1) (argBest bt j) with
  |true =>simp only[Z7];refine wpAny_bind (wpAny_updateSeq S' rfl (wpAny_bind (wpAny_letGo ?_)));rw[nm];refine wpAny_pure ⟨abt aaS _,ih (j+1) _ v _ (by omega) (by omega) (W.frame _ _ _ cV λb hf ob z=>(Z3 _ _ (λh:S=b=>hSf (h▸hf))).trans z) (ok _ _ o' λb ob _ b2 z=>(Z3 _ _ (Z0 b2)).trans z) (by simp only[argBest,hb,Z7];exact hv) (aad _ S' rfl) λv' g Co p2 k2=>?_⟩;exact hR v' g Co p2 λb ob b1 b2 z=>k2 b ob b1 b2 ((Z3 _ _ (Z0 b2)).trans (k' b ob b1 z))
  |false =>simp only[ZR,aam];refine wpAny_bind (wpAny_letGo ?_);rw[nm];refine wpAny_pure ⟨abt aaS _,ih (j+1) _ vb c (by omega) (by omega) cV o' (by simp only[argBest,hb,ZR,aam];exact hP) S' λv' g Co p2 k2=>?_⟩;exact hR v' g Co p2 λb ob b1 b2 z=>k2 b ob b1 b2 (k' b ob b1 z)
theorem Ah(W:Walks prog w A.in1 I fp wr n P St)(bt:Nat->Nat->Bool)(S:Addr)(hSf:S∉fp)(ok:∀h h':Heap,Ok h->(∀b o,b∉wr->b≠S->h.get? b=some o->h'.get? b=some o)->Ok h')
  (cmp:∀i j vi vj (s:Shared) (Q:Value->Shared->Prop) (E:Value->Shared->Prop),Ok s.heap->P i vi->P j vj->Q (.bool (bt i j)) s->wpAny (model prog w) A.in1 (richCompare .Lt vi vj) Q E s) (hn:0<n) {s:Shared} {c:Nat} (st:St 0 s.heap) (o:Ok s.heap)
  (hS:s.heap.get? S=some {cls:=.type "list",dict:=none,data:=.seq #[] c,slots:=#[]})
  (hR:∀v h' tk,P (argBest bt (n-1)) v->(∀b o,b∉wr->b≠S->s.heap.get? b=some o->h'.get? b=some o)->R (.ok (.ret v)) {s with heap:=h',toks:=tk}):codeAny (model prog w) A (.builtin "min.loop" ⟨[.ref I,.none,.ref S],[]⟩) R s:=by
 have nS:S∉wr:=λh=>hSf (W.sub _ h);have nm:(toString "min" ++ toString ".loop" : String)="min.loop" := by decide
 refine codeAny_builtin acw ?_;rw[aaQ aaS _];show wpAny _ A.in1 (seqItems? (.ref S)>>=λ_=>_) _ _ s
 refine wpAny_bind (wpAny_seqItems hS rfl ?_);show wpAny _ A.in1 (tryCatch (pyNext (.ref I)) _>>=λ_=>_) _ _ s
 refine wpAny_bind (wpAny_tryCatch (W.item 0 s _ _ hn st λv h' tk hv cV k'=>?_));have S':=k' S _ nS hS;show wpAny _ A.in1 (updateSeq S (λ_=>#[v,v])>>=λ_=>_) _ _ _
 refine wpAny_bind (wpAny_updateSeq S' rfl ?_);rw[nm];refine wpAny_pure ⟨abt aaS _,Cm W bt S hSf ok cmp _ 0 _ v _ rfl hn (W.frame _ _ _ cV λb hf ob z=>(Z3 _ _ (λh:S=b=>hSf (h▸hf))).trans z) (ok _ _ o λb ob b1 b2 z=>(Z3 _ _ (Z0 b2)).trans (k' b ob b1 z)) hv (aad _ S' rfl) λv' g Co p2 k2=>?_⟩;exact hR v' g Co p2 λb ob b1 b2 z=>k2 b ob b1 b2 ((Z3 _ _ (Z0 b2)).trans (k' b ob b1 z))
end
end L9
namespace L2
open PySem PySem.Spec PyProof.Rows
def yB(K:PySem.W.Frag)(a b:Addr):It:=
 ⟨λi H=>∃xs x ys y,aq K H a xs/\xs[i]?=some x/\aq K H b ys/\ys[i]?=some y,λi H v H'=>∃q x y,H q=none/\(∀xs,aq K H a xs->xs[i]?=some x)/\(∀ys,aq K H b ys->ys[i]?=some y)/\v=.ref q/\H'=upd H q (.tup [x,y]),
 λi H=>∃xs ys,aq K H a xs/\aq K H b ys/\(xs.length<=i\/ys.length<=i)⟩
theorem EV{P:Program}{w:World}{K:PySem.W.Frag}{elts:List Expr}{x1}{tp:Pos}(a b z TI TO i1 i2:Addr)(D:ZipApart z TI TO i1 i2 a b) :
  Turn P w K (.Tuple elts x1 tp) (yB K a b) [z,TO,i1,i2,TI] z (λi h=>IsZip h z TI TO .none/\IsPair h TI (.ref i1) (.ref i2)/\(∃u v,IsPair h TO u v)/\h.IsListIter i1 a i/\h.IsListIter i2 b i) where
 mem:=by simp
 obj:=λi h st c hc=>by
  obtain⟨hz,hTI,⟨u,v,hTO⟩,⟨o1,g1,_,d1⟩,o2,g2,_,d2⟩:=st;simp only[Zs,aay,or_false] at hc;rcases hc with rfl|rfl|rfl|rfl|rfl
  ·exact⟨_,hz,λv z=>nomatch z⟩
  ·exact⟨_,hTO,λv z=>nomatch z⟩
  ·exact⟨o1,g1,λv z=>by rw[d1] at z;cases z⟩
  ·exact⟨o2,g2,λv z=>by rw[d2] at z;cases z⟩
  ·exact⟨_,hTI,λv z=>nomatch z⟩
 keep:=λi h h' st k=>by obtain⟨hz,hTI,⟨u,v,hTO⟩,h1,h2⟩:=st;exact⟨k z (by simp) _ hz,k TI (by simp) _ hTI,⟨u,v,k TO (by simp) _ hTO⟩,h1.at λo q=>k i1 (by simp) o q,h2.at λo q=>k i2 (by simp) o q⟩
 item:=by
  intro X hP hw hK hc i pins s σ H E I hf st hg;subst hP hw hK;obtain⟨hz,hTI,⟨u0,v0,hTO⟩,h1,h2⟩:=st;obtain⟨xs,x,ys,y,hq,hx,hr,hy⟩:=hg;obtain⟨its,rv,p,_⟩:=I.list hq;obtain⟨gw,Cp,p2,_⟩:=I.list hr;obtain⟨u,hu,ru⟩:=rv.get hx;obtain⟨v,hv,LA⟩:=Cp.get hy;have f1:=hf z (by simp);have f2:=hf TO (by simp);have f3:=hf i1 (by simp);have f4:=hf i2 (by simp);have f5:=hf TI (by simp);refine wpAny_pyNext_zip_item D hz hTI hTO h1 h2 p.isList p2.isList (x:=u) (y:=v) (by simpa using hu) (by simpa using hv) λh' a1 a2 a3 a4 a5 a6 k1=>⟨_,rfl,?_⟩
  refine adu a1 λmS e2 sb=>?_;have nq:∀{b:Addr} {o:Obj},s.heap.get? b=some o->b≠s.heap.objs.size:=λ{b o} q=>ZQ (Zx q);have nz:=nq hz;have LB:=nq hTO;have LC:=nq hTI;have n1:i1≠s.heap.objs.size:=let ⟨o,q,_⟩:=h1;nq q
  have n2:i2≠s.heap.objs.size:=let ⟨o,q,_⟩:=h2;nq q
  have hn:H s.heap.objs.size=none:=I.aL.fresh (Zn _);have kk:∀c o,c≠z->c≠TO->c≠i1->c≠i2->s.heap.get? c=some o->mS.get? c=some o:=λc o c1 c2 c3 c4 q=>sb.extBut _ _ c1 (k1 c o c1 c2 c3 c4 q);have tq:mS.get? s.heap.objs.size=some {cls:=.type "tuple",data:=.seq #[u,v]}:=sb.extBut _ _ (Z0 nz) a5;have hH:∀c o,H c=some o->c≠z/\c≠TO/\c≠i1/\c≠i2/\c≠s.heap.objs.size:=λc o q=>⟨aw q f1.1,aw q f2.1,aw q f3.1,aw q f4.1,aw q hn⟩
  refine⟨.ref s.heap.objs.size,upd H s.heap.objs.size (.tup [x,y]),?_,rfl,⟨_,x,y,hn,λzs iC=>by rw[I.kH iC hq];exact hx,λzs iC=>by rw[I.kH iC hr];exact hy,rfl,rfl⟩,
   ⟨e2,sb.extBut _ _ D.TIz (k1 _ _ D.TIz D.TITO D.TIi1 D.TIi2 hTI),⟨_,_,sb.extBut _ _ D.TOz a2⟩,a3.extBut sb.extBut D.i1z,a4.extBut sb.extBut D.i2z⟩,λb hb=>?_⟩
  ·refine Inv.mV (ch:=[z,TO,i1,i2]) I (s':={s with heap:=mS}) rfl ⟨λb ob q n hb hx=>?_,λb ob q n hb hx=>?_,λb ob q n hx=>?_,λb ob q hx=>?_,λb ys q=>?_,λb ob ys q=>?_,λb ps q=>⟨#[],?_⟩⟩ ?_ I.bare λb hb=>?_
   ·exact kk b ob (λz=>hx (by simp[z])) (λz=>hx (by simp[z])) (λz=>hx (by simp[z])) (λz=>hx (by simp[z])) q
   ·exact⟨ob.slots,kk b ob (λz=>hx (by simp[z])) (λz=>hx (by simp[z])) (λz=>hx (by simp[z])) (λz=>hx (by simp[z])) q⟩
   ·rw[ak (nq q)];exact n
   ·exact⟨ob,kk b ob (λz=>hx (by simp[z])) (λz=>hx (by simp[z])) (λz=>hx (by simp[z])) (λz=>hx (by simp[z])) q⟩
   ·rw[ak (hH _ _ q).2.2.2.2];exact q
   ·rw[ak (hH _ _ q).2.2.2.2];exact q
   ·rw[ak (hH _ _ q).2.2.2.2,q];simp
   ·intro b ob q;by_cases hb:b=s.heap.objs.size
    ·subst hb;rw[ai] at q;cases q;exact⟨by show 2<=sizeLine;decide,[u,v],.cons ru (.cons LA .nil),⟨_,tq,rfl,0,rfl⟩⟩
    ·rw[ak hb] at q;refine(I.aL b ob q).iw (λc v hc g=>?_) (λc g=>?_) λc ys g=>?_
     ·have dA:c≠z/\c≠TO/\c≠i1/\c≠i2/\c≠s.heap.objs.size:=by
       rcases hc with z|z
       ·rw[z];exact hH _ _ q
       ·exact hH _ _ z
      exact kk c v dA.1 dA.2.1 dA.2.2.1 dA.2.2.2.1 g
     ·rw[ak (hH _ _ g).2.2.2.2];exact g
     ·rw[ak (hH _ _ g).2.2.2.2];exact g
   ·have:b∈([z,TO,i1,i2,TI]:List Addr):=by simp only[Zs,aay,or_false] at hb⊢;exact(hb.elim .inl λh=>.inr (h.elim .inl λh=>.inr (h.elim .inl λh=>.inr (.inl h))))
    have f:=hf b this;exact⟨f.2.2.2.1,f.2.1,f.2.2.2.2.1,f.2.2.2.2.2⟩
  ·have lt:b≠s.heap.objs.size:=by
    simp only[Zs,aay,or_false] at hb;rcases hb with rfl|rfl|rfl|rfl|rfl
    ·exact nz
    ·exact LB
    ·exact n1
    ·exact n2
    ·exact LC
   rw[ak lt];exact(hf b hb).1
 done:=by
  intro X hP hw hK hc i pins s σ H E I hf st hg;subst hP hw hK;obtain⟨hz,hTI,⟨u0,v0,hTO⟩,h1,h2⟩:=st;obtain⟨xs,ys,hq,hr,hx⟩:=hg;obtain⟨its,rv,p,_⟩:=I.list hq;obtain⟨gw,Cp,p2,_⟩:=I.list hr;have hl:=rv.length;have hl2:=Cp.length;refine wpAny_pyNext_zip_end (I.ok.hd hc) D hz hTI hTO h1 h2 p.isList p2.isList (hx.imp (λh=>by simp;omega) λh=>by simp;omega) λh' k=>⟨rfl,?_⟩
  have hH:∀c o,H c=some o->c≠z/\c≠TO/\c≠i1/\c≠i2:=λc o q=>⟨aw q (hf z (by simp)).1,aw q (hf TO (by simp)).1,aw q (hf i1 (by simp)).1,aw q (hf i2 (by simp)).1⟩
  refine Inv.mV (ch:=[z,TO,i1,i2]) I (s':={s with heap:=h' }) rfl ⟨λb ob q n hb hx=>?_,λb ob q n hb hx=>?_,λb ob q n hx=>n,λb ob q hx=>?_,λb ys q=>q,λb ob ys q=>q,λb ps q=>⟨#[],?_⟩⟩ ?_ I.bare λb hb=>?_
  ·exact k b ob (λz=>hx (by simp[z])) (λz=>hx (by simp[z])) (λz=>hx (by simp[z])) (λz=>hx (by simp[z])) q
  ·exact⟨ob.slots,k b ob (λz=>hx (by simp[z])) (λz=>hx (by simp[z])) (λz=>hx (by simp[z])) (λz=>hx (by simp[z])) q⟩
  ·exact⟨ob,k b ob (λz=>hx (by simp[z])) (λz=>hx (by simp[z])) (λz=>hx (by simp[z])) (λz=>hx (by simp[z])) q⟩
  ·rw[q];simp
  ·intro b ob q;refine(I.aL b ob q).iw (λc v hc g=>?_) (λc g=>g) λc ys g=>g;have dA:c≠z/\c≠TO/\c≠i1/\c≠i2:=by
    rcases hc with z|z
    ·rw[z];exact hH _ _ q
    ·exact hH _ _ z
   exact k c v dA.1 dA.2.1 dA.2.2.1 dA.2.2.2 g
  ·have:b∈([z,TO,i1,i2,TI]:List Addr):=by simp only[Zs,aay,or_false] at hb⊢;exact(hb.elim .inl λh=>.inr (h.elim .inl λh=>.inr (h.elim .inl λh=>.inr (.inl h))))
   have f:=hf b this;exact⟨f.2.2.2.1,f.2.1,f.2.2.2.2.1,f.2.2.2.2.2⟩
 self:=λ_ _ _ _ _ st h=>wpAny_pyIter_zip st.1 h
def Sl(K:PySem.W.Frag)(ta:TA):TI:=λσ H R=>ta σ H λvs H1=>∃a b,vs=[.ref a,.ref b]/\(∃xs,aq K H1 a xs)/\(∃ys,aq K H1 b ys)/\R (yB K a b) H1
section
theorem Cq{elts:List Expr}{x1}{tp:Pos}{l m:Expr}{ta:TA}{p pos:Pos}(hg:Gl X "zip")(hm:X.mg "zip" = none)(ha:PA X [l,m] ta)(hs:starEach [l,m] X.env=(false,eval l X.env)::starEach [m] X.env:=by rfl)(hp:(backTo pos (starEach [m] X.env)).any (·.1)=false:=by rfl):PI X (.Tuple elts x1 tp) (.Call (.Name "zip" p) [l,m] [] pos) (Sl X.K ta):=by
 intro pins s σ H R I h;refine aaN (gu I hg hm boot_zip ?_);refine aaM (aH (ha pos pins s σ H _ I h) λus s1 ⟨vs,H1,I1,r1,q1⟩=>?_) hs hp;obtain⟨a,b,rfl,⟨xs,hq⟩,⟨ys,hr⟩,q⟩:=q1;obtain⟨u,v,rfl,ru,rv⟩:=vals2 r1;cases ru;cases rv;obtain⟨its,_,pl,_⟩:=I1.list hq;obtain⟨gw,_,Cr,_⟩:=I1.list hr;refine call_zip_2 pl.isList Cr.isList λh' e1 e2 e3 i1 i2 z1 k1=>?_;refine wpAny_pyIter_zip e1 ?_;have la:@LT.lt Nat _ a s1.heap.objs.size:=let ⟨o,g,_⟩:=pl.isList;Zx g
 have lb:@LT.lt Nat _ b s1.heap.objs.size:=let ⟨o,g,_⟩:=Cr.isList;Zx g
 refine⟨s1.heap.objs.size+4,[s1.heap.objs.size+4,s1.heap.objs.size+3,s1.heap.objs.size,s1.heap.objs.size+1,s1.heap.objs.size+2],_,_,H1,rfl,I1.kept (t':=s1.toks) k1,EV a b _ _ _ _ _ (zipApart_new la lb),⟨e1,e2,⟨_,_,e3⟩,i1,i2⟩,λc hc=>?_,q⟩;have le:@LE.le Nat _ s1.heap.objs.size c:=by
  simp only[Zs,aay,or_false] at hc;rcases hc with z|z|z|z|z<;>rw[z]
  ·exact aa9 _ 4
  ·exact aa9 _ 3
  ·exact Zn _
  ·exact aa9 _ 1
  ·exact aa9 _ 2
 exact I1.oq le (I1.aL.fresh le)
end
theorem IS{K:PySem.W.Frag}{a b:Addr}{xs ys:List V}{g:TG}{tb:TS}{D:Ends}{σ:St}{H:Hp}(le:xs.length=ys.length)(Pv:Nat->St->Hp->Prop)(h0:Pv 0 σ H)(hl:∀i σ H,i<=xs.length->Pv i σ H->aq K H a xs/\aq K H b ys)
  (hs:∀i x y σ H q,xs[i]?=some x->ys[i]?=some y->Pv i σ H->H q=none->g (.ref q) σ (upd H q (.tup [x,y])) λσ2 H2=>tb {D with nx:=Pv (i+1),ct:=Pv (i+1),bk:=D.nx} σ2 H2) (hd:∀σ H,Pv xs.length σ H->D.nx σ H) :
  ∃W:Nat->Nat->St->Hp->Prop,(∃m,W 0 m σ H)/\∀i m σ H,W i m σ H ->
   ((yB K a b).stop i H/\D.nx σ H)\/((yB K a b).go i H/\∃N:St->Hp->Prop,(∀σ' H',N σ' H'->∃m',m'<m/\W (i+1) m' σ' H')/\∀x H',(yB K a b).jw i H x H'->g x σ H' λσ2 H2=>tb {D with nx:=N,ct:=N,bk:=D.nx} σ2 H2):=by
 refine⟨λi m σ H=>m=xs.length-i/\i<=xs.length/\Pv i σ H,⟨xs.length,by simp,ZE _,h0⟩,?_⟩;rintro i m σ H ⟨rfl,hi,p⟩;obtain⟨q,q2⟩:=hl i σ H hi p;by_cases hlt:i<xs.length
 ·refine .inr ⟨⟨xs,xs[i],ys,ys[i]'(by omega),q,by simp[hlt],q2,by simp⟩,Pv (i+1),λσ' H' p'=>⟨xs.length-(i+1),by omega,rfl,hlt,p'⟩,λx H' ⟨r,y1,y2,hr,h1,h2,e1,e2⟩=>?_⟩;subst e1 e2;exact hs i y1 y2 σ _ r (h1 xs q) (h2 ys q2) p hr
 ·have e:i=xs.length:=by omega
  subst e;exact .inl ⟨⟨xs,ys,q,q2,.inl (Zn _)⟩,hd σ H p⟩
theorem LD{K:PySem.W.Frag}{a b:Addr}{xs zs:List V}{own:List Str}{fr:List Nat}{g:TG}{tt:TT}{te:TE}{σ:St}{Q:VK}{H:Hp}(le:xs.length=zs.length)(Pv:Nat->List V->Hp->Prop)(h0:Pv 0 [] H)(hlen:∀i ys H,i<=xs.length->Pv i ys H->ys.length<=sizeLine)
  (hl:∀i ys H,i<=xs.length->Pv i ys H->aq K H a xs/\aq K H b zs)
  (hs:∀i x z ys H q (R:List V->Hp->Prop),xs[i]?=some x->zs[i]?=some z->Pv i ys H->H q=none->(∀cB H',Pv (i+1) cB H'->R cB H')->g (.ref q) (cI own fr σ) (upd H q (.tup [x,z])) λσ4 H4=>tt σ4 H4 λb H5=>if b=true then te σ4 H5 λy H6=>R (ys++[y]) H6 else R ys H5)
  (hd:∀ys H,Pv xs.length ys H->∀D,H D=none->Q (.ref D) (upd H D (.lst ys))):dE own fr g tt te σ Q (yB K a b) H:=by
 refine⟨λi m ys H=>m=xs.length-i/\i<=xs.length/\Pv i ys H,⟨xs.length,rfl,ZE _,h0⟩,?_⟩;rintro i m ys H2 ⟨rfl,hi,p⟩;refine⟨hlen i ys H2 hi p,?_⟩;obtain⟨q,q2⟩:=hl i ys H2 hi p;by_cases h:i<xs.length
 ·refine .inr ⟨⟨xs,xs[i],zs,zs[i]'(by omega),q,by simp[h],q2,by simp⟩,λx H3 ⟨r,y1,y2,hr,h1,h2,e1,e2⟩=>?_⟩;subst e1 e2;exact hs i y1 y2 ys _ r (λcB H'=>∃m',m'<xs.length-i/\(m'=xs.length-(i+1)/\i+1<=xs.length/\Pv (i+1) cB H')) (h1 xs q) (h2 zs q2) p hr λcB H' q=>⟨xs.length-(i+1),by omega,rfl,h,q⟩
 ·have e:i=xs.length:=by omega
  subst e;exact .inl ⟨⟨xs,zs,q,q2,.inl (Zn _)⟩,hd ys H2 p⟩
end L2
namespace L9
open PySem PySem.Spec PyProof.Rows L2
section
variable {prog:Program}{w:World}{A:Around}{E:Value->Shared->Prop}{s:Shared}{κ:PyProof.Rows.KeyKind}{f:Addr->κ.α}
theorem IT(hκ:∀a,κ.keyOf (.ref a)=some (f a))(rf:∀v∈us,∃a,v=.ref a)(lt:∀a b,Value.ref a∈us->Value.ref b∈us->∀(Q:Bool->Shared->Prop) (E:Value->Shared->Prop),Q (κ.blt (f a) (f b)) s->wpAny (model prog w) A (keyLt' (tuples' true) (.ref a) (.ref b)) Q E s):mN prog w A E s (pairsOf us) (tuples' true) κ:=by
 intro st i j R q hi hj hR;have at_:∀{i:Nat},i<(pairsOf us).size->∃a p,(arrOf st)[i]?=some (.ref a,p)/\Value.ref a∈us:=λ{i} hi=>by
  have hi':i<(arrOf st).size:=by rw[q.len];exact hi
  have m:(arrOf st)[i]∈us.zip us:=by simpa [pairsOf] using q.pm.mem_iff.mp (ae4 hi')
  have m2:=(abH (a:=((arrOf st)[i]).1) (b:=((arrOf st)[i]).2) m).1;obtain⟨a,e⟩:=rf _ m2;exact⟨a,((arrOf st)[i]).2,by rw[ZF hi',<-e],e▸m2⟩
 obtain⟨a,pa,ea,ma⟩:=at_ hi;obtain⟨b,pb,eb,mb⟩:=at_ hj;have kk:∀{i:Nat} {a:Addr} {p:Value},(arrOf st)[i]?=some (.ref a,p)->ky κ st i=f a:=λ{i a p} e=>by show KK _ _ _=_;unfold KK;rw[e];show(κ.keyOf (.ref a)).getD _=_;rw[hκ];rfl
 rw[kk ea,kk eb] at hR;rw[ltAt'_eq];refine wpS_bind (wpS_get ?_);show wpS _ _ _ _ (do let x <-elem' (arrOf st) i;let y <-elem' (arrOf st) j;lt' x y) R st
 rw[afi,afi,ea,eb];refine wpS_bind (wpS_pure (wpS_bind (wpS_pure ?_)));rw[lt'_eq];refine wpS_bind (wpS_get ?_);rw[q.kn];refine wpS_bind (wpS_lift (wpAny_attempt (lt a b ma mb _ _ ⟨rfl,?_⟩)));exact wpS_pure hR
theorem tD{h:Heap}{tk:Nat}{as:List Addr}{Q:Value->Shared->Prop}(hκ:∀a,κ.keyOf (.ref a)=some (f a))(aP:as.length<64)
  (kd:∀(t:Shared),(∀b o,h.get? b=some o->t.heap.get? b=some o)->2<=as.length->∀(R:SortKind->Shared->Prop),R (tuples' true) t->wpAny (model prog w) A.in1 (keyKind' (as.map Value.ref).toArray) R E t)
  (lt:∀(t:Shared),(∀b o,h.get? b=some o->t.heap.get? b=some o)->∀a∈as,∀b∈as,∀(Q:Bool->Shared->Prop) (E:Value->Shared->Prop),Q (κ.blt (f a) (f b)) t->wpAny (model prog w) A.in1 (keyLt' (tuples' true) (.ref a) (.ref b)) Q E t)
  (q:∀(out:List Addr) (n:Nat) (h2:Heap),out.Perm as->out.Pairwise (λa b=>κ.blt (f b) (f a)=false)->(∀b o,h.get? b=some o->h2.get? b=some o)->h2.get? h.objs.size=some {cls:=.type "list",data:=.seq (out.map Value.ref).toArray n}->Q (.ref h.objs.size) {s with heap:=h2,toks:=tk}) :
  wpAny (model prog w) A (call (.builtin "list.sort") [.ref h.objs.size]) (λ_ s'=>Q (.ref h.objs.size) s') E {s with heap:=h.push {cls:=.type "list",data:=.seq (as.map Value.ref).toArray},toks:=tk}:=by
 have my:(h.push {cls:=.type "list",data:=.seq (as.map Value.ref).toArray}).get? h.objs.size=some (seqObj "list" (as.map Value.ref).toArray 0):=Zw _ rfl;have mem:∀{a:Addr},Value.ref a∈as.map Value.ref->a∈as:=λ{a} h=>by obtain⟨b,hb,e⟩:=ZD.mp h;cases e;exact hb
 refine wpAny_call_entry acu ⟨_,my,rfl⟩ aci ?_ (args_list_sort _);refine vN (h:=h) (us:=as.map Value.ref) rfl (by simpa using aP) (tuples' true) κ (λt kp two R r=>kd t kp (by simpa using two) R r) (λt kp=>IT (f:=f) hκ (λv hv=>by obtain⟨a,_,e⟩:=ZD.mp hv;exact⟨a,e.symm⟩) λa b ha hb=>lt t kp a (mem ha) b (mem hb)) λout n h2 pm aY kp g=>⟨_,rfl,?_⟩
 rw[Zj] at aY;have ln:out.size=as.length:=by rw[pm.size_eq,abR,Zj]
 have p1:out.toList.Perm ((as.map Value.ref).zip (as.map Value.ref)):=by simpa [pairsOf] using adg.mp pm
 have zz:∀l:List Addr,(l.map Value.ref).zip (l.map Value.ref)=l.map λa=>(Value.ref a,Value.ref a):=λl=>by induction l with|nil=>rfl|cons x l ih=>simp[ih]
 rw[zz] at p1;obtain⟨outs,po,eo⟩:∃outs:List Addr,outs.Perm as/\out.toList=outs.map λa=>(Value.ref a,Value.ref a):=by
  have:∀(l:List Keyed) (m:List Addr),l.Perm (m.map λa=>(Value.ref a,Value.ref a))->∃outs:List Addr,outs.Perm m/\l=outs.map λa=>(Value.ref a,Value.ref a):=by
   intro l;induction l with
   |nil=>
    intro m p
    have:=p.length_eq
    simp at this;obtain rfl:m=[]:=Z4.mp this.symm;exact⟨[],.nil,rfl⟩
   |cons x l ih=>
    intro m p;have hx:x∈m.map λa=>(Value.ref a,Value.ref a):=p.mem_iff.mp (by simp);obtain⟨a,ha,rfl⟩:=ZD.mp hx;obtain⟨m1,m2,rfl⟩:=aaq ha;have p2:l.Perm ((m1++m2).map λa=>(Value.ref a,Value.ref a)):=by rw[ZU,ZI] at p;rw[ZU];exact(p.trans acE).cons_inv
    obtain⟨outs,po,e⟩:=ih _ p2;exact⟨a::outs,(List.Perm.cons a po).trans acE.symm,by rw[e];rfl⟩
  exact this _ _ p1
 have lo:outs.length=as.length:=po.length_eq;have ge:∀{i:Nat} (hi:i<outs.length),out[i]?=some (Value.ref outs[i],Value.ref outs[i]):=λ{i} hi=>by rw[<-aae,eo,Zo,Zk hi];rfl
 refine q outs n h2 po (abe.mpr λi j hi hj ij=>?_) kp ?_
 ·have s0:=aY i j (by omega) (by omega);have kk:∀{i:Nat} (hi:i<outs.length),KK κ out i=f outs[i]:=λ{i} hi=>by
   unfold KK;rw[ge hi];show(κ.keyOf (.ref outs[i])).getD _=_
   rw[hκ];rfl
  rw[kk hi,kk hj] at s0;exact s0
 ·rw[g]
  have:(out.map (·.2))=(outs.map Value.ref).toArray:=by apply abX.mp;rw[Array.toList_map,eo,aaC];rfl
  rw[this]
theorem Cs(hx:IsTup s.heap x #[p1,p2])(hy:IsTup s.heap y #[q1,q2])(e1:∀Q:Bool->Shared->Prop,Q b1 s->wpAny (model prog w) A (eqBool p1 q1) Q E s)(l1:∀Q:Bool->Shared->Prop,Q c1 s->wpAny (model prog w) A (oneLt' true p1 q1) Q E s)
  (e2:∀Q:Bool->Shared->Prop,Q b2 s->wpAny (model prog w) A (eqBool p2 q2) Q E s) (l2:∀Q:Bool->Shared->Prop,Q c2 s->wpAny (model prog w) A (oneLt' false p2 q2) Q E s) (h:Q (if b1 then (if b2 then false else c2) else c1) s):wpAny (model prog w) A (keyLt' (tuples' true) (.ref x) (.ref y)) Q E s:=by
 obtain⟨ox,K9,_,nx,dx⟩:=hx;obtain⟨oy,K',_,ny,dy⟩:=hy;rw[mO];refine wpAny_bind (listItems_at K9 dx (wpAny_bind (listItems_at K' dy (wpAny_bind ?_))));show wpAny _ _ (forIn [((p1,q1),0),((p2,q2),1)] _ _) _ _ _
 rw[abp];refine wpAny_bind (wpAny_bind (e1 _ ?_));cases b1 with
 |false =>rw[if_pos (by rfl)];exact wpAny_bind (l1 _ (wpAny_pure (wpAny_pure (wpAny_pure h))))
 |true=>
  rw[if_neg (by simp)];refine wpAny_pure ?_;show wpAny _ _ (forIn [((p2,q2),1)] _ _) _ _ _
  rw[abp];refine wpAny_bind (wpAny_bind (e2 _ ?_));cases b2 with
  |false =>rw[if_pos (by rfl)];exact wpAny_bind (l2 _ (wpAny_pure (wpAny_pure (wpAny_pure h))))
  |true =>rw[if_neg (by simp)];exact wpAny_pure (wpAny_pure (wpAny_pure h))
theorem vZ{T:String}{as:List Addr}{fst:Addr->Value}{R:SortKind->Shared->Prop}(hT:T="int" \/ T="str")(hf:∀a∈as,∃p2,IsTup s.heap a #[fst a,p2])(ty:∀vs:List Value,(∀v∈vs,∃a∈as,v=fst a)->(vs.mapM typeOf:Sem (List Value))=pure (vs.map λ_=>Value.type T))(two:2<=as.length)(h:R (tuples' true) s):wpAny (model prog w) A (keyKind' (as.map Value.ref).toArray) R E s:=by
 have qf:∀(l:List Addr) (Q:List (Option Value)->Shared->Prop),(∀a∈l,a∈as)->Q ((l.map fst).map some) s->wpAny (model prog w) A ((l.map Value.ref).mapM firstOfTuple') Q E s:=by
  intro l;induction l with
  |nil=>intro Q _ q;rw[ab7,afB];exact wpAny_pure q
  |cons a l ih=>
   intro Q sub q;obtain⟨p2,ha⟩:=hf a (sub a (by simp));obtain⟨o,ho,hc,n,hd⟩:=id ha;rw[ZI,ac4];refine wpAny_bind ?_;show wpAny _ _ (typeOf (.ref a)>>=λt=>if (t !=.type "tuple")=true then pure none else Builtin.List.listItems (.ref a)>>=λxs=>pure xs[0]?) _ _ _
   refine wpAny_bind (wpAny_typeOf ha.typeIs ?_);rw[if_neg (by decide)];exact wpAny_bind (listItems_at ho hd (wpAny_pure (wpAny_bind (ih _ (λb hb=>sub b (by simp[hb])) (wpAny_pure q)))))
 rw[keyKind'_eq,acn];refine wpAny_bind ?_;show wpAny _ _ (List.toArray <$> (as.map Value.ref).mapM firstOfTuple') _ _ _
 rw[map_eq_pure_bind];refine wpAny_bind (qf as _ (λ_ h=>h) (wpAny_pure ?_));rw[if_pos (by simp)];refine wpAny_bind (wpAny_rule ?_);have e:(((as.map fst).map some).toArray.filterMap id)=(as.map fst).toArray:=by simp
 rw[e,afs,acn,ty _ λv hv=>by obtain⟨a,ha,e⟩:=ZD.mp hv;exact⟨a,ha,e.symm⟩];simp only[map_pure,pure_bind];match as,two with
 |a::r,two=>
  have all:((List.map (λ_=>Value.type T) ((a::r).map fst)).toArray.all λx=>x==Value.type T)=true:=by simp only[afh,ab8,abk];intro _ _;simp
  have h0:(List.map (λ_=>Value.type T) ((a::r).map fst)).toArray[0]?=some (Value.type T):=by simp
  rw[h0];rcases hT with rfl|rfl
  ·simp only[all,Z7,pure_bind];exact wpAny_pure h
  ·simp only[all,Z7,pure_bind];exact wpAny_pure h
 |[],two=>simp at two
end
def fw(h:Heap)(d:Addr)(es:Array DictEntry)(ep:Nat):Prop:=∃o,h.get? d=some o/\o.ExactDict/\o.data=.dict es ep
theorem fw.by(x:fw h d es ep)(k:∀o,h.get? d=some o->h'.get? d=some o):fw h' d es ep:=let ⟨o,a,b⟩:=x;⟨o,k o a,b⟩
theorem fw.lt(x:fw h d es ep):d<h.objs.size:=let ⟨_,a,_⟩:=x;Zx a
theorem fw.ty{s:Shared}{d:Addr}{es:Array DictEntry}{ep:Nat}(x:fw s.heap d es ep):s.TypeIs (.ref d) "dict" := let ⟨o,a,b,_⟩:=x;⟨o,a,b.1⟩
section
theorem EW{Q:Value->Shared->Prop}(lo:(d==sysModules)=false)(x:fw s.heap d es ep)
  (q:Q (.ref s.heap.objs.size) {s with heap:=s.heap.push {cls:=.type "dict_keyiterator",data:=.fields #[.ref d,.int 0 0,.int (es.size:Nat) 0,.int (ep:Nat) 0]} }):wpAny (model prog w) A (pyIter (.ref d)) Q E s:=by
 have ty:=x.ty;obtain⟨o,a,b,c⟩:=x;refine adm ty acx (wpAny_call_entry acx ty PySem.F.entry_dict_iter ?_ (PySem.F.args_dict_iter_1 _));unfold Builtin.«dict.__iter__» Builtin.Dict.dictSlotNone;refine wpAny_bind (wpAny_bind (wpAny_notOrdered_dict ty (wpAny_pure ?_)));show wpAny _ _ (Builtin.Dict.showsAll d>>=λ_=>_) _ _ s
 unfold Builtin.Dict.showsAll;rw[if_neg (by rw[lo];decide)];refine wpAny_bind (wpAny_pure (wpAny_bind (wpAny_dictEntries a c (wpAny_bind (wpAny_dictEpoch a c (wpAny_bind (wpAny_newObj_type (wpAny_pure ⟨_,rfl,"dict_keyiterator",_,⟨_,Zw _ rfl,rfl⟩,abw.lookup,?_⟩))))))));simpa [rawInt] using q
theorem wa(hh:A.handled=none)(hit:s.heap.IsKeyIter it d i es.size ep)(x:fw s.heap d es ep)
  (q1:∀e h',es[i]?=some e->h'.IsKeyIter it d (i+1) es.size ep->Heap.SameBut it s.heap h'->Q (some e.key) {s with heap:=h' })
  (q2:∀h',es[i]?=none->Heap.ExtBut it s.heap h'->Q none {s with heap:=h' }):wpAny (model prog w) A (pyNext (.ref it)) Q E s:=by
 have ty:=hit.typeIs;obtain⟨o,ho,hc,hd⟩:=id hit;obtain⟨od,a,b,c⟩:=x;unfold pyNext;refine wpAny_bind (wpAny_attempt (aar (name:=Str.ofString "__next__") ty abw (wpAny_call_entry abw ty PySem.F.entry_dict_keyiterator_next ?_ (PySem.F.args_dict_keyiterator_next_1 _))));refine wpAny_bind (wpAny_pure (wpAny_bind (wpAny_bind ?_)));first|refine wpAny_bind (wpAny_typeNameOfWhole_keyiter ty (wpAny_pure (wpAny_bind (wpAny_fieldsOf ho hd ?_))))|refine wpAny_bind (wpAny_typeNameOf_keyiter ty (wpAny_pure (wpAny_bind (wpAny_fieldsOf ho hd ?_))))
 rw[show Builtin.Dict_items.ownsTuple "dict_keyiterator" = false by decide];simp only[ZR,aam];show wpAny _ _ (if (Value.ref d==Value.none)=true then _ else _) _ _ s
 rw[if_neg (show ¬ ((Value.ref d==Value.none)=true) by exact ZM)];refine wpAny_bind (wpAny_pure (wpAny_bind (wpAny_dictEntries a c ?_)));rw[if_neg (by simp)];refine wpAny_bind (wpAny_pure (wpAny_bind (wpAny_dictEpoch a c ?_)));rw[if_neg (by simp)];refine wpAny_pure ?_;simp only[show ¬ ((i:Int)<0) by omega,aam,aaT];cases g:es[i]? with
 |some e=>
  refine wpAny_bind ?_;first|refine wpAny_bind (wpAny_typeNameOfWhole_keyiter ty (wpAny_pure (wpAny_bind (wpAny_isOneOf_keyiter ty ?_))))|refine wpAny_bind (wpAny_typeNameOf_keyiter ty (wpAny_pure (wpAny_bind (wpAny_isOneOf_keyiter ty ?_))))
  show wpAny _ _ (setField (.ref it) 1 (rawInt ((i:Int)+1))>>=λ_=>_) _ _ s
  refine wpAny_bind (wpAny_setField ho hd (by simp) ?_);have n1:(s.heap.update it (Obj.mapFields (·.setIfInBounds 1 (rawInt ((i:Int)+1))))).IsKeyIter it d (i+1) es.size ep:=⟨_,aad _ ho (aba (aax hd _)),(abO ..).trans hc,by rw[aax hd];simp[rawInt]⟩
  refine wpAny_bind (wpAny_holding (wpAny_bind (wpAny_isOneOf_keyiter (s:={s with heap:=s.heap.update it (Obj.mapFields (·.setIfInBounds 1 (rawInt ((i:Int)+1))))}) n1.typeIs ?_)));exact wpAny_pure (wpAny_pure ⟨_,rfl,wpAny_pure (q1 e _ g n1 (aac ..))⟩)
 |none=>
  refine wpAny_bind ?_;first|refine wpAny_bind (wpAny_typeNameOfWhole_keyiter ty (wpAny_pure ?_))|refine wpAny_bind (wpAny_typeNameOf_keyiter ty (wpAny_pure ?_))
  show wpAny _ _ (setField (.ref it) 0 .none>>=λ_=>_) _ _ s
  refine wpAny_bind (wpAny_setField ho hd (by simp) ?_);show wpAny _ _ (PySem.newExc (.type "StopIteration") []>>=λ_=>_) _ _ _
  refine wpAny_bind ?_;simp only[PySem.newExc,newTuple];refine wpAny_bind (wpAny_newObj_type (wpAny_bind (m:=firstArgMember _ _) (wpAny_of_eq (a:=Value.none) (by first|rfl|(simp only[firstArgMember];rfl)) (wpAny_newObj_type ?_ (by size_fits)))) (by size_fits));simp only[raiseNew];refine wpAny_bind (wpAny_handled ?_);rw[show A.in1.handled=none from hh];refine wpAny_bind (wpAny_pure (wpAny_throw ?_));refine wpAny_bind (wpAny_isInstance (b:=true) (T:="StopIteration") ⟨_,Zw _ rfl,rfl⟩ aeg ?_);exact wpAny_pure (q2 _ g (((aac ..).extBut.push _).push _))
theorem Ct(hh:A.handled=none)(I:Addr)(hne:d≠I):Walks prog w A I [I,d] [I] es.size (λi v=>∃e,es[i]?=some e/\v=e.key) (λi h=>h.IsKeyIter I d i es.size ep/\fw h d es ep) where
 sub:=λb hb=>by simp at hb;simp[hb]
 frame:=λ_ _ _ st hk=>⟨st.1.at λo e=>hk I (by simp) o e,st.2.by λo e=>hk d (by simp) o e⟩
 item:=λi s Q E hi st hQ=>wa hh st.1 st.2 (λe h' g k1 k2=>hQ _ h' s.toks ⟨e,g,rfl⟩ ⟨k1,st.2.by λo z=>k2.extBut d o hne z⟩ λb o hb z=>k2.extBut b o (λh=>hb (by simp[h])) z) λh' g=>by simp[hi] at g
 done:=λs Q E st hQ=>wa hh st.1 st.2 (λe h' g=>by simp at g) λh' _ k=>hQ h' s.toks λb o hb e=>k b o (λh=>hb (by simp[h])) e
 self:=λ_ _ _ _ st hQ=>wpAny_pyIter_keyiter st.1 hQ
theorem IU(lo:(d==sysModules)=false):PySem.W.KdlSrc prog w "dict" d d es.size (λi v=>∃e,es[i]?=some e/\v=e.key) (λh=>fw h d es ep) where
 type:=λ_ x=>x.ty
 there:=λ_ x=>⟨x.lt,x.lt⟩
 keep:=λ_ _ x k=>x.by λo e=>k d (.inl rfl) o e
 notList:=by decide
 notTuple:=by decide
 hint:=λ_ _ _ _ x q=>PySem.W.kdl_hint_dict x.ty q
 iter:=λ_ _ hh x=>⟨_,_,(λ_ _ q=>EW lo x q),Ct hh _ (ZQ x.lt),⟨⟨_,Zw _ rfl,rfl,rfl⟩,x.by λo e=>Zl _ e⟩⟩
end
end L9
namespace L2
open PySem PySem.Spec PyProof.Rows
theorem wb:∀ns:List Nat,PyData.hasDictAll (ns.map λ(n:Nat)=>.int n)=false
 |[]=>by simp[PyData.hasDictAll]
 |n::ns=>by simp[PyData.hasDictAll,PyData.hasDict];exact wb ns
theorem tE:∀{ns:List Nat},(∀n∈ns,n<=1000)->PyData.showableAll (ns.map λ(n:Nat)=>.int n)=true
 |[],_=>by simp[PyData.showableAll]
 |n::ns,h=>by
  have h1:=tE λm hm=>h m (ZC _ hm);have h2:=h n Zy;have e:((n:Int).natAbs.log2<1920):=by
   rw[ac9];by_cases z:n=0
   ·subst z;decide
   ·exact(af8 z).mpr (Z2 h2 (Z8 (show 1000<2 ^ 10 by decide) (Nat.pow_le_pow_right (by decide) (by decide))))
  show(PyData.showable _&&PyData.showableAll (ns.map λ(n:Nat)=>.int n))=true
  rw[h1,Bool.and_true];exact decide_eq_true e
theorem wd:∀ns:List Nat,PyData.depthAll (ns.map λ(n:Nat)=>.int n)=0
 |[]=>by simp[PyData.depthAll]
 |n::ns=>by simp[PyData.depthAll,PyData.depth];exact wd ns
theorem Cu{l:List Nat}(h:∀x∈l,x<=k):l.sum<=l.length*k:=by
 induction l with
 |nil=>simp
 |cons x l ih =>have a:=h x Zy;have b:=ih λy hy=>h y (ZC _ hy);rw[acy,Zz,af6];omega
theorem rq:∀(ts:List Str) (k:Nat) (acc:Str),(textFrom k acc ts).length<=acc.length+(ts.map (·.length)).sum+2*ts.length
 |[],k,acc=>by show acc.length<=_;omega
 |t::ts,k,acc=>by
  show(textFrom (k+1) (acc++(if k > 0 then ", " else "" : String)++t) ts).length<=_
  refine Zu (rq ts (k+1) _) ?_;rw[aa1,aa1,ZI,acy,Zz];have e:((if k > 0 then ", " else "" : String):Str).length<=2:=by split<;>decide +kernel
  omega
theorem qq:∀ns:List Nat,PyData.shownAll (ns.map λ(n:Nat)=>.int n)=ns.map λ(n:Nat)=>Str.ofString (toString (n:Int))
 |[]=>by simp[PyData.shownAll]
 |n::ns=>by simp only[ZI,PyData.shownAll,PyData.shown];rw[qq ns]
def Qg(xs:List V)(ds:List PyData):Prop:=∀(h:Heap) us,Vals xs us->ReadsAll h us ds []
def LF(K:PySem.W.Frag)(H:Hp)(u:Addr)(d:PyData):Prop:=∃xs ds,aO K H u xs/\Qg xs ds/\d=.tuple ds
theorem IV(i j:Nat):Qg [V.int i,V.int j] [.int i,.int j]:=λh us r=>by
 match us,r with
 |_,.cons r1 (.cons r2 .nil)=>
  obtain⟨k,rfl⟩:=(show ∃k,_=Value.int i k from r1)
  obtain⟨k,rfl⟩:=(show ∃k,_=Value.int j k from r2)
  exact .cons (as:=[]) (bs:=[]) (.int i _) (.cons (as:=[]) (bs:=[]) (.int j _) .nil)
section
theorem lA(I:Inv X pins σ H s):∀{us:List Addr} {ds:List PyData} {vs:List Value},Paired (LF X.K H) us ds->Vals (us.map V.ref) vs->ReadsAll s.heap vs ds []
 |[],_,_,.nil,.nil=>.nil
 |u::us,_,_,.cons h t,.cons r rs=>by obtain⟨xs,ds,hq,rd,rfl⟩:=h;cases r;obtain⟨its,rv,pl,_⟩:=I.tuple hq;obtain⟨o,ho,hc,n,hd⟩:=pl;exact .cons (as:=[]) (bs:=[]) (.tuple ho hc hd (by simpa using rd s.heap its rv)) (lA I t rs)
structure GY(ds:List PyData):Prop where
 sh:PyData.showableAll ds=true
 nd:PyData.hasDictAll ds=false
 dp:PyData.depthAll ds<=1
 ln:(PyData.list ds).shown.length<=sizeLine
end
theorem EX(h:∀d∈ds,d.showable=true/\d.hasDict=false/\d.depth<=1/\d.shown.length<=k)(hk:ds.length*(k+2)+2<=sizeLine):GY ds:=by
 have a:∀{ds:List PyData},(∀d∈ds,d.showable=true/\d.hasDict=false/\d.depth<=1/\d.shown.length<=k)->PyData.showableAll ds=true/\PyData.hasDictAll ds=false/\PyData.depthAll ds<=1/\((PyData.shownAll ds).map (·.length)).sum<=ds.length*k/\(PyData.shownAll ds).length=ds.length:=by
  intro ds;induction ds with
  |nil=>intro _;simp[PyData.showableAll,PyData.hasDictAll,PyData.depthAll,PyData.shownAll]
  |cons d ds ih =>intro h;obtain⟨b1,b2,b3,b4,b5⟩:=ih λx hx=>h x (ZC _ hx);obtain⟨c1,c2,c3,c4⟩:=h d Zy;refine⟨by rw[PyData.showableAll,b1,c1];rfl,by rw[PyData.hasDictAll,b2,c2];rfl,by rw[PyData.depthAll];omega,?_,by rw[PyData.shownAll,Zz,Zz,b5]⟩;rw[PyData.shownAll,ZI,acy,Zz,af6];omega
 obtain⟨b1,b2,b3,b4,b5⟩:=a h;refine⟨b1,b2,b3,?_⟩;rw[PyData.shown];unfold listText;rw[aa1];have e:=rq (PyData.shownAll ds) 0 "[";have c:("[" : Str).length=1:=by decide +kernel
 have d:("]" : Str).length=1:=by decide +kernel
 rw[c,b5] at e;rw[d];have f:ds.length*(k+2)=ds.length*k+2*ds.length:=by rw[ae'];omega
 omega
def fG(p:Nat×Nat):PyData:=.tuple [.int p.1,.int p.2]
def aI(H:Hp):List Addr->List (Nat×Nat)->Prop:=Paired λu p=>H u=some (.tup [.int (p.1:Nat),.int (p.2:Nat)])
theorem aI.mono(h:aI H us ps)(k:∀t xs,H t=some (.tup xs)->H' t=some (.tup xs)):aI H' us ps:=Paired.gp h λt p e=>k t _ e
theorem aI.same(h:aI H us ps)(s:av H H'):aI H' us ps:=h.mono λt xs e=>s t _ e
theorem aI.len:∀{us:List Addr} {ps:List (Nat×Nat)},aI H us ps->us.length=ps.length
 |[],_,.nil=>rfl
 |_::_,_,.cons _ t=>by rw[Zz,Zz,aI.len t]
theorem aI.get:∀{us:List Addr} {ps:List (Nat×Nat)} {i:Nat} {u:Addr},aI H us ps->us[i]?=some u->∃p,ps[i]?=some p/\H u=some (.tup [.int (p.1:Nat),.int (p.2:Nat)])
 |_,_,0,_,.cons r _,e=>by cases e;exact⟨_,rfl,r⟩
 |_,_,i+1,_,.cons _ t,e=>by simpa using aI.get (i:=i) t (by simpa using e)
theorem aI.snoc:∀{us:List Addr} {ps:List (Nat×Nat)} {u:Addr} {p:Nat×Nat},aI H us ps->H u=some (.tup [.int (p.1:Nat),.int (p.2:Nat)])->aI H (us++[u]) (ps++[p])
 |[],_,_,_,.nil,e=>.cons e .nil
 |_::_,_,_,_,.cons r t,e=>.cons r (aI.snoc t e)
theorem we{K:PySem.W.Frag}{H:Hp}{us:List Addr}{ps:List (Nat×Nat)}(h:aI H us ps):Paired (LF K H) us (ps.map fG):=by
 induction h with
 |nil=>exact .nil
 |cons r t ih=>exact .cons ⟨_,_,aO.of r,IV _ _,rfl⟩ ih
theorem wg(h1:p.1<=1000)(h2:p.2<=1000):(fG p).showable=true/\(fG p).hasDict=false/\(fG p).depth<=1/\(fG p).shown.length<=20:=by
 have a:=tE (ns:=[p.1,p.2]) λn hn=>by
  rcases Zs.mp hn with rfl|hn
  ·exact h1
  ·rw[ZJ.mp hn];exact h2
 have b:=wb [p.1,p.2];have c:=wd [p.1,p.2];have d:=qq [p.1,p.2];refine⟨by unfold fG;rw[PyData.showable];exact a,by unfold fG;rw[PyData.hasDict];exact b,?_,?_⟩
 ·unfold fG;rw[PyData.depth];have c':PyData.depthAll [.int (p.1:Nat),.int (p.2:Nat)]=0:=c;rw[c'];exact Zn _
 ·unfold fG;rw[PyData.shown];have d':PyData.shownAll [.int (p.1:Nat),.int (p.2:Nat)]=[Str.ofString (toString (p.1:Int)),Str.ofString (toString (p.2:Int))]:=d;rw[d'];unfold tupleText;rw[aa1,aa1];have e:=ad9 ", " [Str.ofString (toString (p.1:Int)),Str.ofString (toString (p.2:Int))];have l1:(Str.ofString (toString (p.1:Int))).length<=5:=by rw[aem];exact aes (k:=4) (by decide) (by rw[ac9];omega)
  have l2:(Str.ofString (toString (p.2:Int))).length<=5:=by rw[aem];exact aes (k:=4) (by decide) (by rw[ac9];omega)
  simp only[ZI,ab7,acy,List.sum_nil,Zz,aaL] at e;have f:(", " : Str).length=2:=by decide +kernel
  have g:("(" : Str).length=1:=by decide +kernel
  have h:((if [Str.ofString (toString (p.1:Int)),Str.ofString (toString (p.2:Int))].length==1 then ",)" else ")" : String):Str).length<=2:=by split<;>decide +kernel
  rw[f] at e;rw[g];omega
theorem EY{ps:List (Nat×Nat)}(h:∀p∈ps,p.1<=1000/\p.2<=1000)(l:ps.length<=1000):GY (ps.map fG):=by
 refine EX (k:=20) (λd hd=>?_) ?_
 ·obtain⟨p,hp,rfl⟩:=ZD.mp hd;exact wg (h p hp).1 (h p hp).2
 ·rw[Zj];have f:40000<=sizeLine:=by decide
  omega
section
def IW:V->List V->Hp->VK->Prop:=λx vs H Q=>∃(l:Addr) (xs:List V) (i:Nat) (y:V),x=.ref l/\vs=[.int i,y]/\H l=some (.lst xs)/\i<=xs.length/\xs.length<sizeLine/\Q .a8 (upd H l (.lst (xs.take i++y::xs.drop i)))
theorem tG:A7 X "list.insert" IW:=by
 rintro pins s σ H x vs v us Q I rx rv ⟨l,xs,i,y,rfl,rfl,hH,hi,hz,q⟩;cases rx;obtain⟨u,u2,rfl,⟨t,rfl⟩,ru⟩:=vals2 rv;obtain⟨z,its,n,r,hl,e⟩:=I.mh hH;have lim:=Z2 z hV;have sz:its.toArray.size<=sizeLine:=by rw[Zt,<-hl];exact z
 have h1:-(2 ^ 63)<=(i:Int):=by omega
 have h2:(i:Int)<2 ^ 63:=by omega
 have LG:¬ ((i:Int)<0):=by omega
 have Qh:(i:Int).toNat=i:=aaT i;generalize (i:Int)=x at h1 h2 LG Qh⊢;have fit:¬ (!Builtin.List.listFitsIndex x)=true:=by rw[fitsIndex_both h1 h2];exact ZM
 refine acM adG ⟨_,e,rfl⟩ F.entry_list_insert (F.args_list_insert_3 _ _ _) (AutoSeq1.list_insert_list_int_val_1 l its.toArray n x t u2 fit sz) ⟨e,?_⟩;refine⟨.a8,_,I.uM (its':=its.take i++u2::its.drop i) (ys:=xs.take i++y::xs.drop i) hH e ?_ ?_ ?_,rfl,q⟩
 ·simp only[LG,aam,Qh,Zt];have hm:min i its.length=i:=by omega
  rw[hm];apply abX.mp;simp;rw[aab (by simp)]
 ·exact(r.take i).append (.cons ru (r.drop i))
 ·rw[ZA,Zz,ZK,aaP];omega
end
theorem iq:∀{as:List Addr} {us:List Value},Vals (as.map V.ref) us->us=as.map Value.ref
 |[],_,.nil=>rfl
 |a::as,_,.cons r h=>by rw[iq h];cases r;rfl
end L2
namespace L9
open PySem PySem.Spec PyProof.Rows L2
def eI(a b:Nat×Nat):Prop:=a.1<b.1\/(a.1=b.1/\a.2<b.2)
instance:DecidableRel eI:=λa b=>inferInstanceAs (Decidable (a.1<b.1\/(a.1=b.1/\a.2<b.2)))
def LH(f:Addr->Nat×Nat):PyProof.Rows.KeyKind where
 α:=Nat×Nat
 blt a b:=decide (eI a b)
 irrefl a:=by rw[aaB];unfold eI;omega
 trans a b c h k:=by rw[ZY] at *;unfold eI at *;omega
 negTrans a b c h:=by rw[ZY] at *;rw[ZY];unfold eI at *;omega
 total a b h k:=by rw[aaB] at *;obtain⟨a1,a2⟩:=a;obtain⟨b1,b2⟩:=b;simp only[eI,adh] at *;omega
 keyOf v:=match v with|.ref a=>some (f a)|_=>none
 dflt:=(0,0)
def bB(us:List Addr)(ps:List (Nat×Nat))(a:Addr):Nat×Nat:=(((us.zip ps).find? λq=>decide (q.1=a)).map (·.2)).getD (0,0)
theorem wj(h:aI H us ps)(ha:a∈us):H a=some (.tup [.int (bB us ps a).1,.int (bB us ps a).2]):=by
 induction h with
 |nil=>exact nomatch ha
 |@cons u p us ps hu t ih=>
  unfold bB;rw[abI,abf];by_cases e:u=a
  ·subst e;simp only[decide_true,aaV,adE];exact hu
  ·rw[show decide ((u,p).1=a)=false from decide_eq_false e];exact ih ((Zs.mp ha).resolve_left λz=>e z.symm)
theorem IX(h:aI H us ps):us.map (bB us ps)=ps:=by
 have len:=h.len;refine aaU λi=>?_;rw[Zo];cases e:us[i]? with
 |none=>rw[aao (by have:=aaE.mp e;omega)];rfl
 |some u=>
  obtain⟨p,ep,hp⟩:=h.get e;rw[ep]
  have:=wj h (Zr e)
  rw[hp] at this;simp only[ae6,HO.tup.injEq,aaY,V.int.injEq,and_true] at this;exact congrArg some (acA (by omega) (by omega))
section
theorem wk(h:Q (decide (a<b)) s):wpAny (model prog w) A (oneLt' o (.int a t) (.int b u)) Q E s:=by
 cases o with
 |true=>exact oneLt_int h
 |false=>
  rw[oneLt'_eq];simp only[ZR,aam];refine wpAny_bind ?_;show wpAny _ _ (compareOp .Lt (.int a t) (.int b u)) _ _ _
  exact aew (wpAny_truthy_bool h)
end
section
theorem yC(I:Inv X pins σ H s)(h:H a=some (.tup [x,y])):∃u v,RelV x u/\RelV y v/\IsTup s.heap a #[u,v]:=by obtain⟨its,rv,pl,_⟩:=I.tuple (aO.of (K:=X.K) h);obtain⟨u,v,rfl,r1,r2⟩:=vals2 rv;exact⟨u,v,r1,r2,pl⟩
theorem tH(I:Inv X pins σ H s)(hp:aI H us ps)(aP:us.length<64)(keep:∀b o,s.heap.get? b=some o->h1.get? b=some o)
  (q:∀l (vs:List Addr) (rs:List (Nat×Nat)),H l=none->aI H vs rs->rs.Perm ps->rs.Pairwise (λa b=>¬ eI b a)->Q (.ref l) (upd H l (.lst (vs.map V.ref)))) :
  wpAny (model X.prog X.w) X.A.in1 (newList (us.map Value.ref)>>=λl=>holding [l] (call (.builtin "list.sort") [l] [])>>=λ_=>ret l) (λfin s'=>∃r,fin=.done (.ret r)/\EP X pins σ Q r s') X.xe {s with heap:=h1,toks:=tk}:=by
 have get:∀{a:Addr},a∈us->∃t u,IsTup s.heap a #[.int (bB us ps a).1 t,.int (bB us ps a).2 u]:=λ{a} ha=>by obtain⟨u,v,⟨t,e1⟩,⟨t',e2⟩,h⟩:=yC I (wj hp ha);subst e1 e2;exact⟨t,t',h⟩
 have up:∀{a:Addr} {xs:Array Value} {g:Heap},IsTup s.heap a xs->(∀b o,h1.get? b=some o->g.get? b=some o)->IsTup g a xs:=λ⟨o,ho,r⟩ k=>⟨o,k _ _ (keep _ _ ho),r⟩
 refine wpAny_bind (wpAny_newList (wpAny_bind (wpAny_holding ?_)) (by rw[Zj];exact Zu (aag aP) (by decide)));refine wpAny_mono (tD (κ:=LH (bB us ps)) (f:=bB us ps) (prog:=X.prog) (w:=X.w) (s:=s) (h:=h1) (tk:=tk) (as:=us) (Q:=EP X pins σ Q) (λ_=>rfl) aP (λt kp two R r=>?_) (λt kp a ha b hb Q' E' k=>?_) λout n h2 o1 o2 o3 o4=>?_) (λ_ _ z=>wpAny_pure ⟨_,rfl,z⟩) λ_ _ z=>z
 ·have ty:∀vs:List Value,(∀v∈vs,∃i t,v=.int i t)->(vs.mapM typeOf:Sem (List Value))=pure (vs.map λ_=>Value.type "int"):=by
   intro vs;induction vs with
   |nil=>intro _;rfl
   |cons v vs ih =>intro h;obtain⟨i,t,rfl⟩:=h v (by simp);rw[ac4,ih λx hx=>h x (by simp[hx]),show typeOf (.int i t)=pure (.type "int") from rfl];rfl
  have hf:∀a∈us,∃p:Value×Value,(∃i t,p.1=.int i t)/\IsTup t.heap a #[p.1,p.2]:=λa ha=>by obtain⟨t1,t2,h⟩:=get ha;exact⟨(_,_),⟨_,_,rfl⟩,up h kp⟩
  classical
  let fst:Addr->Value:=λa=>if h:a∈us then (Classical.choose (hf a h)).1 else .none
  have fe:∀a (h:a∈us),fst a=(Classical.choose (hf a h)).1:=λa h=>dif_pos h;refine vZ (T:="int") (fst:=fst) (.inl rfl) (λa ha=>⟨(Classical.choose (hf a ha)).2,?_⟩) (λvs hv=>ty vs λv h=>?_) two r
  ·rw[fe a ha];exact(abr (hf a ha)).2
  ·obtain⟨a,ha,rfl⟩:=hv v h;rw[fe a ha];exact(abr (hf a ha)).1
 ·obtain⟨t1,t2,h1'⟩:=get ha;obtain⟨t3,t4,mS⟩:=get hb;refine Cs (up h1' kp) (up mS kp) (b1:=decide (((bB us ps a).1:Int)=(bB us ps b).1)) (b2:=decide (((bB us ps a).2:Int)=(bB us ps b).2)) (c1:=decide (((bB us ps a).1:Int)<(bB us ps b).1)) (c2:=decide (((bB us ps a).2:Int)<(bB us ps b).2)) (λ_ z=>wpAny_eqBool_int z) (λ_ z=>wk z) (λ_ z=>wpAny_eqBool_int z) (λ_ z=>wk z) ?_;have e:(if decide (((bB us ps a).1:Int)=(bB us ps b).1) then (if decide (((bB us ps a).2:Int)=(bB us ps b).2) then false else decide (((bB us ps a).2:Int)<(bB us ps b).2)) else decide (((bB us ps a).1:Int)<(bB us ps b).1))=(LH (bB us ps)).blt (bB us ps a) (bB us ps b):=by
   show _=decide (eI _ _)
   generalize bB us ps a=p;generalize bB us ps b=r;rw[aat,ZY (p:=eI p r)];unfold eI;by_cases c1:(p.1:Int)=r.1
   ·rw[decide_eq_true c1,if_pos rfl];by_cases c2:(p.2:Int)=r.2
    ·rw[decide_eq_true c2,if_pos rfl];exact⟨λz=>(nomatch z),λz=>by omega⟩
    ·rw[decide_eq_false c2,if_neg (by decide),ZY];omega
   ·rw[decide_eq_false c1,if_neg (by decide),ZY];omega
  rw[e];exact k
 ·have no:s.heap.get? h1.objs.size=none:=by
   cases e:s.heap.get? h1.objs.size with
   |none=>rfl
   |some o=>exact absurd (Zx (keep _ _ e)) (ZX _)
  have mz:H h1.objs.size=none:=by
   cases e:H h1.objs.size with
   |none=>rfl
   |some o =>obtain⟨u,eu⟩:=(I.aL _ _ e).there;rw[no] at eu;cases eu
  have at_:aI H out (out.map (bB us ps)):=by
   have:∀l:List Addr,(∀a∈l,a∈us)->aI H l (l.map (bB us ps)):=by
    intro l;induction l with
    |nil=>intro _;exact .nil
    |cons a l ih=>intro h;exact .cons (wj hp (h a (by simp))) (ih λb hb=>h b (by simp[hb]))
   exact this out λa ha=>o1.mem_iff.mp ha
  have fin:=q h1.objs.size out _ mz at_ ((o1.map _).trans (acX (IX hp))) (aa0.mpr (adp (λ{a b} z=>of_decide_eq_false z) o2));refine⟨.ref h1.objs.size,_,I.ui (t':=tk) (o:=.lst (out.map V.ref)) (λb o e=>o3 _ _ (keep _ _ e)) no mz ⟨by rw[Zj,o1.length_eq];exact Zu (aag aP) (by decide),out.map Value.ref,n,?_,o4⟩,rfl,fin⟩
  have:∀l:List Addr,Vals (l.map V.ref) (l.map Value.ref):=λl=>by
   induction l with
   |nil=>exact .nil
   |cons x l ih=>exact .cons rfl ih
  exact this out
theorem qr:cG X (.builtin "sorted") (λxs H Q=>∃(p:Addr) (us:List Addr) (ps:List (Nat×Nat)),xs=[.ref p]/\aq X.K H p (us.map V.ref)/\aI H us ps/\ps.length<64/\∀l (vs:List Addr) (rs:List (Nat×Nat)),H l=none->aI H vs rs->rs.Perm ps->rs.Pairwise (λa b=>¬ eI b a)->Q (.ref l) (upd H l (.lst (vs.map V.ref)))):=by
 rintro pins s σ H xs us Q I r ⟨p,us,ps,rfl,hq,hp,aP,q⟩;obtain⟨u,rfl,rx⟩:=vals1 r;cases rx;obtain⟨its,rv,pl,_⟩:=I.list hq;have ei:=iq rv;have wm:us.length<64:=by rw[hp.len];exact aP
 refine aaX ac5 acT acU (args_sorted1 _) ?_;unfold Builtin.«sorted»;refine wpAny_bind (m:=checkCount "sorted" 1 1 _) (wpAny_pure (wpAny_bind ?_));obtain⟨o,ho,hc,n0,hd⟩:=pl.isList;refine ae7 p (.inl rfl) ho hc hd (λh1 keep=>?_) (by rw[ei];simp only[Zt,Zj];exact Zu (aag wm) (by decide));rw[ei];exact tH (tk:=s.toks) I hp wm keep q
theorem kl(hc:X.calm=true):cG X (.builtin "sorted") (λxs H Q=>∃(p:Addr) (kvs:List (List Key×V)) (ps:List (Nat×Nat)),xs=[.ref p]/\H p=some (.dT kvs)/\kvs.map (·.1)=ps.map (λe=>[Sum.inl (e.1:Int),Sum.inl (e.2:Int)])/\ps.length<64 /\
  ∀l (vs:List Addr) (rs:List (Nat×Nat)),H l=none->aI H vs rs->rs.Perm ps->rs.Pairwise (λa b=>¬ eI b a)->Q (.ref l) (upd H l (.lst (vs.map V.ref)))):=by
 rintro pins s σ H xs us Q I r ⟨p,kvs,ps,rfl,hp,hk,aP,q⟩;obtain⟨u,rfl,rx⟩:=vals1 r;cases rx;obtain⟨z,lo,ys,rel,o,es,ep,g1,g2,g3,g4,g5⟩:=(show bg X.prog X.w H s.heap p (.dT kvs) from I.aL p _ hp)
 have ly:kvs.length=ys.length:=ZG rel;have lk:ps.length=kvs.length:=by have:=congrArg List.length hk;simpa using this.symm
 have sz:es.size=ys.length:=abL g4;have at_:aI H (ys.map (·.2.1)) ps:=by
  clear g4 g5 q z sz aP r lk ly hp;induction rel generalizing ps with
  |nil=>
   cases ps with
   |nil=>exact .nil
   |cons k ps=>simp at hk
  |@cons a b as bs h _ ih=>
   cases ps with
   |nil=>simp at hk
   |cons k ps =>simp only[ZI,aaY] at hk;refine .cons ?_ (ih ps hk.2);rw[h.2.1,hk.1];rfl
 refine aaX ac5 acT acU (args_sorted1 _) ?_;unfold Builtin.«sorted»;refine wpAny_bind (m:=checkCount "sorted" 1 1 _) (wpAny_pure (wpAny_bind ?_));refine aey (IU (es:=es) (ep:=ep) lo) (A:=X.A.in1) (by exact I.ok.hd hc) ⟨o,g1,g2,g3⟩ (by rw[sz,<-ly,<-lk];exact Zu (aag aP) (by decide)) λh1 tk acc keep items=>?_;have ea:acc.toList=(ys.map (·.2.1)).map Value.ref:=by
  have la:acc.size=ys.length:=by rw[items.1,sz]
  refine aaU λi=>?_;by_cases hi:i<ys.length
  ·obtain⟨e,a1,a2⟩:=items.2 i acc[i] (by simp[la,hi]);rw[entry_at g4,Zk hi] at a1;rw[aae,ZF (by omega),a2,Zo,Zo,Zk hi,<-ZH a1];rfl
  ·rw[aao (by simp;omega),aao (by simp;omega)]
 rw[ea];exact tH (tk:=tk) I at_ (by rw[Zj,<-ly,<-lk];exact aP) keep q
end
theorem Sm(a b:Nat×Nat):HT.lexLt [(a.1:Int),(a.2:Int)] [(b.1:Int),(b.2:Int)]=decide (eI a b):=by
 rw[HT.kL,HT.kL,HT.lG,aat,ZY];unfold eI;split
 ·split
  ·exact⟨λz=>(nomatch z),λz=>by omega⟩
  ·rw[ZY];omega
 ·rw[ZY];omega
section
theorem yD(I:Inv X pins σ H s)(h:aI H us ps)(e:us[i]?=some u) :
  ∃its:Array Value,IsTup s.heap u its/\IntsAre its.toList [((ps.getD i (0,0)).1:Int),((ps.getD i (0,0)).2:Int)]:=by
 obtain⟨p,ep,hu⟩:=h.get e;obtain⟨its,rv,pl,_⟩:=I.tuple (aO.of (K:=X.K) hu);refine⟨its.toArray,pl,?_⟩;rw[aa6,ep];exact intsAre_of (ns:=[(p.1:Int),(p.2:Int)]) rv
theorem nX(hc:X.calm=true)(hu:X.A.units+2<cLine):cG X (.builtin "min") (λxs H Q=>∃(p:Addr) (us:List Addr) (ps:List (Nat×Nat)),xs=[.ref p]/\aq X.K H p (us.map V.ref)/\aI H us ps/\ps≠[]/\∀(i:Nat) u q,us[i]?=some u->ps[i]?=some q->(∀y∈ps,¬ eI y q)->Q (.ref u) H):=by
 rintro pins s σ H xs vs Q I r ⟨p,us,ps,rfl,hq,hp,ne,q⟩;obtain⟨u,rfl,rx⟩:=vals1 r;cases rx;obtain⟨its,rv,pl,_⟩:=I.list hq;have ei:=iq rv;have lu:us.length=ps.length:=hp.len;have pos:0<us.length:=by rw[lu];exact abC.mpr ne
 refine call_function_tree PySem.F.kind_min PySem.F.plain_min PySem.F.entry_min (PySem.F.args_min1 _) ?_;show wpAny _ X.A.in1 (Builtin.Builtins.bindParams "min" ["key","default"] 0 ⟨[],[]⟩>>=λ_=>_) _ _ s
 refine wpAny_bind (wpAny_of_eq (show Builtin.Builtins.bindParams "min" ["key","default"] 0 ⟨[],[]⟩=pure [none,none] by rfl) (wpAny_bind (wpAny_pure (wpAny_bind ?_))));refine Ck pl.isList λs₂ e st hfp Va=>?_;subst e;refine wpAny_bind (wpAny_newObj_type ?_);rw[show(toString "min" ++ toString ".loop" : String)="min.loop" by decide];have keep0:∀b o,s.heap.get? b=some o->((s.heap.push {cls:=.type "list_iterator",data:=.fields #[.ref p,.int 0 0]}).push {cls:=.type "list",data:=.seq #[]}).get? b=some o:=λb o e=>Zl _ (Zl _ e);have sz:@LT.lt Nat _ s.heap.objs.size (s.heap.push {cls:=.type "list_iterator",data:=.fields #[.ref p,.int 0 0]}).objs.size:=by rw[Z'];exact aav _
 have hSf:(s.heap.push {cls:=.type "list_iterator",data:=.fields #[.ref p,.int 0 0]}).objs.size∉[s.heap.objs.size,p]:=λhm=>ZX _ (hfp _ hm);refine wpAny_pure ⟨abt aaS _,Ah (Ok:=λh=>∀u∈us,∀o,s.heap.get? u=some o->h.get? u=some o) (aeo (A:=X.A.in1) (I.ok.hd hc) s.heap.objs.size p Va its.toArray) (λi j=>decide (eI (ps.getD i (0,0)) (ps.getD j (0,0)))) _ hSf (λh h' o k u hu ob e=>k u ob (λz=>?_) (λz=>?_) (o u hu ob e)) (λi j vi vj s' Q' E' o hi hj k=>?_) (by simp[ei];exact pos)
  ⟨st.1.at λo e=>Zl _ e,st.2.at λo e=>Zl _ e⟩ (λu _ o e=>keep0 _ _ e) (Zw _ rfl) λv h' tk hP hk=>?_⟩
 ·have:=Zx e
  rw[ZJ.mp z] at this;exact ZX _ this
 ·have:=Zx e
  rw[z] at this;exact ZX _ (acN sz this)
 ·rw[ei] at hi hj;have g1:(us.map Value.ref)[i]?=some vi:=by simpa using hi
  have g2:(us.map Value.ref)[j]?=some vj:=by simpa using hj
  rw[Zo] at g1 g2;obtain⟨a,a1,rfl⟩:=Zp.mp g1;obtain⟨b,b1,rfl⟩:=Zp.mp g2;obtain⟨ia,ta,na⟩:=yD I hp a1;obtain⟨ib,tb,nb⟩:=yD I hp b1;obtain⟨oa,ga,ra⟩:=ta;obtain⟨ob,gb,rb⟩:=tb;refine HT.zt (s:=s') ⟨oa,o a (Zr a1) _ ga,ra⟩ ⟨ob,o b (Zr b1) _ gb,rb⟩ na nb ?_ ?_
  ·exact ae8 hu
  ·rw[Sm];exact k
 ·rw[ei] at hP;have g1:(us.map Value.ref)[argBest (λi j=>decide (eI (ps.getD i (0,0)) (ps.getD j (0,0)))) (its.toArray.size-1)]?=some v:=by rw[ei];simpa using hP
  rw[Zo] at g1;obtain⟨a,a1,rfl⟩:=Zp.mp g1;obtain⟨q0,q1,_⟩:=hp.get a1;refine⟨.ref a,H,I.kept (t':=tk) λb o e=>hk b o (λz=>?_) (λz=>?_) (keep0 _ _ e),rfl,q _ a q0 a1 q1 λy hy=>?_⟩
  ·have:=Zx e
   rw[ZJ.mp z] at this;exact ZX _ this
  ·have:=Zx e
   rw[z] at this;exact ZX _ (acN sz this)
  ·obtain⟨i,hi,e⟩:=aak hy
   have:=qo (α:=Nat×Nat) (lt:=eI) (λ{a b c} h k=>by unfold eI at *;omega) (λa=>by unfold eI;omega) (λi=>ps.getD i (0,0)) (its.toArray.size-1) i (by simp[ei];omega)
   rw[aa6,Zk hi,adE,e,aa6,q1] at this;exact this
end
end L9
namespace L2
open PySem PySem.Spec PyProof.Rows
theorem tI:∀{zs:List V},zs.all cN=true->dU zs zs=true
 |[],_=>rfl
 |z::zs,h=>by rw[abE,aa7] at h;unfold dU;rw[oI h.1,tI h.2];rfl
def nj(H:Hp)(ts:List Addr)(cs:List (List V)):Prop:=ts.length=cs.length/\∀(i:Nat) t c,ts[i]?=some t->cs[i]?=some c->H t=some (.tup c)/\c.all cN=true
def iE(H:Hp)(zs:List V)(u:Value):Bool:=match u with
 |.ref a=>match H a with
  |some (.tup c)=>dU c zs
  |_=>false
 |_=>false
def EZ(K:PySem.W.Frag)(neg:Bool):R2:=λx y H Q=>∃(t l:Addr) (zs:List V) (ts:List Addr) (cs:List (List V)),x=.ref t/\y=.ref l/\H t=some (.tup zs)/\zs.all cN=true/\aq K H l (ts.map V.ref)/\nj H ts cs/\Q (.bl (if neg then !(cs.any λc=>dU c zs) else cs.any λc=>dU c zs)) H
theorem Cv(h:nj H ts cs)(r:Vals (ts.map V.ref) us):us.any (iE H zs)=cs.any λc=>dU c zs:=by
 have hl:=r.length;rw[Zj] at hl;rw[aat,aa8,aa8];constructor
 ·rintro⟨u,hu,e⟩;obtain⟨i,hi,rfl⟩:=aak hu;have hi':i<ts.length:=by omega
  have hc:i<cs.length:=by rw[<-h.1];exact hi'
  obtain⟨u',e1,ru⟩:=r.get (i:=i) (x:=.ref ts[i]) (by rw[Zo,Zk hi'];rfl);rw[Zk hi] at e1;cases e1;have Cw:us[i]=.ref ts[i]:=ru;rw[Cw] at e;unfold iE at e;dsimp only at e;rw[(h.2 i _ _ (Zk hi') (Zk hc)).1] at e;exact⟨cs[i],abl hc,e⟩
 ·rintro⟨c,hc,e⟩;obtain⟨i,hi,rfl⟩:=aak hc;have hi':i<ts.length:=by rw[h.1];exact hi
  obtain⟨u',e1,ru⟩:=r.get (i:=i) (x:=.ref ts[i]) (by rw[Zo,Zk hi'];rfl);have Cw:u'=.ref ts[i]:=ru;refine⟨u',Zr e1,?_⟩;rw[Cw];unfold iE;dsimp only;rw[(h.2 i _ _ (Zk hi') (Zk hi)).1];exact e
section
theorem tJ(I:Inv X pins σ H s)(hu:A.units<cLine)(ht:H t=some (.tup zs))(fz:zs.all cN=true)(h:nj H ts cs)(r:Vals (ts.map V.ref) us) :
  ∀u∈us,SeqAt.EqAt A s u (.ref t) (iE H zs u):=λu wo=>by
 obtain⟨i,hi,rfl⟩:=aak wo;have hl:=r.length;rw[Zj] at hl;have hi':i<ts.length:=by omega
 have Vb:i<cs.length:=by rw[<-h.1];exact hi'
 obtain⟨u',e1,ru⟩:=r.get (i:=i) (x:=.ref ts[i]) (by rw[Zo,Zk hi'];rfl);rw[Zk hi] at e1;cases e1;have Cw:us[i]=.ref ts[i]:=ru;rw[Cw];obtain⟨hc,fc⟩:=h.2 i _ _ (Zk hi') (Zk Vb);generalize cs[i]=c at hc fc;have e2:iE H zs (.ref ts[i])=dU c zs:=by unfold iE;dsimp only;rw[hc]
 by_cases xV:ts[i]=t
 ·have e:iE H zs (.ref ts[i])=true:=by rw[e2];rw[xV,ht] at hc;cases hc;exact tI fz
  rw[e,xV];exact adP _
 ·refine aeP xV ?_;obtain⟨is,ri,pi,_⟩:=I.tuple (aO.of hc);obtain⟨js,rj,pj,_⟩:=I.tuple (aO.of ht);have z:=ae1 (A:=A) pi pj hu (je (s:=s) fc fz ri rj);have e:((List.range (min is.toArray.size js.toArray.size)).all (λj=>hX (c.getD j .a8) (zs.getD j .a8))&&is.toArray.size==js.toArray.size)=iE H zs (.ref ts[i]):=by
   rw[e2];simp only[Zt];rw[<-ri.length,<-rj.length];by_cases el:c.length=zs.length
   ·rw[qV el,<-gS el];simp[el]
   ·have:(c.length==zs.length)=false:=by simpa using el
    rw[this,aby,gR el]
  rw[<-e];exact z
theorem Cy(hu:X.A.units+1<cLine):cL X (compareOp .In) (EZ X.K false):=by rintro pins s σ H x y v u Q I rx ry ⟨t,l,zs,ts,cs,rfl,rfl,ht,fz,hl,hT,q⟩;cases rx;cases ry;obtain⟨its,r,pl,hz⟩:=I.list hl;refine afn (iE H zs) pl.isList (λw hw=>tJ I (by rw[adR];omega) ht fz hT r w (by simpa using hw)) ⟨.bl _,H,I,rfl,?_⟩;rw[show its.toArray.any (iE H zs)=its.any (iE H zs) by simp,Cv hT r];exact q
end
end L2
namespace L9
open PySem PySem.Spec PyProof.Rows L2
abbrev pV(p:Nat×Nat):List V:=[.int (p.1:Nat),.int (p.2:Nat)]
theorem km(p:Nat×Nat):(pV p).all cN=true:=rfl
theorem ur(p q:Nat×Nat):dU (pV p) (pV q)=decide (p=q):=by
 have:=vd [(p.1:Int),(p.2:Int)] [(q.1:Int),(q.2:Int)]
 rw[show pV p=[(p.1:Int),(p.2:Int)].map V.int from rfl,show pV q=[(q.1:Int),(q.2:Int)].map V.int from rfl,this,aat,ZY,ZY];obtain⟨a,b⟩:=p;obtain⟨c,d⟩:=q;simp only[aaY,adh,and_true];omega
theorem tK(h:aI H us ps):nj H us (ps.map pV):=⟨by rw[Zj,h.len],λi t c e1 e2=>by obtain⟨p,ep,hp⟩:=h.get e1;rw[Zo,ep] at e2;cases e2;exact⟨hp,km p⟩⟩
theorem LI(p:Nat×Nat)(ps:List (Nat×Nat)):((ps.map pV).any λc=>dU c (pV p))=decide (p∈ps):=by
 rw[aat,aa8,ZY];constructor
 ·rintro⟨c,hc,e⟩;obtain⟨q,hq,rfl⟩:=ZD.mp hc;rw[ur,ZY] at e;exact e▸hq
 ·intro h;exact⟨pV p,ZD.mpr ⟨p,h,rfl⟩,by rw[ur];simp⟩
theorem Cz{K:PySem.W.Frag}{H:Hp}{t l:Addr}{p:Nat×Nat}{us:List Addr}{ps:List (Nat×Nat)}{Q:VK}(ht:H t=some (.tup (pV p)))(hl:aq K H l (us.map V.ref))(h:aI H us ps)(q:Q (.bl (decide (p∈ps))) H):EZ K false (.ref t) (.ref l) H Q:=
 ⟨t,l,_,us,_,rfl,rfl,ht,km p,hl,tK h,by rw[if_neg (by decide),LI];exact q⟩
theorem wq{K:PySem.W.Frag}{H:Hp}{t u:Addr}{p r:Nat×Nat}{neg:Bool}{Q:VK}(ht:H t=some (.tup (pV p)))(hu:H u=some (.tup (pV r)))(q:Q (.bl (if neg then !decide (p=r) else decide (p=r))) H):Eh K neg (.ref t) (.ref u) H Q:=
 ⟨t,u,_,_,rfl,rfl,.inr ⟨aO.of ht,aO.of hu⟩,km p,km r,by rw[ur];exact q⟩
section
def IY(K:PySem.W.Frag):V->List V->Hp->VK->Prop:=λx vs H Q=>∃(l t:Addr) (us:List Addr) (ps:List (Nat×Nat)) (p:Nat×Nat),x=.ref l/\vs=[.ref t]/\H t=some (.tup (pV p))/\aq K H l (us.map V.ref)/\aI H us ps/\p∈ps/\ps.length<=1000/\Q (.int (ps.idxOf p:Nat)) H
theorem Ai{k:Nat×Nat}{ns:List (Nat×Nat)}(h:j<ns.idxOf k)(h2:j<ns.length):ns[j]≠k:=λe=>by
 have:=List.not_of_lt_findIdx (p:=(·==k)) (xs:=ns) h
 simp[e] at this
theorem mT(hu:X.A.units+2<cLine):A3 X "list.index" (IY X.K):=by
 rintro pins s σ H x xs v vs Q I rx r ⟨l,t,us,ps,p,rfl,rfl,ht,hq,hp,hm,small,q⟩;cases rx;obtain⟨u,rfl,ru⟩:=vals1 r;cases ru;obtain⟨its,rv,pl,_⟩:=I.list hq;obtain⟨⟨cls,dd,data,sl⟩,ho,hc,n,hd⟩:=pl.isList;simp only at hc hd;subst hc hd;have ei:=iq rv;have hlen:its.length=ps.length:=by rw[ei,Zj,hp.len]
 have hj:ps.idxOf p<ps.length:=abi.mpr hm;have at_:∀(j:Nat) (h1:j<its.length) (h2:j<ps.length),iE H (pV p) its[j]=decide (ps[j]=p):=λj h1 h2=>by
  have wo:j<us.length:=by rw[hp.len];exact h2
  obtain⟨pp,e1,e2⟩:=hp.get (Zk wo);rw[Zk h2] at e1;cases e1
  have:its[j]=Value.ref us[j]:=by simp[ei]
  rw[this];unfold iE;dsimp only;rw[e2];exact ur _ _
 refine acM abD ⟨_,ho,rfl⟩ PySem.F.entry_list_index (PySem.F.args_list_index_2 _ _)
  (SeqAt.list_indexAt l its.toArray n dd sl (.ref t) (iE H (pV p)) (ps.idxOf p) (by simpa [hlen] using hj) (by omega) ?_ ?_) ⟨ho,λy hy=>tJ I (by rw[adR];omega) ht (km p) (tK hp) rv y (by simpa using hy),?_⟩
 ·show iE H (pV p) its[ps.idxOf p]=true
  rw[at_ _ (by omega) hj];simpa using aeT hj
 ·intro j hjs hlt;have Sn:j<its.length:=by simpa using hjs
  show iE H (pV p) its[j]=false
  rw[at_ j Sn (by omega),aaB];exact Ai hlt _
 ·exact⟨.int (ps.idxOf p:Nat),H,I.tok _,⟨_,rfl⟩,q⟩
end
end L9
namespace L2
open PySem PySem.Spec PyProof.Rows L9
def nA(H H':Hp):Prop:=∀b ys,H b=some (.tup ys)->H' b=some (.tup ys)
theorem Oj(k:∀{c:Addr} {ks:List Key},H c=some (.tup (ks.map kV))->(tupleKind (aW P w)).is h ks c):∀{l:List (List Key×V)} {m:List (List Key×Addr×Value)},KT H l m->∀x∈m,(tupleKind (aW P w)).is h x.1 x.2.1:=by
 intro l m q;induction q with
 |nil=>exact λx hx=>nomatch hx
 |cons hq t ih=>
  intro x hx;rcases Zs.mp hx with e|hx
  ·subst e;exact k (by rw[<-hq.1];exact hq.2.1)
  ·exact ih x hx
def wt(own:List Str)(fr:List Nat)(g:TG)(tt:TT)(tk te:TE)(σ:St)(Q:VK)(J:It)(H1:Hp):Prop:=
 ∃W:Nat->Nat->List (List Key×V)->Hp->Prop,(∃m,W 0 m [] H1)/\∀i m kvs H2,W i m kvs H2->kvs.length<=sizeLine /\
  ((J.stop i H2/\∀D,H2 D=none->Q (.ref D) (upd H2 D (.dT kvs))) \/
  (J.go i H2/\∀x H3,J.jw i H2 x H3->g x (cI own fr σ) H3 λσ4 H4=>tt σ4 H4 λb H5=>if b=true then tk σ4 H5 λy H6=>te σ4 H6 λz H7=>∃k c,y=.ref c/\H7 c=some (.tup (k.map kV))/\nA H2 H7/\∃m',m'<m/\W (i+1) m' (putK kvs k z) H7 else nA H2 H5/\∃m',m'<m/\W (i+1) m' kvs H5))
def Vc(own:List Str)(fr:List Nat)(wi:TI)(g:TG)(tt:TT)(tk te:TE):TE:=λσ H Q=>wi σ H (wt own fr g tt tk te σ Q)
section
theorem IZ{pins:List (Addr×Obj)}{tn:Nat->Heap->Prop}{J:It}{RR:Value->Addr->Result->Shared->Prop}{E:Value->Shared->Prop}(hc:X.calm=true)(hu:X.A.units+1<cLine)(S:dD X own fr sc)(gk:GK own.length g)
  (hg:∀s H fp,PG (bJ X own fr sc s H fp) tg g) (ht:∀s H fp,dJ (bJ X own fr sc s H fp) ifs tt) (hk:∀s H fp,PE (bJ X own fr sc s H fp) kx tk) (he:∀s H fp,PE (bJ X own fr sc s H fp) vx te)
  (I2:Inv X pins σ H2 s2) (T:Turn X.prog X.w X.K tg J fp it tn) (st2:tn 0 s2.heap) (f2:∀b∈fp,c5 X pins H2 b) (L:wt own fr g tt tk te σ Q J H2)
  (hRR:∀D C s',(∃m,s'.heap.Ns C m)->@LE.le Nat _ s2.heap.objs.size C->(∃H',H' C=none/\Q (.ref D) H'/\∀h' tk,Heap.SameBut C s'.heap h'->Inv X pins σ H' {s' with heap:=h',toks:=tk})->RR (.ref D) C (.ok .next) s') :
  wpAny (model X.prog X.w) X.A newDict (λacc s₃=>wpAny (model X.prog X.w) X.A (newFunctionEnv sc X.env.globals (cj X.env sc.names []) [] X.env.qual none .none (some X.env)) (λgE s₄ =>codeAny (model X.prog X.w) X.A (.compStart (.DictComp kx vx [⟨tg,iter,ifs,0⟩] sc pos) 0 (.ref it) acc {gE with scope:=relabel sc X.env}) (RR acc gE.locals) s₄) E s₃) E s2:=by
 obtain⟨W,⟨m0,w0⟩,turn⟩:=L;refine wpAny_newObj_type (eY ?_);dsimp only;generalize dv:s2.heap.push {cls:=.type "dict",dict:=none,data:=.dict #[]}=h1;have hz:h1.objs.size=s2.heap.objs.size+1:=by rw[<-dv,Z']
 have hk1:∀b o,s2.heap.get? b=some o->h1.get? b=some o:=λb o e=>by rw[<-dv];exact Zl _ e
 have lI:h1.get? s2.heap.objs.size=some {cls:=.type "dict",data:=.dict #[]}:=by rw[<-dv];exact Zw _ rfl
 have hfl:∀b∈fp,@LT.lt Nat _ b s2.heap.objs.size:=λb hb=>by obtain⟨o,e,_⟩:=T.obj _ _ st2 b hb;exact Zx e
 have I3:=iZ I2 S f2 hz hk1 hfl;rw[hz];generalize hY:bJ X own fr sc s2 H2 fp=Y at I3;have jZ:(hC s2 sc h1).get? s2.heap.objs.size=some {cls:=.type "dict",data:=.dict #[]}:=pushCells_keeps _ _ _ _ (Zl _ lI);have hG:tn 0 (hC s2 sc h1):=T.keep _ _ _ st2 λb _ o e=>pushCells_keeps _ _ _ _ (Zl _ (hk1 b o e));have eP:Y.prog=X.prog:=by rw[<-hY];rfl
 have eW:Y.w=X.w:=by rw[<-hY];rfl
 have eK:Y.K=X.K:=by rw[<-hY];rfl
 have eA:Y.A=X.A:=by rw[<-hY];rfl
 have eX:Y.xe=gB:=by rw[<-hY];rfl
 have ecm:Y.calm=true:=by rw[<-hY];exact hc
 have kQ:({scope:=relabel sc X.env,locals:=s2.heap.objs.size+1,globals:=X.env.globals,cells:=cellsFrom (s2.heap.objs.size+1+1) sc.names (cj X.env sc.names []),qual:=X.env.qual,func:=none,code:=X.env.code,frame:=X.env.frame,builtins:=X.env.builtins}:Env)=Y.env:=by rw[<-hY];rfl
 have eL:Y.env.locals=s2.heap.objs.size+1:=by rw[<-hY];rfl
 rw[kQ];have i4:PG Y tg g:=hY▸hg s2 H2 fp;have i5:dJ Y ifs tt:=hY▸ht s2 H2 fp;have i6:PE Y vx te:=hY▸he s2 H2 fp;have dP:PE Y kx tk:=hY▸hk s2 H2 fp;have dfp:s2.heap.objs.size∉fp:=λz=>ZX _ (hfl _ z);have dC:s2.heap.objs.size≠s2.heap.objs.size+1:=ZQ (aav _);have iF:∀x c,Y.env.cells.lookup x=some c->c≠s2.heap.objs.size:=λx c e z=>by obtain⟨v,o,q,d⟩:=I3.cell x c e;rw[z] at q;have q':=jZ.symm.trans q;cases q';cases d
 have jJ:s2.heap.objs.size∉Y.fs:=by
  rw[<-hY];intro z;rcases Zs.mp (I2.dz _ z) with e|e
  ·exact ZX _ (by have:=I2.lt;rw[<-e] at this;exact this)
  ·exact I2.qI (Zn _) e
 have mv:@LE.le Nat _ Y.s₀.heap.objs.size s2.heap.objs.size:=by rw[<-hY];exact Zn _
 have fpY:∀{H':Hp} {pp:List (Addr×Obj)},(∀b∈fp,H' b=none)->(∀p∈pp,p.1∉fp)->∀b∈fp,c5 Y pp H' b:=λ{H' pp} hn hp b hb=>by
  refine⟨hn b hb,?_,?_,?_,?_,λp hq z=>?_⟩
  ·have:=hfl b hb;rw[eL];intro z;have z':@Eq Nat b (s2.heap.objs.size+1):=z;omega
  ·rw[<-hY];intro z;rcases Zs.mp (I2.dz _ z) with e|e
   ·exact(f2 b hb).2.1 e
   ·exact(f2 b hb).2.2.1 e
  ·exact .inl (by rw[<-hY];exact hb)
  ·exact(I3.ok.uu b (by rw[<-hY];exact hb)).2
  ·rcases Zv.mp hq with q|q
   ·have:p∈([]:List (Addr×Obj)):=by rw[<-hY] at q;exact q
    exact nomatch this
   ·exact hp p q (z▸hb)
 have i7:∀{H':Hp} {s':Shared} {σ':St} {ob:Obj},Inv Y [] σ' H' s'->H' s2.heap.objs.size=none->s'.heap.get? s2.heap.objs.size=some ob->(∀v,ob.data≠.cell v)->Inv Y [(s2.heap.objs.size,ob)] σ' H' s':=λ{H' s' σ' ob} J0 hn e d=>
  J0.bG λp hp=>by
   have:p=(s2.heap.objs.size,ob):=by simpa using hp
   subst this;exact⟨e,hn,by rw[eL];exact dC,jJ,d⟩
 have gF:∀{ob:Obj} (p:Addr×Obj),p∈[(s2.heap.objs.size,ob)]->p.1∉fp:=λ{ob} p hp=>by
  have:p=(s2.heap.objs.size,ob):=by simpa using hp
  subst this;exact dfp
 have loop:codeAny (model X.prog X.w) X.A (.compLoop (.DictComp kx vx [⟨tg,iter,ifs,0⟩] sc pos) 0 (.ref it) (.ref s2.heap.objs.size) Y.env) (RR (.ref s2.heap.objs.size) (s2.heap.objs.size+1)) {s2 with heap:=hC s2 sc h1}:=by
  have BA:fw (hC s2 sc h1) s2.heap.objs.size #[] 0:=⟨_,jZ,⟨rfl,rfl,rfl⟩,rfl⟩
  refine vf.loops (B:=⟨kx,vx,tg,iter,ifs,sc,pos⟩) (λn s'=>∃i kvs xs es ep H',W i n kvs H'/\Inv Y [] (cI own fr σ) H' s'/\tn i s'.heap/\(∀b∈fp,H' b=none)/\H' s2.heap.objs.size=none/\fw s'.heap s2.heap.objs.size es ep/\es.toList=xs.map (entryOfKey (tupleKind (aW X.prog X.w)))/\(xs.map (·.1)).Nodup/\KT H' kvs xs) ?_ (k:=m0)
   ⟨0,[],[],#[],0,H2,w0,I3,hG,λb hb=>(f2 b hb).1,I2.aL.fresh (Zn _),BA,rfl,.nil,.nil⟩
  rintro n s' ⟨i,kvs,xs,es,ep,H',w',J0,cV,ic,hDn,hDo,E1,oK,rv⟩;obtain⟨lJ,eD⟩:=turn i n kvs H' w';obtain⟨ob,KS,oJ,kZ⟩:=hDo;have BB:∀v,ob.data≠.cell v:=λv z=>by rw[kZ] at z;cases z
  have J1:=i7 J0 hDn KS BB;rcases eD with⟨stop,fin⟩|⟨go,step⟩
  ·have d0:=T.done Y eP eW eK ecm i _ s' _ H' gB J1 (fpY ic gF) cV stop;rw[eA] at d0;refine wpAny_mono d0 (λr s4 ⟨hr,J4⟩=>?_) λ_ _ z=>z;subst hr;have pD:=(J4.pin (s2.heap.objs.size,_) (Zm _ Zy)).1;refine hRR _ _ s4 ?_ (aaR _) ⟨upd H' s2.heap.objs.size (.dT kvs),?_,fin _ hDn,λh' tk hs=>?_⟩
   ·obtain⟨m,hn,_⟩:=J4.loc;rw[eL] at hn;exact⟨m,hn⟩
   ·rw[ak (Z0 dC),<-eL];exact J4.free
   ·subst hY;have hO:bg X.prog X.w (upd H' s2.heap.objs.size (.dT kvs)) h' s2.heap.objs.size (.dT kvs):=⟨lJ,beq_eq_false_iff_ne.mpr (Z0 (ZQ I2.big)),xs,rv.keeps λc ys e=>by rw[ak (aw e hDn)];exact e,ob,es,ep,(hs.2 _ dC).trans pD,oJ,kZ,E1,oK⟩
    exact i3 I2 f2 J4 (Zn _) hDn dC hs hO tk
  ·have d0:=T.item Y eP eW eK ecm i _ s' _ H' gB J1 (fpY ic gF) cV go;rw[eA] at d0;refine wpAny_mono d0 (λr s4 ⟨u,hr,h4⟩=>?_) λ_ _ z=>z;subst hr;refine wpAny_mono h4 (λ_ s5 ⟨x,H5,J5,r5,y5,st5,jQ⟩=>?_) λ_ _ z=>z;have mw:=J5.pinned (fpY jQ gF) (T.obj _ _ st5);have s1:=i4 _ s5 _ H5 x u _ mw r5 (gk _ _ _ _ (step x H5 y5));rw[eP,eW,eA,eX] at s1;refine wpAny_mono s1 (λ_ s6 ⟨σ6,H6,J6,q6,jz⟩=>?_) λ_ _ z=>z;have s2':=i5 _ s6 σ6 H6 _ J6 q6;rw[eP,eW,eA,eX] at s2';refine wpAny_mono s2' (λok s7 ⟨H7,J7,q7⟩=>?_) λ_ _ z=>z;have low:∀{H8:Hp} {s8:Shared},Inv Y ([(s2.heap.objs.size,ob)]++cb fp s5.heap) σ6 H8 s8 ->
     Inv Y (cb fp s5.heap) σ6 H8 s8/\H8 s2.heap.objs.size=none/\s8.heap.get? s2.heap.objs.size=some ob/\(∀b∈fp,H8 b=none)/\tn (i+1) s8.heap:=λ{H8 s8} J8=>by
    have p8:=J8.pin (s2.heap.objs.size,_) (Zm _ (ZN _ Zy));refine⟨J8.bG λp hp=>J8.pin p (Zm _ (Zm _ hp)),p8.2.1,p8.1,λb hb=>?_,T.keep _ _ _ st5 λb hb o e=>(J8.pin (b,o) (Zm _ (Zm _ (bM hb e)))).1⟩;obtain⟨o,e,d⟩:=T.obj _ _ st5 b hb;exact(J8.pin (b,o) (Zm _ (Zm _ (bM hb e)))).2.1
   have weak:∀{H8:Hp} {s8:Shared} {pp:List (Addr×Obj)},Inv Y pp σ6 H8 s8->Inv Y [] (cI own fr σ) H8 s8:=λ{H8 s8 pp} J8=>(J8.weak jz.1.symm (λj v e=>by
    by_cases hj:j<own.length
    ·exfalso;unfold cI at e;rw[ZZ (by simpa using hj),aaO] at e;split at e<;>cases e
    ·rw[jz.2 j (acP.mp hj)];exact e)).bG λp hp=>nomatch hp
   cases ok with
   |false=>
    obtain⟨kt,m',hm,w7⟩:=(show nA H' H7/\∃m',m'<n/\W (i+1) m' kvs H7 by simpa using q7)
    obtain⟨_,l1,l2,l3,l4⟩:=low J7;exact⟨m',hm,i+1,kvs,xs,es,ep,H7,w7,weak J7,l4,l3,l1,⟨ob,l2,oJ,kZ⟩,E1,oK,rv.keeps kt⟩
   |true=>
    have pU:tk σ6 H7 λy H6=>te σ6 H6 λz H7=>∃k c,y=.ref c/\H7 c=some (.tup (k.map kV))/\nA H' H7/\∃m',m'<n/\W (i+1) m' (putK kvs k z) H7:=by simpa using q7
    have s3:=dP _ s7 σ6 H7 _ J7 pU;rw[eP,eW,eA,eX] at s3;show wpAny _ _ _ _ _ _
    refine wpAny_mono s3 (λyv s8 ⟨y,H8,J8,r8,q8⟩=>?_) λ_ _ z=>z;have s4':=i6 _ s8 σ6 H8 _ J8 q8;rw[eP,eW,eA,eX] at s4';refine wpAny_mono s4' (λzv s9 ⟨z,H9,J9,r9,ky,c,ey,Qi,kt,m',hm,w9⟩=>?_) λ_ _ z=>z;subst ey;obtain⟨BC,l1,l2,l3,l4⟩:=low J9;cases (show yv=Value.ref c from r8);have Qj:=rv.keeps kt;have Vd:∀x∈xs,(tupleKind (aW X.prog X.w)).is s9.heap x.1 x.2.1:=Oj (λ{c ks} e=>by have:=jW BC.aL e;rwa [eP,eW] at this) Qj;refine wpAny_dictSet_heap (knd:=tupleKind (aW X.prog X.w)) (hsz:=by rw[<-ZG rv];exact lJ) (hu:=ae8 hu) (by have:=jW BC.aL Qi;rwa [eP,eW] at this) (⟨ob,es,ep,l2,oJ,kZ,E1,Vd,oK⟩:s9.heap.DictOfH (tupleKind (aW X.prog X.w)) s2.heap.objs.size xs) λh' uS hs'=>?_;obtain⟨Ve,es',iS,d1,d2,d3,d4,_,d5⟩:=uS;have vk:Inv Y [] (cI own fr σ) H9 {s9 with heap:=h',toks:=s9.toks+(tupleKind (aW X.prog X.w)).draws ky}:=by
     refine(weak BC).turned (t':=s9.toks+(tupleKind (aW X.prog X.w)).draws ky) (it:=s2.heap.objs.size) (λb o hb e=>(hs'.2 b hb).trans e) l1 (by rw[eL];exact dC) (.inr mv) iF λp hp=>?_
     have:p∈([]:List (Addr×Obj)):=by rw[<-hY] at hp;exact hp
     exact nomatch this
    refine⟨m',hm,i+1,putK kvs ky z,storedH xs ky c zv,es',iS,H9,w9,vk,?_,l3,l1,⟨Ve,d1,d2,d3⟩,d4,d5,Qj.put ky Qi r9⟩;exact T.keep _ _ _ l4 λb hb o e=>(hs'.2 b (λz=>dfp (z▸hb))).trans e
 exact ad4 loop (T.self X.A 0 _ _ _ hG loop)
theorem Ol(own:List Str)(fr:List Nat)(hc:X.calm=true)(hu:X.A.units+1<cLine)(S:dD X own fr sc)(gk:GK own.length g)(hi:PI X tg iter wi)
  (hg:∀s H fp,PG (bJ X own fr sc s H fp) tg g) (ht:∀s H fp,dJ (bJ X own fr sc s H fp) ifs tt) (hk:∀s H fp,PE (bJ X own fr sc s H fp) kx tk) (he:∀s H fp,PE (bJ X own fr sc s H fp) vx te)
  (hs:∀x,foldedSetIterable iter X.env x=pure x:=by intro _;rfl):PE X (.DictComp kx vx [⟨tg,iter,ifs,0⟩] sc pos) (Vc own fr wi g tt tk te):=by
 intro pins s σ H Q I h;show wpAny _ _ (comprehension (.DictComp kx vx [⟨tg,iter,ifs,0⟩] sc pos) sc X.env (firstIterPos [⟨tg,iter,ifs,0⟩] pos) newDict (firstAsync [⟨tg,iter,ifs,0⟩]) (firstIter [⟨tg,iter,ifs,0⟩] X.env)) _ _ _
 have gG:closureFor sc X.env=pure (cj X.env sc.names []):=dh λy hy hf=>I.ok.has y.1 (by
  rcases S.sE y hy hf with q|q
  ·exact .inl q
  ·exact .inr q)
 refine wpAny_comprehension_free (use:=none) rfl hs gG S.kind (λy hy hl=>bH S.nd (by rw[<-hl];exact hy)) ?_;refine aH (hi pins s σ H _ I h) λv s1 h1=>aH h1 λitv s2 h2=>?_;obtain⟨it,fp,tn,J,H2,e,I2,T,st2,f2,L⟩:=h2;subst e;exact IZ hc hu S gk hg ht hk he I2 T st2 f2 L λD C s' ⟨m,hn⟩ _ ⟨H',_,q,hi⟩=>⟨m,hn,λh' hs'=>⟨.ref D,H',hi h' s'.toks hs',rfl,q⟩⟩
end
end L2
namespace L9
open PySem PySem.Spec PyProof.Rows L2
section
variable {prog:Program}{w:World}{K:Type}[DecidableEq K]{knd:HeapKind prog w K}{A:Around}{E:Value->Shared->Prop}{s:Shared}
theorem tY(hu:knd.room A)(hkey:knd.is s.heap k a)(hm:s.heap.DictOfH knd d xs)(new:k∉xs.map (·.1))
  (hQ:∀h',h'.DictOfH knd d (xs++[(k,a,v)])->Heap.SameBut d s.heap h'->Q () {s with heap:=h' }) (hsz:xs.length<=sizeLine):wpAny (model prog w) A (dictSetHashed d (.ref a) (knd.hash k) v) Q E s:=by
 obtain⟨o,es,ep,ho,hc,hd,he,his,hn⟩:=hm;unfold dictSetHashed;try with_reducible refine wpAny_holding ?_
 refine wpAny_bind (wpAny_dictFind_heap hu hkey ho hd he his hn (λ_=>?_) λj p hj=>absurd (ZD.mpr ⟨_,Zr hj,rfl⟩) new);refine wpAny_bind (wpAny_rule (wpAny_updateDictKeys (hz:=by have e:=abL he;omega) ho hd (hQ _ ⟨_,_,ep+1,aad _ ho (aeC (ab0 hd _)),hc.mapDictKeys _,ab0 hd _,by simp[he,entryOfKey],λx hx=>?_,?_⟩ (aac ..))))
 ·rcases Zv.mp hx with hx|hx
  ·exact knd.keeps (his x hx) ho hd (aac ..)
  ·obtain rfl:x=(k,a,v):=by simpa using hx
   exact knd.keeps hkey ho hd (aac ..)
 ·rw[ZU,ZP];exact⟨hn,by simp,λx hx y hy e=>new (by obtain rfl:y=k:=(by simpa using hy);exact e▸hx)⟩
end
section
variable {prog:Program}{w:World}{K:Type}[DecidableEq K]{knd:KeyKind prog w K}{A:Around}{E:Value->Shared->Prop}{s:Shared}
theorem xA{id:String}{es:Array DictEntry}{xs:List (List K×Addr×Value)}{Q:Array DictEntry->Shared->Prop}(ho:s.heap.get? d=some o)(hd:o.data=.dict es ep)(he:es.toList=xs.map (entryOfKey (tupleKind knd)))
  (his:∀x∈xs,(tupleKind knd).is s.heap x.1 x.2.1) (apart:(xs.map λx=>(tupleKind knd).hash x.1).Nodup) (h:Q es s):wpAny (model prog w) A (Builtin.Dict.entriesForEmpty id d) Q E s:=by
 unfold Builtin.Dict.entriesForEmpty;refine wpAny_bind (wpAny_dictEntries ho hd (wpAny_bind ?_));rw[<-ac8];refine abW _ (λrest _ s'=>s'=s/\∀e∈rest,e∈es.toList) _ ?_ ?_ _ _ ⟨rfl,λe h=>h⟩
 ·rintro e rest b s' ⟨rfl,sub⟩;have me:=sub e (by simp);rw[he] at me;obtain⟨x,hx,rfl⟩:=ZD.mp me;have T:s'.TypeIs (.ref x.2.1) "tuple" := (his x hx).typeIs;refine wpAny_bind (m:=Builtin.Dict.quietEq (.ref x.2.1)) ?_;unfold Builtin.Dict.quietEq;refine wpAny_bind (wpAny_specialOf T PySem.F.slot_tuple_eq.lookup (wpAny_pure ?_));rw[show(some (Value.builtin "tuple.__eq__")==some (Value.builtin "object.__eq__"))=false by decide];simp only[abS,Z7];have aP:¬ (es.filter λe'=>e'.hash==(entryOfKey (tupleKind knd) x).hash).size > 1:=by
   have e1:(es.filter λe'=>e'.hash==(entryOfKey (tupleKind knd) x).hash).size=(xs.filter λy=>(tupleKind knd).hash y.1==(tupleKind knd).hash x.1).length:=by rw[<-Z9,aeA,he,List.filter_map,Zj];rfl
   rw[e1]
   have:∀(l:List (List K×Addr×Value)),(l.map λx=>(tupleKind knd).hash x.1).Nodup->(l.filter λy=>(tupleKind knd).hash y.1==(tupleKind knd).hash x.1).length<=1:=by
    intro l;induction l with
    |nil=>intro _;exact ZE _
    |cons y l ih=>
     intro nd;rw[ZI,ZT] at nd;rw[afj];split
     ·rename_i hy
      have:l.filter (λz=>(tupleKind knd).hash z.1==(tupleKind knd).hash x.1)=[]:=ad8.mpr λz hz hc=>nd.1 (ZD.mpr ⟨z,hz,by rw[eq_of_beq hc,<-eq_of_beq hy]⟩)
      rw[this];exact Zn _
     ·exact ih nd.2
   have:=this xs apart
   omega
  rw[if_neg aP];exact wpAny_pure ⟨rfl,λe h=>sub e (by simp[h])⟩
 ·rintro b s' ⟨rfl,_⟩;exact wpAny_pure h
theorem I0{es:Array DictEntry}{y:List K×Addr×Value}{ys:List (List K×Addr×Value)}(he:es.toList=(y::ys).map (entryOfKey (tupleKind knd))):(decide (es.size<=8)&&es.all λe=>(keyPart e.key).isSome)=false:=by rw[<-Array.all_toList,he,ZI,abE,show(keyPart (entryOfKey (tupleKind knd) y).key).isSome=false from rfl,ac2,aby]
theorem CA{nm:String}{xs ys:List (List K×Addr×Value)}{Q:Unit->Shared->Prop}(hu:(tupleKind knd).room A)(hdo:d≠o)(hoS:(o==sysModules)=false)(hd:s.heap.DictOfH (tupleKind knd) d xs)(ho:s.heap.DictOfH (tupleKind knd) o ys)(ne:ys≠[])
  (qg:∀y∈ys,y.1∉xs.map (·.1)) (apart:xs=[]->(ys.map λx=>(tupleKind knd).hash x.1).Nodup) (hQ:∀h',h'.DictOfH (tupleKind knd) d (xs++ys)->Heap.SameBut d s.heap h'->Q () {s with heap:=h' }) (hsz:xs.length+ys.length<=sizeLine) :
  wpAny (model prog w) A (Builtin.Dict.mergeDict nm d o) Q E s:=by
 obtain⟨od,esd,Vf,d1,d2,d3,d4,d5,d6⟩:=id hd;obtain⟨oo,eso,Ym,o1,o2,o3,o4,o5,o6⟩:=id ho;unfold Builtin.Dict.mergeDict;rw[if_neg (by simpa using hdo)];unfold Builtin.Dict.showsAll;rw[if_neg (by rw[hoS];decide)];refine wpAny_bind (wpAny_pure (wpAny_bind (wpAny_dictEntries o1 o3 ?_)));have nf:(decide (eso.size<=8)&&eso.all λe=>(keyPart e.key).isSome)=false:=by
  cases ys with
  |nil=>exact absurd rfl ne
  |cons y ys=>exact I0 o4
 have so:eso.size=ys.length:=abL o4;have sd:esd.size=xs.length:=abL d4;dsimp only;rw[nf];simp only[abS,Z7];refine wpAny_bind (wpAny_dictEntries d1 d3 ?_);by_cases c:xs=[]
 ·subst c;have e0:esd.isEmpty=true:=by rw[abM,sd];rfl
  rw[if_pos e0];refine wpAny_bind (xA o1 o3 o4 o5 (apart rfl) ?_);have n0:eso.isEmpty=false:=by
   cases e:eso.isEmpty with
   |false=>rfl
   |true =>rw[abM,so] at e;exact absurd (Z4.mp e) ne
  rw[n0];simp only[abS,Z7];refine wpAny_bind (wpAny_updateDictKeysTo d1 d3 (wpAny_pure (hQ _ ⟨_,eso,Vf+1,aad _ d1 (aeC (ab0 d3 _)),d2.mapDictKeys _,ab0 d3 _,o4,λx hx=>(tupleKind knd).keeps (o5 x hx) d1 d3 (aac ..),o6⟩ (aac ..))) (by rw[so];simp only[aaL,abA] at hsz;omega))
 ·have e0:¬ (esd.isEmpty=true):=by rw[abM,sd];exact λz=>c (Z4.mp z)
  rw[if_neg e0];refine wpAny_bind (wpAny_dictEpoch o1 o3 (wpAny_bind (wpAny_dictEntries o1 o3 (wpAny_bind ?_))));rw[aeD];simp only[Std.Legacy.Range.size,af5,aca,Nat.div_one];refine abW _ (λrest _ s'=>∃h' i,s'={s with heap:=h' }/\rest=List.range' i (eso.size-i)/\i<=eso.size/\h'.DictOfH (tupleKind knd) d (xs++ys.take i)/\h'.get? o=some oo/\Heap.SameBut d s.heap h') _ ?_ ?_ _ _ ⟨s.heap,0,rfl,by simp,ZE _,by simpa using hd,o1,adl _ _⟩
  ·rintro x rest b s' ⟨h',i,rfl,hr,hi,nE,ho',hs'⟩;have lt:i<eso.size:=by
    rcases aa3 i eso.size with h|h
    ·exact h
    ·rw[Nat.sub_eq_zero_of_le h] at hr;simp at hr
   rw[show eso.size-i=(eso.size-(i+1))+1 by omega,afk] at hr;obtain⟨rfl,zq⟩:=afD hr;have ly:x<ys.length:=by omega
   have ge:eso[x]?=some (entryOfKey (tupleKind knd) ys[x]):=by rw[entry_at o4,Zk ly];rfl
   refine wpAny_bind (wpAny_dictEntries ho' o3 ?_);rw[ge];dsimp only;have new:ys[x].1∉(xs++ys.take x).map (·.1):=λhm=>by
    rw[ZU,Zv] at hm;rcases hm with hm|hm
    ·exact qg _ (abl ly) hm
    ·obtain⟨z,hz,ez⟩:=ZD.mp hm;obtain⟨j,hj,e⟩:=aak hz;rw[ZK] at hj;rw[acm] at e
     have:=idxH_unique o6 (i:=j) (j:=x) (k:=ys[x].1) (p:=ys[j].2) (q:=ys[x].2) (by rw[Zk (by omega)];rw[<-ez,<-e]) (by rw[Zk ly])
     omega
   have key:(tupleKind knd).is h' ys[x].1 ys[x].2.1:=(tupleKind knd).keeps (o5 _ (abl ly)) d1 d3 hs';refine wpAny_bind (wpAny_holding (tY (knd:=tupleKind knd) (s:={s with heap:=h' }) hu key nE new (λg So hs''=>?_) (by rw[ZA,ZK];omega)));have LJ:g.get? o=some oo:=(hs''.2 o (Z0 hdo)).trans ho';refine wpAny_bind (wpAny_dictEpoch LJ o3 ?_);rw[if_neg (by simp)];refine wpAny_pure ⟨g,x+1,rfl,zq,lt,?_,LJ,hs'.trans hs''⟩;rw[List.take_succ_eq_append_getElem ly,<-ZV];exact So
  ·rintro b s' ⟨h',i,rfl,hr,hi,nE,ho',hs'⟩;have e:i=eso.size:=by
    rcases aa3 i eso.size with h|h
    ·rw[show eso.size-i=(eso.size-(i+1))+1 by omega,afk] at hr;exact nomatch hr
    ·omega
   rw[e,so,Z6] at nE;exact wpAny_pure (hQ h' nE hs')
end
section
variable {prog:Program}{w:World}{K:Type}[DecidableEq K]
theorem oV(knd:KeyKind prog w K)(d o:Addr)(hdo:d≠o)(hoS:(o==sysModules)=false) :
  MeetsIn prog w (Builtin.«dict.update» ⟨[.ref d,.ref o],[]⟩) (λA R s=>∃xs ys,(tupleKind knd).room A.in1/\s.heap.DictOfH (tupleKind knd) d xs/\s.heap.DictOfH (tupleKind knd) o ys/\ys≠[]/\(∀y∈ys,y.1∉xs.map (·.1))/\(xs=[]->(ys.map λx=>(tupleKind knd).hash x.1).Nodup)/\xs.length+ys.length<=sizeLine /\
   ∀h',h'.DictOfH (tupleKind knd) d (xs++ys)->Heap.SameBut d s.heap h'->R (.ok (.ret .none)) {s with heap:=h' }):=
 .of_wp λA R s ⟨xs,ys,hu,hd,ho,ne,qg,apart,hsz,h⟩=>by
  unfold Builtin.«dict.update» Builtin.Dict.selfAndRest;refine wpAny_bind (wpAny_bind (wpAny_notOrdered_dict hd.typeIs ?_));show wpAny _ _ (pure (d,[Value.ref o])) _ _ s
  refine wpAny_pure ?_;show wpAny _ _ (Builtin.Dict.updateFrom "dict.update" d (.ref o) [] .none) _ _ s
  unfold Builtin.Dict.updateFrom;refine wpAny_bind (wpAny_typeOf ho.typeIs ?_);rw[if_neg (by decide)];refine wpAny_bind ?_;unfold Builtin.Dict.merge;refine wpAny_bind ?_;unfold Builtin.Dict.readDirectly;refine wpAny_bind (wpAny_isInstance ho.typeIs isSubtype_dict_dict ?_);simp only[abG,ZR,aam];refine wpAny_bind (wpAny_specialOf ho.typeIs acx.lookup (wpAny_pure ?_));simp only[beq_self_eq_true,Z7];refine wpAny_bind (wpAny_pure (CA (hsz:=hsz) hu hdo hoS hd ho ne qg apart λh' nE hs'=>?_));show wpAny _ _ (Builtin.Dict.addKeywords d []>>=λ_=>_) _ _ _
  exact wpAny_bind (wpAny_pure (wpAny_pure ⟨.none,rfl,h h' nE hs'⟩))
end
section
def Om(P:Program)(w:World):V->List V->Hp->VK->Prop:=λx vs H Q=>∃(a b:Addr) (kvs more:List (List Key×V)),x=.ref a/\vs=[.ref b]/\H a=some (.dT kvs)/\H b=some (.dT more)/\a≠b/\more≠[]/\(∀y∈more,y.1∉kvs.map (·.1))/\(kvs=[]->(more.map λy=>(tupleKind (aW P w)).hash y.1).Nodup)/\kvs.length+more.length<=sizeLine/\Q .a8 (upd H a (.dT (kvs++more)))
theorem yE(r:KT H l m):l.map (·.1)=m.map (·.1):=by
 induction r with
 |nil=>rfl
 |cons h _ ih=>rw[ZI,ZI,ih,h.1]
theorem LK(r:KT H l m)(r':KT H l' m'):KT H (l++l') (m++m'):=by
 induction r with
 |nil=>exact r'
 |cons h _ ih=>exact .cons h ih
theorem Aj(hu:X.A.units+1<cLine)(hP:X.prog=P:=by rfl)(hw:X.w=w:=by rfl):A3 X "dict.update" (Om P w):=by
 subst hP hw;rintro pins s σ H x vs v us Q I rx rv ⟨a,b,kvs,more,rfl,rfl,ha,hb,ne,nm,qg,ap,sz,q⟩;cases rx;obtain⟨u,rfl,ru⟩:=vals1 rv;cases ru;obtain⟨z1,lo1,xs,r1,Qk⟩:=zF I.aL ha;obtain⟨z2,Vg,ys,r2,nI⟩:=zF I.aL hb;have k1:=yE r1;have k2:=yE r2;refine call_meetsIn adF Qk.typeIs PySem.F.entry_dict_update (PySem.F.args_dict_update_2 _ _) (oV (aW X.prog X.w) a b ne Vg) ⟨xs,ys,tupleKind_room_in1 hu,Qk,nI,?_,λy hy hm=>?_,λe=>?_,?_,λh' pR hs=>?_⟩
 ·rintro rfl;cases r2;exact nm rfl
 ·rw[<-k1] at hm
  have:y.1∈more.map (·.1):=by rw[k2];exact ZD.mpr ⟨y,hy,rfl⟩
  obtain⟨y',iC,e⟩:=ZD.mp this;exact qg y' iC (e▸hm)
 ·subst e
  have:=ap (by cases r1;rfl)
  have e2:(ys.map λx=>(tupleKind (aW X.prog X.w)).hash x.1)=more.map λy=>(tupleKind (aW X.prog X.w)).hash y.1:=by rw[show(ys.map λx=>(tupleKind (aW X.prog X.w)).hash x.1)=(ys.map (·.1)).map (tupleKind (aW X.prog X.w)).hash by rw[aaC];rfl,<-k2,aaC];rfl
  rw[e2];exact this
 ·rw[<-ZG r1,<-ZG r2];exact sz
 ·obtain⟨o',es',iS,g1,g2,g3,g4,_,g5⟩:=pR;refine⟨.a8,_,mZ (t':=s.toks) (ob:=.dT (kvs++more)) I (by rw[ha];exact True.intro) hs ⟨o',g1⟩ ⟨by rw[ZA];exact sz,lo1,xs++ys,(LK r1 r2).keeps λc cB ec=>?_,o',es',iS,g1,g2,g3,g4,g5⟩,rfl,q⟩;rw[ak (cg ec ha (λz=>nomatch z))];exact ec
end
section
theorem yF{Q:Value->Shared->Prop}(lo:(d==sysModules)=false)(x:fw s.heap d es ep)(fit:(es.size:Int)<2 ^ 63)(h:∀t tk,Q (.int es.size t) {s with toks:=tk}):wpAny (model prog w) A (Builtin.«len» ⟨[.ref d],[]⟩) (λfin s'=>∃r,fin=.done (.ret r)/\Q r s') E s:=by
 have ty:=x.ty;obtain⟨o,a,b,c⟩:=x;unfold Builtin.«len»;refine wpAny_bind (m:=oneArg "len" _) (wpAny_pure (wpAny_bind (m:=callSpecial? (.ref d) (Str.ofString "__len__")) (aar (name:=Str.ofString "__len__") ty abT (wpAny_call_entry abT ty PySem.F.entry_dict_len ?_ (PySem.F.args_dict_len_1 _)))));show wpAny _ _ (dictSize d>>=λ_=>_) _ _ s
 unfold dictSize;refine wpAny_bind (wpAny_bind (wpAny_dictEntries a c (wpAny_pure (wpAny_bind (wpAny_pendingCount_other lo (wpAny_ret_mkInt ?_))))));rw[show(es.size:Int)+((0:Nat):Int)=es.size by omega];refine wpAny_bind (wpAny_holding (wpAny_pure (wpAny_bind (wpAny_letGo ?_))));show wpAny _ _ (if ((es.size:Nat):Int)<0 then _ else _) _ _ _
 rw[if_neg (by omega)];show wpAny _ _ (if ((es.size:Nat):Int) ≥ 2 ^ 63 then _ else _) _ _ _
 rw[if_neg (by omega)];exact wpAny_bind (wpAny_mkInt (wpAny_pure ⟨_,rfl,h _ _⟩))
theorem Ak{Q:Bool->Shared->Prop}(lo:(d==sysModules)=false)(x:fw s.heap d es ep)(fit:(es.size:Int)<2 ^ 63)(h:∀tk,Q (decide (es.size≠0)) {s with toks:=tk}):wpAny (model prog w) A (truthy (.ref d)) Q E s:=by
 have hne:((es.size:Int) !=0)=decide (es.size≠0):=by rw[aat,bne_iff_ne,ZY];omega
 have key:wpAny (model prog w) A (runValue (.builtin "len" ⟨[.ref d],[]⟩)) (λr s'=>∃t,r=.int es.size t/\Q (decide (es.size≠0)) s') E s:=by refine wpAny_runValue (codeAny_builtin entry_len ?_);rw[aaQ plain_len _];exact wpAny_mono (yF (Q:=λr s'=>∃t,r=.int es.size t/\Q (decide (es.size≠0)) s') lo x fit λt tk=>⟨t,rfl,h tk⟩) (λfin s' ⟨r,e,q⟩=>by subst e;exact q) λ_ _ z=>z
 unfold truthy;first
  |refine wpAny_bind (adL (name:=Str.ofString "__bool__") x.ty noBool_dict ?_)
  |refine wpAny_bind (wpAny_pure (wpAny_bind (adL (name:=Str.ofString "__bool__") x.ty noBool_dict ?_)))
 first
  |refine wpAny_bind (wpAny_specialOf (name:=Str.ofString "__len__") x.ty abT.lookup ?_)
  |refine wpAny_bind (wpAny_pure (wpAny_bind (wpAny_specialOf (name:=Str.ofString "__len__") x.ty abT.lookup ?_)))
 first
  |exact wpAny_bind (wpAny_mono key (λr s' ⟨t,e,q⟩=>by subst e;exact wpAny_pure (hne▸q)) λ_ _ z=>z)
  |exact wpAny_bind (wpAny_pure (wpAny_bind (wpAny_mono key (λr s' ⟨t,e,q⟩=>by subst e;exact wpAny_pure (hne▸q)) λ_ _ z=>z)))
end
section
theorem LL:JT X (λx H Q=>∃p kvs,x=.ref p/\H p=some (.dT kvs)/\Q (!kvs.isEmpty) H):=by
 rintro pins s σ H x v Q I rx ⟨p,kvs,rfl,hp,q⟩;cases rx;obtain⟨z,lo,ys,rel,o,es,ep,g1,g2,g3,g4,g5⟩:=(show bg X.prog X.w H s.heap p (.dT kvs) from I.aL p _ hp)
 have sz:es.size=kvs.length:=by rw[abL g4];exact(ZG rel).symm
 refine Ak lo ⟨o,g1,g2,g3⟩ (by rw[sz];rw[acq] at z;omega) λtk=>?_;have e:decide (es.size≠0)=!kvs.isEmpty:=by rw[sz];cases kvs<;>simp
 rw[e];exact⟨H,I.kept (t':=tk) λ_ _ z=>z,q⟩
end
end L9
namespace L2
open PySem PySem.Spec PyProof.Rows
section
theorem yG(hit:IsTupIter s.heap it t i)(ht:IsTup s.heap t items)(hx:items[i]?=some x)
  (hQ:∀h',IsTupIter h' it t (i+1)->Heap.SameBut it s.heap h'->Q x {s with heap:=h' }):wpAny (model prog w) A (Builtin.SmallTypes.nextOf (.ref it)) Q E s:=by
 obtain⟨o,ho,hc,hd⟩:=id hit;obtain⟨ol,LM,_,nl,LN⟩:=ht;unfold Builtin.SmallTypes.nextOf;refine wpAny_bind (aar (name:=Str.ofString "__next__") hit.typeIs ab4 (wpAny_call_entry ab4 hit.typeIs aet ?_ (args_tupleiter_next _)));show wpAny _ _ (field (.ref it) 0>>=_) _ _ s
 refine wpAny_bind (wpAny_field ho hd (x:=.ref t) rfl ?_);show wpAny _ _ (if (Value.ref t==Value.none)=true then _ else _) _ _ s
 rw[if_neg (show ¬ ((Value.ref t==Value.none)=true) from ZM)];show wpAny _ _ (field (.ref it) 1>>=_) _ _ s
 refine wpAny_bind (wpAny_field ho hd (x:=.int i 0) rfl ?_);show wpAny _ _ (seqItems? (.ref t)>>=_) _ _ s
 refine wpAny_bind (wpAny_seqItems LM LN ?_);simp only[aaT,hx];refine wpAny_bind (wpAny_setField ho hd (by simp) (wpAny_pure ⟨x,rfl,wpAny_pure (hQ _ ?_ (aac ..))⟩));exact⟨_,aad _ ho (aba (aax hd _)),(abO ..).trans hc,by rw[aax hd];simp[rawInt]⟩
theorem LO(hh:A.handled=none)(hit:IsTupIter s.heap it t i)(ht:IsTup s.heap t items)(hx:items[i]?=none)
  (hE:∀h' e,Heap.ExtBut it s.heap h'->(∃o,h'.get? e=some o/\o.cls=.type "StopIteration")->E (.ref e) {s with heap:=h' }):wpAny (model prog w) A (Builtin.SmallTypes.nextOf (.ref it)) Q E s:=by
 obtain⟨o,ho,hc,hd⟩:=id hit;obtain⟨ol,LM,_,nl,LN⟩:=ht;unfold Builtin.SmallTypes.nextOf;refine wpAny_bind (aar (name:=Str.ofString "__next__") hit.typeIs ab4 (wpAny_call_entry ab4 hit.typeIs aet ?_ (args_tupleiter_next _)));show wpAny _ _ (field (.ref it) 0>>=_) _ _ s
 refine wpAny_bind (wpAny_field ho hd (x:=.ref t) rfl ?_);show wpAny _ _ (if (Value.ref t==Value.none)=true then _ else _) _ _ s
 rw[if_neg (show ¬ ((Value.ref t==Value.none)=true) from ZM)];show wpAny _ _ (field (.ref it) 1>>=_) _ _ s
 refine wpAny_bind (wpAny_field ho hd (x:=.int i 0) rfl ?_);show wpAny _ _ (seqItems? (.ref t)>>=_) _ _ s
 refine wpAny_bind (wpAny_seqItems LM LN ?_);simp only[aaT,hx];refine wpAny_bind (wpAny_rule (wpAny_bind (wpAny_setField ho hd (by simp) ?_)));show wpAny _ _ (newExc (.type "StopIteration") []>>=_) _ _ _
 refine wpAny_bind ?_;simp only[newExc,newTuple];refine wpAny_bind (wpAny_newObj_type ?_ (by size_fits));refine wpAny_bind (m:=firstArgMember _ _) (wpAny_of_eq (a:=Value.none) (by first|rfl|(simp only[firstArgMember];rfl)) ?_);refine wpAny_newObj_type ?_ (by size_fits);simp only[raiseNew];refine wpAny_bind (wpAny_handled ?_);first|rw[show A.in1.handled=none from hh]|rw[hh]
 refine wpAny_bind (wpAny_pure (wpAny_throw ?_));exact hE _ _ (((aac ..).extBut.push _).push _) ⟨_,Zw _ rfl,rfl⟩
theorem IsTup.sb(x:IsTup h a xs)(k:Heap.ExtBut b h h')(n:a≠b):IsTup h' a xs:=let ⟨o,e,r⟩:=x;⟨o,k a o n e,r⟩
theorem LP{z TI TO i1 i2 l1 l2:Addr}{k1:Nat}{xs:Array Value}{a b:Value}{Q:Fin->Shared->Prop}(hh:A.handled=none)(D:ZipApart z TI TO i1 i2 l1 l2)
  (hz:IsZip s.heap z TI TO .none) (hTI:IsPair s.heap TI (.ref i1) (.ref i2)) (hTO:IsPair s.heap TO a b) (h1:IsTupIter s.heap i1 l1 k1) (hl1:IsTup s.heap l1 xs) (hx:xs[k1]?=none)
  (hE:∀h' e,(∀c o,c≠z->c≠TO->c≠i1->c≠i2->s.heap.get? c=some o->h'.get? c=some o)->(∃o,h'.get? e=some o/\o.cls=.type "StopIteration")->E (.ref e) {s with heap:=h' }) :
  wpAny (model prog w) A (Builtin.«zip.__next__» ⟨[.ref z],[]⟩) Q E s:=by
 show wpAny _ _ (field (.ref z) 2>>=_) _ _ _
 refine wpAny_bind (wpAny_field hz rfl (x:=.bool false) rfl ?_);show wpAny _ _ (field (.ref z) 3>>=_) _ _ _
 refine wpAny_bind (wpAny_field hz rfl (x:=.ref TI) rfl ?_);refine wpAny_bind (wpAny_seqItems hTI rfl ?_);show wpAny _ _ (Builtin.SmallTypes.ownedTupleIsFree (.ref z)>>=_) _ _ _
 refine wpAny_bind ?_;unfold Builtin.SmallTypes.ownedTupleIsFree;refine wpAny_bind (wpAny_field hz rfl (x:=.none) rfl (wpAny_pure ?_));simp only[Z7];refine wpAny_bind (wpAny_rule ?_);refine wpAny_bind (wpAny_field hz rfl (x:=.ref TO) rfl ?_);refine wpAny_bind (wpAny_setField_rec hz (by simp) λg1 z1 s1=>?_);replace z1:IsZip g1 z TI TO .ellipsis:=z1;refine wpAny_bind ?_;simp only[adC,acV,abp,abQ];refine wpAny_bind (wpAny_bind (wpAny_onRaise ?_));show wpAny _ _ (Builtin.SmallTypes.nextOf (.ref i1)>>=_) _ _ _
 refine wpAny_bind (LO hh (h1.extBut s1.extBut D.i1z) (IsTup.sb hl1 s1.extBut D.l1z) hx λg2 e s2 he=>?_);obtain⟨oe,LQ,Ql⟩:=he;have z2:IsZip g2 z TI TO .ellipsis:=s2 _ _ D.i1z.symm z1;have Vh:e≠z:=λx=>by subst x;rw[z2] at LQ;cases LQ;simp at Ql
 exact wpAny_setField_rec z2 (by simp) λg3 _ s3=>hE g3 e (λc o c1 _ c3 _ x=>s3.extBut _ _ c1 (s2 _ _ c3 (s1.extBut _ _ c1 x))) ⟨oe,s3.extBut _ _ Vh LQ,Ql⟩
end
section
theorem CB{z TI TO i1 i2 l1 l2:Addr}{k1:Nat}{xs:Array Value}{a b:Value}{Q:Option Value->Shared->Prop}(hh:A.handled=none)(D:ZipApart z TI TO i1 i2 l1 l2)
  (hz:IsZip s.heap z TI TO .none) (hTI:IsPair s.heap TI (.ref i1) (.ref i2)) (hTO:IsPair s.heap TO a b) (h1:IsTupIter s.heap i1 l1 k1) (hl1:IsTup s.heap l1 xs) (hx:xs[k1]?=none)
  (hQ:∀h',(∀c o,c≠z->c≠TO->c≠i1->c≠i2->s.heap.get? c=some o->h'.get? c=some o)->Q none {s with heap:=h' }):wpAny (model prog w) A (pyNext (.ref z)) Q E s:=by
 have hT:s.TypeIs (.ref z) "zip" := ⟨_,hz,rfl⟩
 unfold pyNext;refine wpAny_bind (wpAny_attempt (aar (name:=Str.ofString "__next__") hT abU (wpAny_call_entry abU hT ad'
  (LP hh D hz hTI hTO h1 hl1 hx λh' e hk he=>?_) (adM _))))
 obtain⟨o,ho,hc⟩:=he;refine wpAny_bind (wpAny_isInstance (T:="StopIteration") (b:=true) ⟨o,ho,hc⟩ aeg ?_);exact wpAny_pure (hQ _ hk)
end
section
theorem I8{z TI TO i1 i2 l1 l2:Addr}{k1 k2:Nat}{xs ys:Array Value}{x y a b:Value}{Q:Value->Shared->Prop}(D:ZipApart z TI TO i1 i2 l1 l2)
  (hz:IsZip s.heap z TI TO .none) (hTI:IsPair s.heap TI (.ref i1) (.ref i2)) (hTO:IsPair s.heap TO a b)
  (h1:IsTupIter s.heap i1 l1 k1) (h2:IsTupIter s.heap i2 l2 k2) (hl1:IsTup s.heap l1 xs) (hl2:IsTup s.heap l2 ys) (hx:xs[k1]?=some x) (hy:ys[k2]?=some y)
  (hQ:∀h',IsZip h' z TI TO (rawInt s.heap.objs.size)->IsPair h' TO x y->IsTupIter h' i1 l1 (k1+1)->IsTupIter h' i2 l2 (k2+1)->IsPair h' s.heap.objs.size x y->h'.objs.size=s.heap.objs.size+1 ->
   (∀c o,c≠z->c≠TO->c≠i1->c≠i2->s.heap.get? c=some o->h'.get? c=some o)->Q (.ref s.heap.objs.size) {s with heap:=h' }) :
  wpAny (model prog w) A (Builtin.«zip.__next__» ⟨[.ref z],[]⟩) (λfin s'=>∃v,fin=.done (.ret v)/\Q v s') E s:=by
 show wpAny _ _ (field (.ref z) 2>>=_) _ _ _
 refine wpAny_bind (wpAny_field hz rfl (x:=.bool false) rfl ?_);show wpAny _ _ (field (.ref z) 3>>=_) _ _ _
 refine wpAny_bind (wpAny_field hz rfl (x:=.ref TI) rfl ?_);refine wpAny_bind (wpAny_seqItems hTI rfl ?_);show wpAny _ _ (Builtin.SmallTypes.ownedTupleIsFree (.ref z)>>=_) _ _ _
 refine wpAny_bind ?_;unfold Builtin.SmallTypes.ownedTupleIsFree;refine wpAny_bind (wpAny_field hz rfl (x:=.none) rfl (wpAny_pure ?_));simp only[Z7];refine wpAny_bind (wpAny_rule ?_);refine wpAny_bind (wpAny_field hz rfl (x:=.ref TO) rfl ?_);refine wpAny_bind (wpAny_setField_rec hz (by simp) λg1 z1 s1=>?_);replace z1:IsZip g1 z TI TO .ellipsis:=z1;refine wpAny_bind ?_;simp only[adC,acV,abp,abQ];refine wpAny_bind (wpAny_bind (wpAny_onRaise ?_));show wpAny _ _ (Builtin.SmallTypes.nextOf (.ref i1)>>=_) _ _ _
 refine wpAny_bind (yG (h1.extBut s1.extBut D.i1z) (IsTup.sb hl1 s1.extBut D.l1z) hx λg2 t2 s2=>wpAny_pure ?_);have o2:IsPair g2 TO a b:=s2.extBut _ _ D.TOi1 (s1.extBut _ _ D.TOz hTO);refine wpAny_bind (wpAny_seqItems o2 rfl ?_);refine wpAny_bind (wpAny_updateSeq_pair o2 λg3 o3 s3=>?_);replace o3:IsPair g3 TO x b:=o3;refine wpAny_bind (wpAny_letGo (wpAny_pure ?_));refine wpAny_bind (wpAny_bind (wpAny_onRaise ?_));show wpAny _ _ (Builtin.SmallTypes.nextOf (.ref i2)>>=_) _ _ _
 refine wpAny_bind (yG (((h2.extBut s1.extBut D.i2z).extBut s2.extBut D.i12.symm).extBut s3.extBut D.TOi2.symm) (IsTup.sb (IsTup.sb (IsTup.sb hl2 s1.extBut D.l2z) s2.extBut D.l2i1) s3.extBut D.l2TO) hy λg4 t4 s4=>wpAny_pure ?_);have o4:IsPair g4 TO x b:=s4.extBut _ _ D.TOi2 o3;refine wpAny_bind (wpAny_seqItems o4 rfl ?_);refine wpAny_bind (wpAny_updateSeq_pair o4 λg5 o5 s5=>?_);replace o5:IsPair g5 TO x y:=o5;refine wpAny_bind (wpAny_letGo (wpAny_pure (wpAny_pure ?_)));refine wpAny_bind (wpAny_seqItems o5 rfl ?_);refine wpAny_bind (wpAny_newTuple ?_);have sz:g5.objs.size=s.heap.objs.size:=by rw[s5.1,s4.1,s3.1,s2.1,s1.1]
 have z5:IsZip g5 z TI TO .ellipsis:=s5.extBut _ _ D.TOz.symm (s4.extBut _ _ D.i2z.symm (s3.extBut _ _ D.TOz.symm (s2.extBut _ _ D.i1z.symm z1)));have k5:∀c o,c≠z->c≠TO->c≠i1->c≠i2->s.heap.get? c=some o->g5.get? c=some o:=λc o c1 c2 c3 c4 e=>s5.extBut _ _ c2 (s4.extBut _ _ c4 (s3.extBut _ _ c2 (s2.extBut _ _ c3 (s1.extBut _ _ c1 e))));have t5:IsTupIter g5 i1 l1 (k1+1):=((t2.extBut s3.extBut D.TOi1.symm).extBut s4.extBut D.i12).extBut s5.extBut D.TOi1.symm;have u5:IsTupIter g5 i2 l2 (k2+1):=t4.extBut s5.extBut D.TOi2.symm;have Qm:z<g5.objs.size:=Zx z5;show wpAny _ _ (Builtin.SmallTypes.ownedTupleHandOut (.ref z) (.ref g5.objs.size)>>=_) _ _ _
 refine wpAny_bind ?_;unfold Builtin.SmallTypes.ownedTupleHandOut;have z6:IsZip (g5.push {cls:=.type "tuple",data:=.seq #[x,y]}) z TI TO .ellipsis:=Zl _ z5;refine wpAny_bind (wpAny_setField_rec z6 (by simp) λg7 z7 s7=>?_);replace z7:IsZip g7 z TI TO (rawInt g5.objs.size):=z7;refine wpAny_setField_rec z7 (by simp) λg8 z8 s8=>?_;replace z8:IsZip g8 z TI TO (rawInt g5.objs.size):=z8;have up:∀c o,c≠z->g5.get? c=some o->g8.get? c=some o:=λc o c1 e=>s8.extBut _ _ c1 (s7.extBut _ _ c1 (Zl _ e));have T8:IsPair g8 g5.objs.size x y:=s8.extBut _ _ (acK Qm) (s7.extBut _ _ (acK Qm) (Zw _ rfl));have Qn:g8.objs.size=g5.objs.size+1:=by rw[s8.1,s7.1,Z']
 rw[sz] at z8 T8 Qn;refine wpAny_pure ⟨_,rfl,?_⟩;show Q (.ref g5.objs.size) _
 rw[sz];exact hQ g8 z8 (up _ _ D.TOz o5) (let ⟨o,ho,r⟩:=t5;⟨o,up _ o D.i1z ho,r⟩) (let ⟨o,ho,r⟩:=u5;⟨o,up _ o D.i2z ho,r⟩) T8 Qn λc o c1 c2 c3 c4 e=>up c o c1 (k5 c o c1 c2 c3 c4 e)
theorem Am{z TI TO i1 i2 l1 l2:Addr}{k1 k2:Nat}{xs ys:Array Value}{x y a b:Value}{Q:Option Value->Shared->Prop}(D:ZipApart z TI TO i1 i2 l1 l2)
  (hz:IsZip s.heap z TI TO .none) (hTI:IsPair s.heap TI (.ref i1) (.ref i2)) (hTO:IsPair s.heap TO a b)
  (h1:IsTupIter s.heap i1 l1 k1) (h2:IsTupIter s.heap i2 l2 k2) (hl1:IsTup s.heap l1 xs) (hl2:IsTup s.heap l2 ys) (hx:xs[k1]?=some x) (hy:ys[k2]?=some y)
  (hQ:∀h',IsZip h' z TI TO (rawInt s.heap.objs.size)->IsPair h' TO x y->IsTupIter h' i1 l1 (k1+1)->IsTupIter h' i2 l2 (k2+1)->IsPair h' s.heap.objs.size x y->h'.objs.size=s.heap.objs.size+1 ->
   (∀c o,c≠z->c≠TO->c≠i1->c≠i2->s.heap.get? c=some o->h'.get? c=some o)->Q (some (.ref s.heap.objs.size)) {s with heap:=h' }) :
  wpAny (model prog w) A (pyNext (.ref z)) Q E s:=by
 have hT:s.TypeIs (.ref z) "zip" := ⟨_,hz,rfl⟩
 unfold pyNext;exact wpAny_bind (wpAny_attempt (aar (name:=Str.ofString "__next__") hT abU (wpAny_call_entry abU hT ad'
  (I8 D hz hTI hTO h1 h2 hl1 hl2 hx hy λh' a1 a2 a3 a4 a5 a6 a7=>wpAny_pure (hQ h' a1 a2 a3 a4 a5 a6 a7)) (adM _))))
end
abbrev GZ(h:Heap)(l1:Addr):Heap:=h.push {cls:=.type "tuple_iterator",data:=.fields #[.ref l1,.int 0 0]}
abbrev G0(h:Heap)(l1 l2:Addr):Heap:=(GZ h l1).push {cls:=.type "tuple_iterator",data:=.fields #[.ref l2,.int 0 0]}
abbrev G3(h:Heap)(l1 l2:Addr):Heap:=(G0 h l1 l2).push {cls:=.type "tuple",data:=.seq #[.ref h.objs.size,.ref (GZ h l1).objs.size]}
abbrev G4(h:Heap)(l1 l2:Addr):Heap:=(G3 h l1 l2).push {cls:=.type "tuple",data:=.seq #[.none,.none]}
abbrev wu(h:Heap)(l1 l2:Addr):Heap:=(G4 h l1 l2).push {cls:=.type "zip",data:=.fields #[.none,.bool false,.bool false,.ref (G0 h l1 l2).objs.size,.ref (G3 h l1 l2).objs.size]}
theorem E2(l1 l2:Addr)(xs ys:Array Value):Meets (Builtin.«zip.__new__» ⟨[.type "zip",.ref l1,.ref l2],[]⟩) (λ_ R s=>IsTup s.heap l1 xs/\IsTup s.heap l2 ys/\R (.ok (.ret (.ref (G4 s.heap l1 l2).objs.size))) {s with heap:=wu s.heap l1 l2}):=
 .of_wp λprog w A R s h=>by
  obtain⟨hp,g,d,tk,os⟩:=s;obtain⟨hl1,hl2,h⟩:=h;have ji:=sub_zip;have Vi:IsTup (Shared.heap ⟨hp,g,d,tk,os⟩) l1 xs:=hl1;have Vj:IsTup (Shared.heap ⟨hp.push {cls:=.type "tuple_iterator",data:=.fields #[.ref l1,.int 0 0]},g,d,tk,os⟩) l2 ys:=let ⟨o,e,r⟩:=hl2;⟨o,Zl _ e,r⟩
  wp_walk using iter_tuple Vi,iter_tuple Vj
  exact⟨_,rfl,h⟩
section
theorem I9(hl1:IsTup s.heap l1 xs)(hl2:IsTup s.heap l2 ys)
  (h:∀h',IsZip h' (s.heap.objs.size+4) (s.heap.objs.size+2) (s.heap.objs.size+3) .none->IsPair h' (s.heap.objs.size+2) (.ref s.heap.objs.size) (.ref (s.heap.objs.size+1)) ->
   IsPair h' (s.heap.objs.size+3) .none .none->IsTupIter h' s.heap.objs.size l1 0->IsTupIter h' (s.heap.objs.size+1) l2 0->h'.objs.size=s.heap.objs.size+5 ->
   (∀c o,s.heap.get? c=some o->h'.get? c=some o)->Q (.ref (s.heap.objs.size+4)) {s with heap:=h' }) :
  wpAny (model prog w) A (call (.type "zip") [.ref l1,.ref l2]) Q E s:=by
 refine callType_new PySem.F.called_zip (by decide) (PySem.F.typeCall_zip_2 _ _) (PySem.F.newCall_zip_2 _ _) (λobj=>PySem.F.args_object_init_3 obj _ _) PySem.F.entry_zip_new (E2 l1 l2 xs ys) ⟨hl1,hl2,?_⟩;have z1:(GZ s.heap l1).objs.size=s.heap.objs.size+1:=Z' ..;have z2:(G0 s.heap l1 l2).objs.size=s.heap.objs.size+2:=by rw[Z',z1]
 have z3:(G3 s.heap l1 l2).objs.size=s.heap.objs.size+3:=by rw[Z',z2]
 have z4:(G4 s.heap l1 l2).objs.size=s.heap.objs.size+4:=by rw[Z',z3]
 have z5:(wu s.heap l1 l2).objs.size=s.heap.objs.size+5:=by rw[Z',z4]
 have g5:(wu s.heap l1 l2).get? (G4 s.heap l1 l2).objs.size=some _:=Zw _ rfl;have g4:(wu s.heap l1 l2).get? (G3 s.heap l1 l2).objs.size=some _:=Zl _ (Zw _ rfl);have g3:(wu s.heap l1 l2).get? (G0 s.heap l1 l2).objs.size=some _:=Zl _ (Zl _ (Zw _ rfl));have g2:(wu s.heap l1 l2).get? (GZ s.heap l1).objs.size=some _:=Zl _ (Zl _ (Zl _ (Zw _ rfl)));have g1:(wu s.heap l1 l2).get? s.heap.objs.size=some _:=Zl _ (Zl _ (Zl _ (Zl _ (Zw _ rfl))));show _/\_
 rw[z2,z3,z4] at g5;rw[z1,z2] at g3;rw[z3] at g4;rw[z1] at g2;rw[z4];exact⟨⟨_,g5,rfl⟩,h _ g5 g3 g4 ⟨_,g1,rfl,rfl⟩ ⟨_,g2,rfl,rfl⟩ z5 λc o x=>Zl _ (Zl _ (Zl _ (Zl _ (Zl _ x))))⟩
end
def CC(K:PySem.W.Frag)(a b:Addr):It:=
 ⟨λi H=>∃xs x ys y,aO K H a xs/\xs[i]?=some x/\aO K H b ys/\ys[i]?=some y,λi H v H'=>∃q x y,H q=none/\(∀xs,aO K H a xs->xs[i]?=some x)/\(∀ys,aO K H b ys->ys[i]?=some y)/\v=.ref q/\H'=upd H q (.tup [x,y]),
 λi H=>∃xs,aO K H a xs/\xs.length<=i⟩
theorem CD{P:Program}{w:World}{K:PySem.W.Frag}{elts:List Expr}{x1}{tp:Pos}(a b z TI TO i1 i2:Addr)(D:ZipApart z TI TO i1 i2 a b) :
  Turn P w K (.Tuple elts x1 tp) (CC K a b) [z,TO,i1,i2,TI] z (λi h=>IsZip h z TI TO .none/\IsPair h TI (.ref i1) (.ref i2)/\(∃u v,IsPair h TO u v)/\IsTupIter h i1 a i/\IsTupIter h i2 b i) where
 mem:=by simp
 obj:=λi h st c hc=>by
  obtain⟨hz,hTI,⟨u,v,hTO⟩,⟨o1,g1,_,d1⟩,o2,g2,_,d2⟩:=st;simp only[Zs,aay,or_false] at hc;rcases hc with rfl|rfl|rfl|rfl|rfl
  ·exact⟨_,hz,λv z=>nomatch z⟩
  ·exact⟨_,hTO,λv z=>nomatch z⟩
  ·exact⟨o1,g1,λv z=>by rw[d1] at z;cases z⟩
  ·exact⟨o2,g2,λv z=>by rw[d2] at z;cases z⟩
  ·exact⟨_,hTI,λv z=>nomatch z⟩
 keep:=λi h h' st k=>by obtain⟨hz,hTI,⟨u,v,hTO⟩,h1,h2⟩:=st;exact⟨k z (by simp) _ hz,k TI (by simp) _ hTI,⟨u,v,k TO (by simp) _ hTO⟩,(let ⟨o,ho,r⟩:=h1;⟨o,k i1 (by simp) o ho,r⟩),(let ⟨o,ho,r⟩:=h2;⟨o,k i2 (by simp) o ho,r⟩)⟩
 item:=by
  intro X hP hw hK hc i pins s σ H E I hf st hg;subst hP hw hK;obtain⟨hz,hTI,⟨u0,v0,hTO⟩,h1,h2⟩:=st;obtain⟨xs,x,ys,y,hq,hx,hr,hy⟩:=hg;obtain⟨its,rv,p,_⟩:=I.tuple hq;obtain⟨gw,Cp,p2,_⟩:=I.tuple hr;obtain⟨u,hu,ru⟩:=rv.get hx;obtain⟨v,hv,LA⟩:=Cp.get hy;have f1:=hf z (by simp);have f2:=hf TO (by simp);have f3:=hf i1 (by simp);have f4:=hf i2 (by simp);have f5:=hf TI (by simp);refine Am D hz hTI hTO h1 h2 p p2 (x:=u) (y:=v) (by simpa using hu) (by simpa using hv) λh' a1 a2 a3 a4 a5 a6 k1=>⟨_,rfl,?_⟩
  refine adu a1 λmS e2 sb=>?_;have nq:∀{b:Addr} {o:Obj},s.heap.get? b=some o->b≠s.heap.objs.size:=λ{b o} q=>ZQ (Zx q);have nz:=nq hz;have LB:=nq hTO;have LC:=nq hTI;have n1:i1≠s.heap.objs.size:=let ⟨o,q,_⟩:=h1;nq q
  have n2:i2≠s.heap.objs.size:=let ⟨o,q,_⟩:=h2;nq q
  have hn:H s.heap.objs.size=none:=I.aL.fresh (Zn _);have kk:∀c o,c≠z->c≠TO->c≠i1->c≠i2->s.heap.get? c=some o->mS.get? c=some o:=λc o c1 c2 c3 c4 q=>sb.extBut _ _ c1 (k1 c o c1 c2 c3 c4 q);have tq:mS.get? s.heap.objs.size=some {cls:=.type "tuple",data:=.seq #[u,v]}:=sb.extBut _ _ (Z0 nz) a5;have hH:∀c o,H c=some o->c≠z/\c≠TO/\c≠i1/\c≠i2/\c≠s.heap.objs.size:=λc o q=>⟨aw q f1.1,aw q f2.1,aw q f3.1,aw q f4.1,aw q hn⟩
  refine⟨.ref s.heap.objs.size,upd H s.heap.objs.size (.tup [x,y]),?_,rfl,⟨_,x,y,hn,λzs iC=>by rw[I.lX iC hq];exact hx,λzs iC=>by rw[I.lX iC hr];exact hy,rfl,rfl⟩,
   ⟨e2,sb.extBut _ _ D.TIz (k1 _ _ D.TIz D.TITO D.TIi1 D.TIi2 hTI),⟨_,_,sb.extBut _ _ D.TOz a2⟩,a3.extBut sb.extBut D.i1z,a4.extBut sb.extBut D.i2z⟩,λb hb=>?_⟩
  ·refine Inv.mV (ch:=[z,TO,i1,i2]) I (s':={s with heap:=mS}) rfl ⟨λb ob q n hb hx=>?_,λb ob q n hb hx=>?_,λb ob q n hx=>?_,λb ob q hx=>?_,λb ys q=>?_,λb ob ys q=>?_,λb ps q=>⟨#[],?_⟩⟩ ?_ I.bare λb hb=>?_
   ·exact kk b ob (λz=>hx (by simp[z])) (λz=>hx (by simp[z])) (λz=>hx (by simp[z])) (λz=>hx (by simp[z])) q
   ·exact⟨ob.slots,kk b ob (λz=>hx (by simp[z])) (λz=>hx (by simp[z])) (λz=>hx (by simp[z])) (λz=>hx (by simp[z])) q⟩
   ·rw[ak (nq q)];exact n
   ·exact⟨ob,kk b ob (λz=>hx (by simp[z])) (λz=>hx (by simp[z])) (λz=>hx (by simp[z])) (λz=>hx (by simp[z])) q⟩
   ·rw[ak (hH _ _ q).2.2.2.2];exact q
   ·rw[ak (hH _ _ q).2.2.2.2];exact q
   ·rw[ak (hH _ _ q).2.2.2.2,q];simp
   ·intro b ob q;by_cases hb:b=s.heap.objs.size
    ·subst hb;rw[ai] at q;cases q;exact⟨by show 2<=sizeLine;decide,[u,v],.cons ru (.cons LA .nil),⟨_,tq,rfl,0,rfl⟩⟩
    ·rw[ak hb] at q;refine(I.aL b ob q).iw (λc v hc g=>?_) (λc g=>?_) λc ys g=>?_
     ·have dA:c≠z/\c≠TO/\c≠i1/\c≠i2/\c≠s.heap.objs.size:=by
       rcases hc with z|z
       ·rw[z];exact hH _ _ q
       ·exact hH _ _ z
      exact kk c v dA.1 dA.2.1 dA.2.2.1 dA.2.2.2.1 g
     ·rw[ak (hH _ _ g).2.2.2.2];exact g
     ·rw[ak (hH _ _ g).2.2.2.2];exact g
   ·have:b∈([z,TO,i1,i2,TI]:List Addr):=by simp only[Zs,aay,or_false] at hb⊢;exact(hb.elim .inl λh=>.inr (h.elim .inl λh=>.inr (h.elim .inl λh=>.inr (.inl h))))
    have f:=hf b this;exact⟨f.2.2.2.1,f.2.1,f.2.2.2.2.1,f.2.2.2.2.2⟩
  ·have lt:b≠s.heap.objs.size:=by
    simp only[Zs,aay,or_false] at hb;rcases hb with rfl|rfl|rfl|rfl|rfl
    ·exact nz
    ·exact LB
    ·exact n1
    ·exact n2
    ·exact LC
   rw[ak lt];exact(hf b hb).1
 done:=by
  intro X hP hw hK hc i pins s σ H E I hf st hg;subst hP hw hK;obtain⟨hz,hTI,⟨u0,v0,hTO⟩,h1,h2⟩:=st;obtain⟨xs,hq,hx⟩:=hg;obtain⟨its,rv,p,_⟩:=I.tuple hq;have hl:=rv.length;refine CB (I.ok.hd hc) D hz hTI hTO h1 p (by simp;omega) λh' k=>⟨rfl,?_⟩
  have hH:∀c o,H c=some o->c≠z/\c≠TO/\c≠i1/\c≠i2:=λc o q=>⟨aw q (hf z (by simp)).1,aw q (hf TO (by simp)).1,aw q (hf i1 (by simp)).1,aw q (hf i2 (by simp)).1⟩
  refine Inv.mV (ch:=[z,TO,i1,i2]) I (s':={s with heap:=h' }) rfl ⟨λb ob q n hb hx=>?_,λb ob q n hb hx=>?_,λb ob q n hx=>n,λb ob q hx=>?_,λb ys q=>q,λb ob ys q=>q,λb ps q=>⟨#[],?_⟩⟩ ?_ I.bare λb hb=>?_
  ·exact k b ob (λz=>hx (by simp[z])) (λz=>hx (by simp[z])) (λz=>hx (by simp[z])) (λz=>hx (by simp[z])) q
  ·exact⟨ob.slots,k b ob (λz=>hx (by simp[z])) (λz=>hx (by simp[z])) (λz=>hx (by simp[z])) (λz=>hx (by simp[z])) q⟩
  ·exact⟨ob,k b ob (λz=>hx (by simp[z])) (λz=>hx (by simp[z])) (λz=>hx (by simp[z])) (λz=>hx (by simp[z])) q⟩
  ·rw[q];simp
  ·intro b ob q;refine(I.aL b ob q).iw (λc v hc g=>?_) (λc g=>g) λc ys g=>g;have dA:c≠z/\c≠TO/\c≠i1/\c≠i2:=by
    rcases hc with z|z
    ·rw[z];exact hH _ _ q
    ·exact hH _ _ z
   exact k c v dA.1 dA.2.1 dA.2.2.1 dA.2.2.2 g
  ·have:b∈([z,TO,i1,i2,TI]:List Addr):=by simp only[Zs,aay,or_false] at hb⊢;exact(hb.elim .inl λh=>.inr (h.elim .inl λh=>.inr (h.elim .inl λh=>.inr (.inl h))))
   have f:=hf b this;exact⟨f.2.2.2.1,f.2.1,f.2.2.2.2.1,f.2.2.2.2.2⟩
 self:=λ_ _ _ _ _ st h=>wpAny_pyIter_zip st.1 h
def Oo(K:PySem.W.Frag)(ta:TA):TI:=λσ H R=>ta σ H λvs H1=>∃a b,vs=[.ref a,.ref b]/\(∃xs,aO K H1 a xs)/\(∃ys,aO K H1 b ys)/\R (CC K a b) H1
section
theorem Ja{elts:List Expr}{x1}{tp:Pos}{l m:Expr}{ta:TA}{p pos:Pos}(hg:Gl X "zip")(hm:X.mg "zip" = none)(ha:PA X [l,m] ta)(hs:starEach [l,m] X.env=(false,eval l X.env)::starEach [m] X.env:=by rfl)(hp:(backTo pos (starEach [m] X.env)).any (·.1)=false:=by rfl):PI X (.Tuple elts x1 tp) (.Call (.Name "zip" p) [l,m] [] pos) (Oo X.K ta):=by
 intro pins s σ H R I h;refine aaN (gu I hg hm boot_zip ?_);refine aaM (aH (ha pos pins s σ H _ I h) λus s1 ⟨vs,H1,I1,r1,q1⟩=>?_) hs hp;obtain⟨a,b,rfl,⟨xs,hq⟩,⟨ys,hr⟩,q⟩:=q1;obtain⟨u,v,rfl,ru,rv⟩:=vals2 r1;cases ru;cases rv;obtain⟨its,_,pl,_⟩:=I1.tuple hq;obtain⟨gw,_,Cr,_⟩:=I1.tuple hr;refine I9 pl Cr λh' e1 e2 e3 i1 i2 z1 k1=>?_;refine wpAny_pyIter_zip e1 ?_;have la:@LT.lt Nat _ a s1.heap.objs.size:=let ⟨o,g,_⟩:=pl;Zx g
 have lb:@LT.lt Nat _ b s1.heap.objs.size:=let ⟨o,g,_⟩:=Cr;Zx g
 refine⟨s1.heap.objs.size+4,[s1.heap.objs.size+4,s1.heap.objs.size+3,s1.heap.objs.size,s1.heap.objs.size+1,s1.heap.objs.size+2],_,_,H1,rfl,I1.kept (t':=s1.toks) k1,CD a b _ _ _ _ _ (zipApart_new la lb),⟨e1,e2,⟨_,_,e3⟩,i1,i2⟩,λc hc=>?_,q⟩;have le:@LE.le Nat _ s1.heap.objs.size c:=by
  simp only[Zs,aay,or_false] at hc;rcases hc with z|z|z|z|z<;>rw[z]
  ·exact aa9 _ 4
  ·exact aa9 _ 3
  ·exact Zn _
  ·exact aa9 _ 1
  ·exact aa9 _ 2
 exact I1.oq le (I1.aL.fresh le)
end
theorem E3{K:PySem.W.Frag}{a b:Addr}{xs ys:List V}{g:TG}{tb:TS}{D:Ends}{σ:St}{H:Hp}(le:xs.length=ys.length)(Pv:Nat->St->Hp->Prop)(h0:Pv 0 σ H)(hl:∀i σ H,i<=xs.length->Pv i σ H->aO K H a xs/\aO K H b ys)
  (hs:∀i x y σ H q,xs[i]?=some x->ys[i]?=some y->Pv i σ H->H q=none->g (.ref q) σ (upd H q (.tup [x,y])) λσ2 H2=>tb {D with nx:=Pv (i+1),ct:=Pv (i+1),bk:=D.nx} σ2 H2) (hd:∀σ H,Pv xs.length σ H->D.nx σ H) :
  ∃W:Nat->Nat->St->Hp->Prop,(∃m,W 0 m σ H)/\∀i m σ H,W i m σ H ->
   ((CC K a b).stop i H/\D.nx σ H)\/((CC K a b).go i H/\∃N:St->Hp->Prop,(∀σ' H',N σ' H'->∃m',m'<m/\W (i+1) m' σ' H')/\∀x H',(CC K a b).jw i H x H'->g x σ H' λσ2 H2=>tb {D with nx:=N,ct:=N,bk:=D.nx} σ2 H2):=by
 refine⟨λi m σ H=>m=xs.length-i/\i<=xs.length/\Pv i σ H,⟨xs.length,by simp,ZE _,h0⟩,?_⟩;rintro i m σ H ⟨rfl,hi,p⟩;obtain⟨q,q2⟩:=hl i σ H hi p;by_cases hlt:i<xs.length
 ·refine .inr ⟨⟨xs,xs[i],ys,ys[i]'(by omega),q,by simp[hlt],q2,by simp⟩,Pv (i+1),λσ' H' p'=>⟨xs.length-(i+1),by omega,rfl,hlt,p'⟩,λx H' ⟨r,y1,y2,hr,h1,h2,e1,e2⟩=>?_⟩;subst e1 e2;exact hs i y1 y2 σ _ r (h1 xs q) (h2 ys q2) p hr
 ·have e:i=xs.length:=by omega
  subst e;exact .inl ⟨⟨xs,q,Zn _⟩,hd σ H p⟩
section
theorem E4{t b:Addr}{ws:List Value}{Q:Value->Shared->Prop}(ht:IsTup s.heap t ([]:List Value).toArray)(hb:IsTup s.heap b ws.toArray)(h:Q (.ref b) s):wpAny (model prog w) A (binaryOp .Add (.ref t) (.ref b)) Q E s:=by
 obtain⟨⟨cls,dd,data,sl⟩,ho,hc,n,hd⟩:=id ht;obtain⟨⟨Kb,nI,data2,si⟩,gK,sj,n2,hd2⟩:=id hb;simp only at hc hd sj hd2;subst hc hd sj hd2;exact aeL ⟨_,ho,rfl⟩ ⟨_,gK,rfl⟩ adx aeu acr acg (ab6 _ _)
   (tuple_addW0 t b _ ws.toArray n n2 dd nI sl si rfl) ⟨ho,gK,h⟩
end
end L2
namespace cM
open PySem PySem.Spec PyProof.Rows L2 L9
abbrev CF:Stmt:=top 32 -- NJ
abbrev CG:Stmt:=top 33 -- Qo
abbrev kE(e:En):List Key:=[Sum.inl (e.1:Int),Sum.inl (e.2:Int)]
theorem ko(h:kE a=kE b):a=b:=by simp only[kE,aaY,Sum.inl.injEq,and_true] at h;exact acA (by omega) (by omega)
def dI(H:Hp):List Addr->List (List En)->Prop:=Paired λa r=>∃us:List Addr,H a=some (.tup (us.map V.ref))/\aI H us r
theorem dI.same(h:dI H as rows)(s:av H H'):dI H' as rows:=Paired.gp h λa r ⟨us,e,p⟩=>⟨us,s _ _ e,p.same s⟩
theorem dI.get:∀{as:List Addr} {rows:List (List En)} {i:Nat} {a:Addr},dI H as rows->as[i]?=some a->∃r us,rows[i]?=some r/\H a=some (.tup (us.map V.ref))/\aI H us r
 |_,_,0,_,.cons ⟨us,h,p⟩ _,e=>by cases e;exact⟨_,us,rfl,h,p⟩
 |_,_,i+1,_,.cons _ t,e=>by obtain⟨r,us,x,y,z⟩:=dI.get (i:=i) t (by simpa using e);exact⟨r,us,by simpa using x,y,z⟩
structure Bh(H:Hp)(kvs:List (List Key×V))(rows:List (List En))(es:List En):Prop where
 keys:kvs.map (·.1)=es.map kE
 val:∀e∈es,∃v a,Nx rows e v/\bD kvs (kE e)=some (.ref a)/\H a=some (.tup (pV v))
theorem Bh.same(b:Bh H kvs rows es)(s:∀t xs,H t=some (.tup xs)->H' t=some (.tup xs)):Bh H' kvs rows es:=
 ⟨b.keys,λe he=>let ⟨v,a,x,y,z⟩:=b.val e he;⟨v,a,x,y,s _ _ z⟩⟩
theorem Bh.none(b:Bh H kvs rows es)(h:e∉es):bD kvs (kE e)=Option.none:=by
 cases q:bD kvs (kE e) with
 |none=>rfl
 |some v=>
  have:(kvs.any λkv=>decide (kv.1=kE e))=true:=by rw[eC,q];rfl
  obtain⟨kv,hk,he⟩:=aa8.mp this;have m:kE e∈kvs.map (·.1):=ZD.mpr ⟨kv,hk,of_decide_eq_true he⟩;rw[b.keys] at m;obtain⟨e',i6,ee⟩:=ZD.mp m;exact absurd (ko ee▸i6) h
theorem Bh.put(b:Bh H kvs rows es)(h:e∉es)(n:Nx rows e v)(ha:H a=some (.tup (pV v))):Bh H (putK kvs (kE e) (.ref a)) rows (es++[e]):=by
 have q:=b.none h;refine⟨by rw[iY _ q,ZU,b.keys,ZU];rfl,λx hx=>?_⟩;rw[uP];rcases Zv.mp hx with hx|hx
 ·obtain⟨v',a',x1,x2,x3⟩:=b.val x hx;rw[if_neg (λz=>h ((ko (a:=x) (b:=e) z)▸hx))];exact⟨v',a',x1,x2,x3⟩
 ·obtain rfl:x=e:=by simpa using hx
  rw[if_pos rfl];exact⟨v,a,n,rfl,ha⟩
theorem Bh.len(b:Bh H kvs rows es):kvs.length=es.length:=by have:=congrArg List.length b.keys;simpa using this
def G5(K:PySem.W.Frag):R2:=λx y H Q=>∃a b xs ys,x=.ref a/\y=.ref b/\aO K H a xs/\aO K H b ys/\xs.length+ys.length<=sizeLine /\
 (xs=[]->Q (.ref b) H)/\(xs≠[]->ys=[]->Q (.ref a) H)/\(xs≠[]->ys≠[]->∀p,H p=none->Q (.ref p) (upd H p (.tup (xs++ys))))
section
theorem Jb:cL X (binaryOp .Add) (G5 X.K):=by
 rintro pins s σ H x y v u Q I rx ry ⟨a,b,xs,ys,rfl,rfl,ha,hb,hz,q1,q2,q3⟩;by_cases e:xs=[]
 ·cases rx;cases ry;obtain⟨its,r1,p1,_⟩:=I.tuple ha;obtain⟨gw,r2,p2,_⟩:=I.tuple hb;have e1:its=[]:=r1.mX.mpr e;subst e1;exact E4 p1 p2 ⟨.ref b,H,I,rfl,q1 e⟩
 ·exact HG pins s σ H _ _ v u Q I rx ry ⟨a,b,xs,ys,rfl,rfl,ha,hb,e,hz,q2 e,q3 e⟩
end
theorem eJ(rows:List (List En))(i:Nat):rows.flatten=(rows.take i).flatten++(rows.drop i).flatten:=by rw[<-aaF,aap]
def fJ{β:Type}(l:List β):List β:=l.drop 1++l.take 1
theorem E5(f:β->γ)(l:List β):fJ (l.map f)=(fJ l).map f:=by unfold fJ;rw[ZU,adi,adk]
theorem E6(l:List β):(fJ l).length=l.length:=by unfold fJ;rw[ZA,aaP,ZK];omega
theorem E7{r:List En}{j:Nat}{u v:En}(h:r[j]?=some u)(k:(fJ r)[j]?=some v):bh r u v:=by
 refine⟨j,h,?_⟩;have lt:=(Zq.mp h).1;unfold fJ at k;by_cases c:j+1<r.length
 ·rw[ZZ (by rw[aaP];omega),ac7,Nat.add_comm] at k;exact .inl k
 ·rw[aal (by rw[aaP];omega),aaP,acd] at k;have e:j-(r.length-1)=0:=by omega
  rw[e] at k;exact .inr ⟨by omega,by simpa using k⟩
theorem gV(h:aI H us ps)(k:aI H vs qs):aI H (us++vs) (ps++qs):=by
 induction h with
 |nil=>exact k
 |cons a _ ih=>exact .cons a ih
theorem fK:∀{us:List Addr} {ps:List En} (n:Nat),aI H us ps->aI H (us.drop n) (ps.drop n)
 |_,_,0,h=>h
 |_,_,n+1,.nil=>.nil
 |_,_,n+1,.cons _ t=>fK n t
theorem fQ:∀{us:List Addr} {ps:List En} (n:Nat),aI H us ps->aI H (us.take n) (ps.take n)
 |_,_,0,h=>.nil
 |_,_,n+1,.nil=>.nil
 |_,_,n+1,.cons a t=>.cons a (fQ n t)
theorem Jc(h:aI H us ps):aI H (fJ us) (fJ ps):=gV (fK 1 h) (fQ 1 h)
theorem Jd{K:PySem.W.Frag}{σ:L2.St}{n:Nat}{H:Hp}{a:Addr}{xs:List V}{Q:VK}(hv:σ[n]?=some (some (.ref a)))(h:H a=some (.tup xs))(aP:xs.length<=1000)(k:∀q H',av H H'->H' q=some (.tup (fJ xs))->Q (.ref q) H') :
  pG (G5 K) (A0 (Eo K) (gM n) (pL (tC (.int 1))) jU) (A0 (Eo K) (gM n) jU (pL (tC (.int 1)))) σ H Q:=by
 have six:∀n d:Nat,HT.bq n d (some 1)=min 1 n:=λn d=>HT.qO n d 1;have sl:∀n d:Nat,HT.bq n d none=d:=λn d=>rfl;have big:xs.length+xs.length<=sizeLine:=Zu (show _<=2000 by omega) (by decide);refine⟨_,hv,1,rfl,?_⟩;cases xs with
 |nil =>refine⟨a,[],rfl,aO.of h,λ_=>?_,λz=>absurd ⟨rfl,rfl⟩ z⟩;refine⟨_,hv,1,rfl,a,[],rfl,aO.of h,λ_=>?_,λz=>absurd ⟨rfl,rfl⟩ z⟩;exact⟨a,a,[],[],rfl,rfl,aO.of h,aO.of h,big,λ_=>k a H (av.refl _) h,λz=>absurd rfl z,λz=>absurd rfl z⟩
 |cons u us=>
  refine⟨a,_,rfl,aO.of h,λz=>?_,λ_ p1 Vk=>?_⟩
  ·rw[six] at z;simp only[Zz] at z;omega
  have c1:fu (u::us) (some 1) none=us:=by unfold fu;rw[six,sl];simp only[Zz,show min 1 (us.length+1)=1 by omega,List.drop_succ_cons,afv];exact aab (by omega)
  have c2:fu (u::us) none (some 1)=[u]:=by unfold fu;rw[six,sl];simp only[Zz,show min 1 (us.length+1)=1 by omega,afv];rfl
  have er:fJ (u::us)=us++[u]:=rfl;rw[c1];have s1:=aj (o:=.tup us) Vk;have g1:=ai (H:=H) (a:=p1) (o:=.tup us);generalize upd H p1 (.tup us)=H1 at s1 g1⊢;have hb:us.length+1<=sizeLine:=by simp only[Zz] at big;omega
  refine⟨_,hv,1,rfl,a,_,rfl,aO.of (s1 _ _ h),λz=>?_,λ_ p2 Vl=>?_⟩
  ·have e:us=[]:=by rw[six] at z;simp only[Zz] at z;exact Z4.mp (by omega)
   subst e;exact⟨p1,a,[],[u],rfl,rfl,aO.of g1,aO.of (s1 _ _ h),hb,λ_=>k a _ s1 (s1 _ _ h),λz=>absurd rfl z,λz=>absurd rfl z⟩
  ·rw[c2];have s2:=aj (o:=.tup [u]) Vl;have g2:=ai (H:=H1) (a:=p2) (o:=.tup [u]);generalize upd H1 p2 (.tup [u])=H2 at s2 g2⊢;refine⟨p1,p2,us,[u],rfl,rfl,aO.of (s2 _ _ g1),aO.of g2,hb,λe=>?_,λ_ z=>(nomatch z),λ_ _ p3 Vm=>?_⟩
   ·subst e;exact k p2 _ (s1.trans s2) g2
   ·exact k p3 _ (s1.trans (s2.trans (aj Vm))) (by rw[ai,er])
section
variable {P:Program}{w:World}{K:PySem.W.Frag}{mg:Str->Option Value}{base:Heap}
def LR:Sp:=λvs H Q _=>∃(t:Addr) (as:List Addr) (rows:List (List En)),vs=[.ref t]/\H t=some (.tup (as.map V.ref))/\dI H as rows/\rows.flatten.Nodup/\rows.flatten.length<=60/\∀d kvs H',H d=none->H' d=some (.dT kvs)->av H H'->Bh H' kvs rows rows.flatten->Q (.ref d) H'
abbrev Vn:List Str:=["turns","behind","ends","end","after"]
theorem wx:aQ Vn ["turns"] (ar CF):=⟨rfl,rfl,rfl,by decide +kernel,rfl,by decide +kernel,by decide +kernel⟩
theorem Oq{f:Addr}{fd:FuncData}(F:bx K "ends_behind" "ends_behind" CF f fd)(hz:mg "zip" = none):aG P w K mg base aS 1 f fd ["turns"] LR:=by
 refine F.ok wx (λvs H Q E h=>?_) (λcdv A outer s H vs Q E hr h=>?_)
 ·obtain⟨t,as,rows,rfl,_⟩:=h;rfl
 ·obtain⟨t,as,rows,rfl,ht,hR,nd,aP,k⟩:=h;have hu:=fh hr;refine⟨_,ao (aR (i:=1) wx.nd rfl (Or.inl rfl) kM)
   (ao (cH aaa rfl (pE (pv 0)) (aE (i:=2) wx.nd rfl (Or.inl rfl))
    (au (cH aaa rfl (Ja rfl hz (aa (pv 2) (aa (bc Jb (eB ya (pv 2) (eM aD) fY) (eB ya (pv 2) fY (eM aD))) af)))
      (cU rfl (aU (aE (i:=3) wx.nd rfl (Or.inl rfl)) (aU (aE (i:=4) wx.nd rfl (Or.inl rfl)) cv)))
     (au (m5 hu (pv 1) (pv 3) (pv 4) rfl)))))
   (au (aT (pv 1)))),?_⟩
  try rw[ck]
  intro d nY;have s1:=aj (o:=.dT []) nY;have g1:=ai (H:=H) (a:=d) (o:=.dT []);generalize upd H d (.dT [])=H1 at s1 g1⊢;refine⟨_,rfl,t,rfl,⟨_,aO.of (s1 _ _ ht)⟩,?_⟩;have lr:as.length=rows.length:=ZG hR;refine HC (K:=K) (xs:=as.map V.ref) (λi σ H2=>∃(v2 v3 v4:Option V) (kvs:List (List Key×V)),σ=[some (.ref t),some (.ref d),v2,v3,v4]/\av H H2/\H2 d=some (.dT kvs)/\Bh H2 kvs rows (rows.take i).flatten) ⟨_,_,_,[],rfl,s1,g1,rfl,λe he=>by simp at he⟩ ?_ ?_ ?_
  ·rintro i σ H2 _ ⟨v2,v3,v4,kvs,rfl,s2,_⟩;exact aO.of (s2 _ _ ht)
  ·rintro i y σ H2 hy ⟨v2,v3,v4,kvs,rfl,s2,g2,B⟩;rw[Zo] at hy;obtain⟨a,ea,rfl⟩:=Zp.mp hy;obtain⟨r,us,er,ha,hp⟩:=(hR.same s2).get ea;have lt:=(Zq.mp er).1;have hr:r∈rows:=Zr er;have tk:(rows.take (i+1)).flatten=(rows.take i).flatten++r:=by rw[ZO,er];simp
   have pre:((rows.take i).flatten++r).Nodup:=by rw[<-tk];rw[eJ rows (i+1)] at nd;exact(ZP.mp nd).1
   have lu:us.length=r.length:=hp.len;have wy:((rows.take i).flatten++r).length<=60:=by rw[<-tk];rw[eJ rows (i+1),ZA] at aP;omega
   rw[ZA] at wy;refine⟨_,rfl,Jd (n:=2) rfl ha (by rw[Zj];omega) λq H3 s3 hq=>?_⟩;rw[E5] at hq;have lq:(us.map V.ref).length=((fJ us).map V.ref).length:=by rw[Zj,Zj,E6]
   refine⟨a,q,rfl,⟨_,aO.of (s3 _ _ ha)⟩,⟨_,aO.of hq⟩,?_⟩;have s03:=s2.trans s3;refine E3 (K:=K) (xs:=us.map V.ref) (ys:=(fJ us).map V.ref) lq (λj σ H4=>∃(v3 v4:Option V) (kvs4:List (List Key×V)),σ=[some (.ref t),some (.ref d),some (.ref a),v3,v4]/\av H H4/\H4 q=some (.tup ((fJ us).map V.ref))/\aI H4 us r/\H4 a=some (.tup (us.map V.ref))/\H4 d=some (.dT kvs4)/\Bh H4 kvs4 rows ((rows.take i).flatten++r.take j)) ⟨_,_,kvs,rfl,s03,hq,hp.same s3,s3 _ _ ha,s3 _ _ g2,by simpa using B.same λt xs e=>s3 _ _ e⟩ ?_ ?_ ?_
   ·rintro j σ H4 _ ⟨v3,v4,kvs4,rfl,s4,h1,h2,h3,_⟩;exact⟨aO.of h3,aO.of h1⟩
   ·rintro j x y σ H4 q4 hx iC ⟨v3,v4,kvs4,rfl,s4,h1,h2,h3,h4,B4⟩ nZ;rw[Zo] at hx iC;obtain⟨ax,ex,rfl⟩:=Zp.mp hx;obtain⟨ay,ey,rfl⟩:=Zp.mp iC;obtain⟨ex1,lP,CH⟩:=h2.get ex;have Vo:∃vv:En,(fJ r)[j]?=some vv/\H4 ay=some (.tup (pV vv)):=by exact(Jc h2).get ey
    obtain⟨vv,LS,G6⟩:=Vo;have cy:=E7 lP LS;have sq:=aj (o:=.tup [.ref ax,.ref ay]) nZ;have gq:=ai (H:=H4) (a:=q4) (o:=.tup [.ref ax,.ref ay]);generalize upd H4 q4 (.tup [.ref ax,.ref ay])=H5 at sq gq⊢;have CI:r.take (j+1)=r.take j++[ex1]:=by rw[ZO,lP];rfl
    have ix:ex1∉(rows.take i).flatten++r.take j:=λhm=>by
     have e:(rows.take i).flatten++r=((rows.take i).flatten++r.take j)++(ex1::r.drop (j+1)):=by rw[ZV];congr 1;obtain⟨hj,e⟩:=Zq.mp lP;rw[<-e,aaD hj,aap]
     rw[e] at pre;exact(ZP.mp pre).2.2 ex1 hm ex1 (by simp) rfl
    have B5:Bh H5 kvs4 rows ((rows.take i).flatten++r.take j):=B4.same λt xs e=>sq _ _ e;refine⟨q4,_,rfl,aO.of gq,rfl,_,_,rfl,_,_,rfl,rfl,?_⟩;refine⟨_,rfl,_,rfl,_,rfl,d,_,rfl,jI.t (k:=kE ex1) (sq _ _ h4) (sq _ _ CH) (Z2 (show kvs4.length<=60 by rw[B5.len,ZA,ZK];omega) (by decide)),?_⟩;have B6:=B5.put (a:=ay) ix ⟨r,hr,cy⟩ (sq _ _ G6);have ne:∀{c:Addr} {o:HO},H5 c=some o->(∀kvs,o≠.dT kvs)->c≠d:=λ{c o} e n z=>by rw[z,sq _ _ h4] at e;exact n _ (ZH e).symm
    have kt:∀t xs,H5 t=some (.tup xs)->(upd H5 d (.dT (putK kvs4 (kE ex1) (.ref ay)))) t=some (.tup xs):=λt xs e=>by rw[ak (ne e λ_ z=>nomatch z)];exact e
    refine⟨_,_,_,rfl,av.bS (s4.trans sq) nY,kt _ _ (sq _ _ h1),(h2.same sq).mono kt,kt _ _ (sq _ _ h3),ai,?_⟩;rw[CI,<-ZV];exact B6.same kt
   ·rintro σ H4 ⟨v3,v4,kvs4,rfl,s4,h1,h2,h3,h4,B4⟩;rw[Zj,lu,Z6,<-tk] at B4;exact⟨_,_,_,_,rfl,s4,h4,B4⟩
  ·rintro σ H2 ⟨v2,v3,v4,kvs,rfl,s2,g2,B⟩;rw[Zj,lr,Z6] at B;exact⟨_,rfl,k d kvs H2 nY g2 s2 B⟩
end
theorem CJ(e:En):iV (pV e) 0=some (.int (e.1:Nat)):=rfl
theorem CK(e:En):iV (pV e) 1=some (.int (e.2:Nat)):=rfl
theorem qu(h:e.2<2):[V.int (e.1:Nat),V.int (1-(e.2:Int))]=pV (bL e):=by
 show _=[V.int (e.1:Nat),V.int ((1-e.2:Nat):Int)]
 rw[show((1-e.2:Nat):Int)=1-(e.2:Int) by omega]
theorem Wk.len(w:Wk S φ e f v):f.length<=S.length:=kh w.nd w.sub
section
variable {P:Program}{w:World}{K:PySem.W.Frag}{mg:Str->Option Value}{base:Heap}
def LU:Sp:=λvs H Q _=>∃(d a0:Addr) (kvs:List (List Key×V)) (n:Nat) (rows:List (List En)) (e:En),vs=[.ref d,.ref a0]/\H d=some (.dT kvs)/\Bh H kvs rows rows.flatten/\cW n rows/\H a0=some (.tup (pV e))/\e∈rows.flatten/\rows.flatten.length<=60 /\
 ∀(t:Addr) (us:List Addr) (f:List En) (H':Hp),H t=none->H' t=some (.tup (us.map V.ref))->aI H' us f->Wk rows.flatten (Ph rows) e f e->av H H'->Q (.ref t) H'
abbrev Vp:List Str:=["behind","first","face","end"]
theorem An:aQ Vp ["behind","first"] (ar CG):=⟨rfl,rfl,rfl,by decide +kernel,rfl,by decide +kernel,by decide +kernel⟩
def Qp(d a0 l:Addr)(rows:List (List En))(e:En)(H:Hp)(m:Nat)(σ:L2.St)(H2:Hp):Prop:=
 ∃(us:List Addr) (f:List En) (ae:Addr) (v:En),σ=[some (.ref d),some (.ref a0),some (.ref l),some (.ref ae)]/\av H H2/\H2 l=some (.lst (us.map V.ref))/\aI H2 us f/\H2 ae=some (.tup (pV v))/\v∈rows.flatten/\((f=[]/\v=e)\/Wk rows.flatten (Ph rows) e f v)/\m=rows.flatten.length-f.length
theorem Ot(F:bx K "face_from" "face_from" CG f fd)(T:cm mg):aG P w K mg base aS 1 f fd ["behind","first"] LU:=by
 refine F.ok An (λvs H Q E h=>?_) (λcdv A outer s H vs Q E hr h=>?_)
 ·obtain⟨d,a0,kvs,n,rows,e,rfl,_⟩:=h;rfl
 ·obtain⟨d,a0,kvs,n,rows,e,rfl,hd,B,R,CL,he,aP,k⟩:=h;have hu:=fh hr;refine⟨_,ao (aR (i:=2) An.nd rfl (Or.inl rfl) (bV af))
   (ao (aR (i:=3) An.nd rfl (Or.inl rfl) (pv 1))
   (ao (om aaa (PW.pt (fg (cq (oA (pv 2) (λ_=>rfl))) (dM (aZ (kX hu) (pv 3) (pv 1) (bz _)))))
    (ao (bw (cP ZS aah aai cA (pv 2) (aa (pv 3) af)))
    (au (aR (i:=3) An.nd rfl (Or.inl rfl) (gO hu (pv 0) (bE (aa (bX gx (pv 3) aD (λ_ _=>rfl)) (aa (bc hJ aD (bX gx (pv 3) aD (λ_ _=>rfl))) af))) (λ_ _=>rfl))))))
   (au (aT (bR (r:=kc K) bY (by rfl) T.tuple aan (aa (pv 2) af)))))),?_⟩
  try rw[ck]
  refine⟨(by show 0<=sizeLine;exact ZE _),λl nl=>?_⟩;have s1:=aj (o:=.lst []) nl;have g1:=ai (H:=H) (a:=l) (o:=.lst []);generalize upd H l (.lst [])=H1 at s1 g1⊢;refine⟨_,rfl,Qp d a0 l rows e H,⟨_,[],[],a0,e,rfl,s1,g1,.nil,s1 _ _ CL,he,.inl ⟨rfl,rfl⟩,rfl⟩,?_⟩;rintro m σ H2 ⟨us,f,ae,v,rfl,s2,g2,hp,CM,hv,st,rfl⟩;have v2:v.2<2:=((R.mem v).mp hv).2;have lf:us.length=f.length:=hp.len;have ne:∀{c:Addr} {o:HO},H c=some o->c≠l:=λe=>aw e nl;have hd2:=s2 _ _ hd;have Sq:=s2 _ _ CL;obtain⟨v',ph,hv'⟩:=R.ph hv;refine⟨_,rfl,_,.inl ⟨_,aq.of g2,rfl⟩,?_⟩;by_cases fe:f=[];case' pos=>
   have e0:(!(us.map V.ref).isEmpty)=false:=by rw[fe] at lf;rw[Z4.mp lf];rfl
   have nw:Wk rows.flatten (Ph rows) e (f++[v]) v':=by
    obtain⟨_,rfl⟩:=st.resolve_right λw=>by rw[fe] at w;exact nomatch w.hd
    rw[fe];exact Ci hv ph
   rw[e0];refine b6 (b6 ?_)
  case' neg=>
   have W:=st.resolve_left λz=>fe z.1;have e0:(!(us.map V.ref).isEmpty)=true:=by
    cases us with
    |nil=>exact absurd (Z4.mp lf.symm) fe
    |cons _ _=>rfl
   rw[e0];refine br ⟨_,rfl,_,rfl,wq CM Sq ⟨_,rfl,?_⟩⟩;by_cases ve:v=e;case' pos =>rw[decide_eq_true ve];subst ve;refine br ⟨_,rfl,l,_,rfl,.inl ⟨aq.of g2,λt nt=>?_⟩⟩;have st:=aj (o:=.tup (us.map V.ref)) nt;exact k t us f _ (s2.free nt) ai (hp.same st) W (s2.trans st)
   case' neg =>have nw:=W.more (Cj R.nd) ve hv ph;rw[decide_eq_false ve];refine b6 ?_
  all_goals
   have ln:=nw.len;rw[ZA,aaH] at ln;refine⟨λσ' H'=>∃m',m'<rows.flatten.length-_/\Qp d a0 l rows e H m' σ' H',λσ' H' h=>h,?_⟩;refine⟨_,rfl,.inl ⟨rfl,_,aq.of g2⟩,_,rfl,l,_,_,rfl,rfl,g2,Z2 (show _<=60 by rw[Zj];omega) (by decide),?_⟩;have kt:∀t xs,H2 t=some (.tup xs)->(upd H2 l (.lst (us.map V.ref++[V.ref ae]))) t=some (.tup xs):=λt xs e=>by rw[ak (cg e g2 λz=>nomatch z)];exact e
   have Qq:(upd H2 l (.lst (us.map V.ref++[V.ref ae]))) d=some (.dT kvs):=by rw[ak (ne hd)];exact hd2
   have g3:(upd H2 l (.lst (us.map V.ref++[V.ref ae]))) l=some (.lst ((us++[ae]).map V.ref)):=by rw[ai,ZU];rfl
   have s3:av H (upd H2 l (.lst (us.map V.ref++[V.ref ae]))):=av.bS s2 nl;have Ao:=kt _ _ CM;have qk:aI (upd H2 l (.lst (us.map V.ref++[V.ref ae]))) (us++[ae]) (f++[v]):=(hp.mono kt).snoc Ao;generalize upd H2 l (.lst (us.map V.ref++[V.ref ae]))=H3 at Qq g3 s3 Ao qk⊢;refine⟨_,rfl,_,rfl,ae,_,0,_,rfl,rfl,aO.of Ao,CJ v,_,rfl,ae,_,1,_,rfl,rfl,aO.of Ao,CK v,_,_,rfl,rfl,(by show 2<=sizeLine;decide),λq nq=>?_⟩;rw[qu v2];have sq:=aj (o:=.tup (pV (bL v))) nq;have gq:=ai (H:=H3) (a:=q) (o:=.tup (pV (bL v)));generalize upd H3 q (.tup (pV (bL v)))=H4 at sq gq⊢;obtain⟨G7,a',n1,n2,n3⟩:=B.val (bL v) (R.iO hv);obtain rfl:G7=v':=uq R.nd _ _ _ n1 ph.2;refine⟨d,_,rfl,(show c7 H4 d (.ref q) (some (.ref a')) from n2▸c7.t (k:=kE (bL v)) (sq _ _ Qq) gq),?_⟩;exact⟨rows.flatten.length-(f.length+1),by omega,us++[ae],f++[v],a',G7,rfl,s3.trans sq,sq _ _ g3,qk.same sq,sq _ _ (s3 _ _ n3),hv',.inr nw,by rw[ZA];rfl⟩
end
def hE(e:En):Int:=reduceHash (Builtin.Tuple.tupleHashOf [hashInt (e.1:Nat),hashInt (e.2:Nat)])
def LV:List En:=(List.range 30).flatMap λk=>[(k,0),(k,1)]
theorem Je:(LV.map hE).Nodup:=by decide +kernel
theorem wz(h1:e.1<30)(h2:e.2<2):e∈LV:=by
 refine acH.mpr ⟨e.1,aau.mpr h1,?_⟩;obtain⟨k,s⟩:=e
 have:s=0\/s=1:=by have:s<2:=h2;omega
 rcases this with rfl|rfl<;>simp
theorem qv:∀{l:List α},(l.map f).Nodup->∀{a b:α},a∈l->b∈l->f a=f b->a=b
 |x::l,nd,a,b,ha,hb,e=>by
  rw[ZI,ZT] at nd;rcases Zs.mp ha with e1|ha'<;>rcases Zs.mp hb with e2|hb'
  ·rw[e1,e2]
  ·exact absurd (ZD.mpr ⟨b,hb',by rw[<-e,e1]⟩) nd.1
  ·exact absurd (ZD.mpr ⟨a,ha',by rw[e,e2]⟩) nd.1
  ·exact qv nd.2 ha' hb' e
theorem Ou{f:List En}(nd:f.Nodup)(h:∀e∈f,e.1<30/\e.2<2):(f.map hE).Nodup:=
 aa0.mpr (abB (λ{a b} ha hb ne e=>ne (qv Je (wz (h a ha).1 (h a ha).2) (wz (h b hb).1 (h b hb).2) e)) nd)
theorem LW{K:PySem.W.Frag}{a:Addr}{xs:List V}{own:List Str}{fr:List Nat}{g:TG}{tt:TT}{tk te:TE}{σ:L2.St}{Q:VK}{H:Hp}(Pv:Nat->List (List Key×V)->Hp->Prop)(h0:Pv 0 [] H)(hlen:∀i kvs H,i<=xs.length->Pv i kvs H->kvs.length<=sizeLine)
  (hl:∀i kvs H,i<=xs.length->Pv i kvs H->aO K H a xs)
  (hs:∀i x kvs H (R:List (List Key×V)->Hp->Prop),xs[i]?=some x->Pv i kvs H->(∀jf H',Pv (i+1) jf H'->R jf H')->g x (cI own fr σ) H λσ4 H4=>tt σ4 H4 λb H5=>if b=true then tk σ4 H5 λy H6=>te σ4 H6 λz H7=>∃k c,y=.ref c/\H7 c=some (.tup (k.map kV))/\nA H H7/\R (putK kvs k z) H7 else nA H H5/\R kvs H5)
  (hd:∀kvs H,Pv xs.length kvs H->∀D,H D=none->Q (.ref D) (upd H D (.dT kvs))):wt own fr g tt tk te σ Q (uB K a) H:=by
 refine⟨λi m kvs H=>m=xs.length-i/\i<=xs.length/\Pv i kvs H,⟨xs.length,rfl,ZE _,h0⟩,?_⟩;rintro i m kvs H2 ⟨rfl,hi,p⟩;refine⟨hlen i kvs H2 hi p,?_⟩;have q:=hl i kvs H2 hi p;by_cases h:i<xs.length
 ·refine .inr ⟨⟨xs,xs[i],q,by simp[h]⟩,λx H3 hy=>?_⟩;obtain⟨rfl,hy⟩:=hy;exact hs i x kvs _ (λjf H'=>∃m',m'<xs.length-i/\(m'=xs.length-(i+1)/\i+1<=xs.length/\Pv (i+1) jf H')) (hy xs q) p λjf H' q=>⟨xs.length-(i+1),by omega,rfl,h,q⟩
 ·have e:i=xs.length:=by omega
  subst e;exact .inl ⟨⟨xs,q,Zn _⟩,hd kvs H2 p⟩
section
theorem Ov(ha:PE X a ta)(he:∀whole,isTrue a X.env whole=(do let v <-whole;standAt a.pos;holding [v] (truthy v))):PT X a (λσ H Q=>ta σ H λx H'=>∃p kvs,x=.ref p/\H' p=some (.dT kvs)/\Q (!kvs.isEmpty) H'):=by intro pins s σ H Q I h;exact aeG (aH (ha pins s σ H _ I h) λv s1 ⟨x,H1,I1,r1,q1⟩=>LL pins s1 σ H1 x v Q I1 r1 q1) (he _)
end
def bT(es:List En):List (List Key×V):=es.map λe=>(kE e,.bl true)
theorem tL(es:List En)(e:En):(bD (bT es) (kE e)).isSome=decide (e∈es):=by
 rw[<-eC,aat,aa8,ZY];constructor
 ·rintro⟨kv,hk,h⟩;obtain⟨x,hx,rfl⟩:=ZD.mp hk;exact ko (of_decide_eq_true h)▸hx
 ·exact λh=>⟨_,ZD.mpr ⟨e,h,rfl⟩,by simp⟩
theorem CN(h:e∉es):putK (bT es) (kE e) (.bl true)=bT (es++[e]):=by
 have:bD (bT es) (kE e)=none:=by
  cases q:bD (bT es) (kE e) with
  |none=>rfl
  |some v=>
   have:=tL es e
   rw[q,decide_eq_false h] at this;exact nomatch this
 rw[iY _ this];simp[bT]
abbrev yH:Stmt:=top 34 -- Sr
theorem qx{n:Nat}{rows:List (List En)}{rs:List En}(R:cW n rows)(p:rs.Perm rows.flatten)(w:rs.Pairwise λa b=>¬ eI b a):rs.Pairwise eO:=by
 have nd:=p.nodup_iff.mpr R.nd;refine adp (λ{a b} ⟨h,n⟩=>?_) (List.pairwise_and_iff.mpr ⟨w,nd⟩);rcases nh a b with z|z|z
 ·exact z
 ·exact absurd z n
 ·exact absurd z h
theorem dI.snoc(h:dI H as rows)(k:∃us:List Addr,H a=some (.tup (us.map V.ref))/\aI H us r):dI H (as++[a]) (rows++[r]):=aa2 h k
theorem dI.mono(h:dI H as rows)(k:∀t xs,H t=some (.tup xs)->H' t=some (.tup xs)):dI H' as rows:=Paired.gp h λa r ⟨us,e,p⟩=>⟨us,k _ _ e,p.mono k⟩
theorem wA{S rs:List En}(w:rs.Pairwise eO)(all:∀e∈S,e∈rs){i:Nat}{e:En}(h:rs[i]?=some e):rs.take (i+1)=rs.take i++[e]/\(∀a∈rs.take i,eO a e)/\∀a∈S,eO a e->a∈rs.take i:=by
 obtain⟨hi,he⟩:=Zq.mp h;have pw:=abe.mp w;refine⟨by rw[ZO,h];rfl,λa ha=>?_,λa ha lt=>?_⟩
 ·obtain⟨j,hj,e1⟩:=aak ha;rw[ZK] at hj;rw[acm] at e1;rw[<-e1,<-he];exact pw j i (by omega) hi (by omega)
 ·obtain⟨j,hj,e1⟩:=aak (all a ha);by_cases c:j<i
  ·exact Zr (i:=j) (by rw[acd,if_pos c,Zk hj,e1])
  ·exfalso;rcases aa3 i j with q|q
   ·have:=pw i j hi hj q
    rw[he,e1] at this;exact ip lt this
   ·have:i=j:=by omega
    subst this;rw[he] at e1;exact ql (e1▸lt)
theorem jq:∀{fs:List (List En)},(∀f∈fs,f≠[])->fs.length<=fs.flatten.length
 |[],_=>ZE _
 |f::fs,h=>by
  have:=jq (fs:=fs) λg hg=>h g (by simp[hg])
  have:=abC.mpr (h f (by simp))
  rw[aaf,ZA,Zz];omega
section
variable {P:Program}{w:World}{K:PySem.W.Frag}{mg:Str->Option Value}{base:Heap}
def LX:Sp:=λvs H Q _=>∃(t:Addr) (as:List Addr) (n:Nat) (rows:List (List En)),vs=[.ref t]/\H t=some (.tup (as.map V.ref))/\dI H as rows/\cW n rows/\n<=30/\rows.flatten.length<=60 /\
 ∀(l:Addr) (ts:List Addr) (fs:List (List En)) (H':Hp),H l=none->H' l=some (.lst (ts.map V.ref))->dI H' ts fs->av H H'->(n=0->fs=[[]])->(0<n->jo rows.flatten (Ph rows) fs)->Q (.ref l) H'
abbrev Qr:List Str:=["turns","behind","faces","seen","end","face"]
theorem rA:aQ Qr ["turns"] (ar yH):=⟨rfl,rfl,rfl,by decide +kernel,rfl,by decide +kernel,by decide +kernel⟩
theorem Ow{f fB fF:Addr}{fd Qs jE:FuncData}(F:bx K "faces_of" "faces_of" yH f fd)(DB:Df K mg "ends_behind" CF ["turns"] fB Qs)(DF:Df K mg "face_from" CG ["behind","first"] fF jE)(hz:mg "zip" = none)(T:cm mg):aG P w K mg base aS 2 f fd ["turns"] LX:=by
 have GB:aG P w K mg base aS 1 fB Qs ["turns"] LR:=Oq DB.fn hz;have GF:aG P w K mg base aS 1 fF jE ["behind","first"] LU:=Ot DF.fn T;refine F.ok rA (λvs H Q E h=>?_) (λcdv A outer s H vs Q E hr h=>?_)
 ·obtain⟨t,as,n,rows,rfl,_⟩:=h;rfl
 ·obtain⟨t,as,n,rows,rfl,ht,hR,R,Yn,aP,k⟩:=h;have hu:=fh hr;refine⟨_,ao (aR (i:=1) rA.nd rfl (Or.inl rfl) (aJ GB hr rfl DB.bK DB.fn.kp DB.b .nil aK (aa (pv 0) af)))
   (ao (bQ (cq (Ov (pv 1) (λ_=>rfl))) (au (aT (bV (aa (bE af) af)))) bu)
   (ao (aR (i:=2) rA.nd rfl (Or.inl rfl) (bV af))
   (ao (aR (i:=3) rA.nd rfl (Or.inl rfl) kM)
   (ao (cH aaa rfl (bo (aA (kl rfl) (by rfl) T.sorted abN (aa (pv 1) af))) (aE (i:=4) rA.nd rfl (Or.inl rfl))
    (au (bQ (AJ (sC hu (pv 4) (pv 3)))
     (ao (aR (i:=5) rA.nd rfl (Or.inl rfl) (aJ GF hr rfl DF.bK DF.fn.kp DF.b .nil aK (aa (pv 1) (aa (pv 4) af))))
     (ao (bw (cP ZS aah aai cA (pv 2) (aa (pv 5) af)))
     (au (bw (cP PySem.F.plainAttrs_dict adF PySem.F.type_dict_update (Aj hu) (pv 3) (aa
      (Ol ["other"] [] rfl hu (bA (osc:=(ar yH).names) (N:=Qr) rfl rfl (by decide +kernel)) (bP (by decide)) (pE (pv 5)) (λ_ _ _=>aE (i:=0) (show(["other"]:List Str).Nodup by decide +kernel) rfl (Or.inl rfl)) (λ_ _ _=>bp) (λ_ _ _=>pv 0) (λ_ _ _=>dX)) af)))))) bu)))
   (au (aT (pv 2))))))),?_⟩
  try rw[ck]
  refine⟨_,rfl,t,as,rows,rfl,ht,hR,R.nd,aP,λd kvs H1 nY g1 s1 B=>?_⟩;refine⟨_,rfl,d,kvs,rfl,g1,?_⟩;have lk:=B.len;by_cases n0:n=0
  ·have fe:rows.flatten=[]:=List.eq_nil_iff_forall_not_mem.mpr λe he=>by have:=((R.mem e).mp he).1;omega
   rw[fe] at lk;obtain rfl:kvs=[]:=Z4.mp lk;refine b6 ⟨ZE _,λq nq=>⟨(by show 1<=sizeLine;decide),λl nl=>?_⟩⟩;have s2:=aj (o:=.tup []) nq;have s3:=aj (o:=.lst [.ref q]) nl;refine k l [q] [[]] _ (s1.free (s2.free nl)) ai (.cons ⟨[],s3 _ _ ai,.nil⟩ .nil) (s1.trans (s2.trans s3)) (λ_=>rfl) λz=>absurd z (by omega)
  ·have ke:kvs.isEmpty=false:=by
    cases kvs with
    |cons _ _=>rfl
    |nil=>
     exfalso
     have:((0,0):En)∈rows.flatten:=(R.mem _).mpr ⟨by show 0<n;omega,by decide⟩
     have:=abm this
     rw[aaL] at lk;omega
   rw[ke];refine br ⟨ZE _,λl nl=>?_⟩;have s2:=aj (o:=.lst []) nl;have gl:=ai (H:=H1) (a:=l) (o:=.lst []);generalize upd H1 l (.lst [])=H2 at s2 gl⊢;intro se G8;have s3:=aj (o:=.dT []) G8;have Qt:=ai (H:=H2) (a:=se) (o:=.dT []);have LY:=s3 _ _ gl;generalize upd H2 se (.dT [])=H3 at s3 Qt LY⊢;have Qu:=s2.trans s3;refine⟨_,rfl,d,kvs,rows.flatten,rfl,Qu _ _ g1,B.keys,by omega,λls vs rs tN hp pm pw=>?_⟩;have s4:=aj (o:=.lst (vs.map V.ref)) tN;have wC:=ai (H:=H3) (a:=ls) (o:=.lst (vs.map V.ref));generalize upd H3 ls (.lst (vs.map V.ref))=H4 at s4 wC⊢;have s14:=Qu.trans s4;have CO:H l=none:=s1.free nl;have Ss:H se=none:=s1.free (s2.free G8);have d1:l≠se:=aw gl G8;have w:=qx R pm pw;have wD:∀e∈rows.flatten,e∈rs:=λe he=>pm.mem_iff.mpr he;refine⟨ls,rfl,⟨_,aq.of wC⟩,?_⟩;refine dk (K:=K) (xs:=vs.map V.ref) (λi σ H5=>∃(v4 v5:Option V) (ts:List Addr) (fs:List (List En)),σ=[some (.ref t),some (.ref d),some (.ref l),some (.ref se),v4,v5]/\av H H5/\H5 d=some (.dT kvs)/\aI H5 vs rs/\H5 ls=some (.lst (vs.map V.ref))/\H5 l=some (.lst (ts.map V.ref))/\dI H5 ts fs/\H5 se=some (.dT (bT fs.flatten))/\Bh H5 kvs rows rows.flatten/\mR rows.flatten (Ph rows) (rs.take i) fs)
    ⟨_,_,[],[],rfl,s1.trans s14,s14 _ _ g1,hp.same s4,wC,s4 _ _ LY,.nil,s4 _ _ Qt,B.same λt xs e=>s14 _ _ e,yy⟩ ?_ ?_ ?_
   ·rintro i σ H5 _ ⟨v4,v5,ts,fs,rfl,_,_,_,g,_⟩;exact aq.of g
   ·rintro i y σ H5 hy ⟨v4,v5,ts,fs,rfl,s5,lQ,hp5,oW,kq,hts5,Ap,B5,P5⟩;rw[Zo] at hy;obtain⟨a,ea,rfl⟩:=Zp.mp hy;obtain⟨e,ee,ha⟩:=hp5.get ea;obtain⟨tk,lt,al⟩:=wA w wD ee;have eS:e∈rows.flatten:=pm.mem_iff.mp (Zr ee);refine⟨_,rfl,_,rfl,se,_,rfl,c7.t (k:=kE e) Ap ha,_,rfl,?_⟩;rw[tL];by_cases c:e∈fs.flatten
    ·rw[decide_eq_true c];refine br ⟨_,_,ts,fs,rfl,s5,lQ,hp5,oW,kq,hts5,Ap,B5,?_⟩;rw[tk];exact P5.skip c
    ·rw[decide_eq_false c];refine b6 ⟨_,rfl,_,rfl,d,a,kvs,n,rows,e,rfl,lQ,B5,R,ha,eS,aP,λtt us f H6 Yo g6 Vq W s6=>?_⟩;have Pn:=P5.add (qm R.nd) c W.hd W.nd W.sub W.eF lt al;have qz:ts.length=fs.length:=ZG hts5;have yI:fs.flatten.length<=60:=Zu (kh P5.nd P5.sub) aP;have Vr:=jq P5.ne;have qA:=s6 _ _ kq;refine⟨_,rfl,.inl ⟨rfl,_,aq.of qA⟩,_,rfl,l,_,_,rfl,rfl,qA,Z2 (show _<=60 by rw[Zj];omega) (by decide),?_⟩;have kt:∀t xs,H6 t=some (.tup xs)->(upd H6 l (.lst (ts.map V.ref++[V.ref tt]))) t=some (.tup xs):=λt xs e=>by rw[ak (cg e qA λz=>nomatch z)];exact e
     have s7:av H (upd H6 l (.lst (ts.map V.ref++[V.ref tt]))):=av.bS (s5.trans s6) CO;have Qv:(upd H6 l (.lst (ts.map V.ref++[V.ref tt]))) d=some (.dT kvs):=by rw[ak (cg (s6 _ _ lQ) qA λz=>nomatch z)];exact s6 _ _ lQ
     have rB:(upd H6 l (.lst (ts.map V.ref++[V.ref tt]))) se=some (.dT (bT fs.flatten)):=by rw[ak (Z0 d1)];exact s6 _ _ Ap
     have Su:ls≠l:=λz=>by rw[z] at tN;rw[LY] at tN;cases tN
     have E8:(upd H6 l (.lst (ts.map V.ref++[V.ref tt]))) ls=some (.lst (vs.map V.ref)):=by rw[ak Su];exact s6 _ _ oW
     have Qw:(upd H6 l (.lst (ts.map V.ref++[V.ref tt]))) l=some (.lst ((ts++[tt]).map V.ref)):=by rw[ai,ZU];rfl
     have g7:=kt _ _ g6;have G9:=Vq.mono kt;have hvs7:=(hp5.same s6).mono kt;have hts7:dI (upd H6 l (.lst (ts.map V.ref++[V.ref tt]))) (ts++[tt]) (fs++[f]):=dI.snoc ((hts5.same s6).mono kt) ⟨us,g7,G9⟩;have B7:=(B5.same λt xs e=>s6 _ _ e).same kt;generalize upd H6 l (.lst (ts.map V.ref++[V.ref tt]))=H7 at s7 Qv rB E8 Qw g7 G9 hvs7 hts7 B7⊢;have lf:=W.len;refine⟨_,rfl,.inr (.inr (.inl ⟨rfl,.inr ⟨_,rB⟩⟩)),_,rfl,tt,rfl,⟨_,aO.of g7⟩,?_⟩;refine LW (K:=K) (xs:=us.map V.ref) (λi kv H8=>H8=H7/\kv=bT (f.take i)) ⟨rfl,rfl⟩ ?_ ?_ ?_ ?_
     ·rintro i kv H8 _ ⟨_,rfl⟩;rw[show(bT (f.take i)).length=(f.take i).length from Zj _,ZK];exact Zu (show _<=60 by omega) (by decide)
     ·rintro i kv H8 _ ⟨rfl,_⟩;exact aO.of g7
     ·rintro i x kv H8 RR hx ⟨rfl,rfl⟩ kR;rw[Zo] at hx;obtain⟨u,eu,rfl⟩:=Zp.mp hx;obtain⟨e',Gq,wo⟩:=G9.get eu;simp only[cD,bj,Z7];refine⟨_,rfl,kE e',u,rfl,wo,λ_ _ e=>e,?_⟩;have Vs:f.take (i+1)=f.take i++[e']:=by rw[ZO,Gq];rfl
      have ni:e'∉f.take i:=λhm=>by
       obtain⟨j,hj,e1⟩:=aak hm;rw[ZK] at hj;rw[acm] at e1
       have:=gY W.nd (i:=j) (j:=i) (x:=e') (by rw[Zk (by omega),e1]) Gq
       omega
      rw[CN ni,<-Vs];exact kR _ _ ⟨rfl,rfl⟩
     ·rintro kv H8 ⟨rfl,rfl⟩ D nD;rw[Zj,G9.len,Z6];have s8:=aj (o:=.dT (bT f)) nD;have gD:=ai (H:=H8) (a:=D) (o:=.dT (bT f));generalize upd H8 D (.dT (bT f))=H9 at s8 gD⊢;have Vt:se≠D:=aw rB nD;have fne:f≠[]:=λz=>by rw[z] at W;exact nomatch W.hd
      have keys:∀l:List En,(bT l).map (·.1)=l.map kE:=λl=>by rw[bT,aaC];rfl
      have nk:(bT fs.flatten++bT f)=bT (fs++[f]).flatten:=by simp[bT]
      have CP:=Pn.nd;rw[aaF,ZP] at CP;refine⟨se,D,_,_,rfl,rfl,s8 _ _ rB,gD,Vt,by simpa [bT] using fne,λy hy hm=>?_,λ_=>?_,?_,?_⟩
      ·obtain⟨x1,hx1,rfl⟩:=ZD.mp hy;rw[keys] at hm;obtain⟨x2,Vu,e2⟩:=ZD.mp hm;exact CP.2.2 x2 Vu x1 (by simpa using hx1) (ko e2)
      ·rw[bT,aaC];exact Ou W.nd λx hx=>by have:=(R.mem x).mp (W.sub x hx);exact⟨by omega,this.2⟩
      ·rw[bT,bT,Zj,Zj];exact Zu (show _<=120 by omega) (by decide)
      ·have LZ:∀t xs,H9 t=some (.tup xs)->(upd H9 se (.dT (bT fs.flatten++bT f))) t=some (.tup xs):=λt xs e=>by rw[ak (cg e (s8 _ _ rB) λz=>nomatch z)];exact e
       have ol:∀c o,H9 c=some o->c≠se->(upd H9 se (.dT (bT fs.flatten++bT f))) c=some o:=λc o e n=>by rw[ak n];exact e
       have Sv:ls≠se:=cg E8 rB λz=>nomatch z;have vL:d≠se:=aw (s2 _ _ g1) G8;refine⟨_,_,ts++[tt],fs++[f],rfl,av.bS (s7.trans s8) Ss,ol _ _ (s8 _ _ Qv) vL,(hvs7.same s8).mono LZ,ol _ _ (s8 _ _ E8) Sv,ol _ _ (s8 _ _ Qw) d1,(hts7.same s8).mono LZ,by rw[ai,nk],(B7.same λt xs e=>s8 _ _ e).same LZ,?_⟩;rw[tk];exact Pn
   ·rintro σ H5 ⟨v4,v5,ts,fs,rfl,s5,lQ,hp5,oW,kq,hts5,Ap,B5,P5⟩;have lv:vs.length=rs.length:=hp5.len;rw[Zj,lv,Z6] at P5;exact⟨_,rfl,k l ts fs H5 CO kq hts5 s5 (λz=>absurd z n0) λ_=>P5.fin wD⟩
end
abbrev yJ:Stmt:=top 31 -- Ox
abbrev CQ:Stmt:=top 41 -- Oy
def RL(r r':List En):Prop:=iH r r'/\(r=[]\/∃m,r'.head?=some m/\∀y∈r,y=m\/eO m y)
theorem iH.trans(h:iH r r')(k:iH r' Vv):iH r Vv:=⟨h.1.trans k.1,λu v=>(h.2 u v).trans (k.2 u v)⟩
theorem RL.uniq(nd:r.Nodup)(h:RL r x)(k:RL r' y)(s:iH r r'):x=y:=by
 have nx:=h.1.1.nodup_iff.mp nd;have sy:=s.trans k.1;have ny:=sy.1.nodup_iff.mp nd;rcases h.2 with e|⟨m,hm,lm⟩
 ·subst e;rw[h.1.1.symm.eq_nil,sy.1.symm.eq_nil]
 ·rcases k.2 with e|⟨m',F',Vw⟩
  ·subst e
   have:=s.1.eq_nil
   subst this;rw[h.1.1.symm.eq_nil,sy.1.symm.eq_nil]
  ·have mr:m∈r:=h.1.1.mem_iff.mpr (acJ hm);have Vx:m'∈r:=sy.1.mem_iff.mpr (acJ F');obtain rfl:m=m':=by
    rcases lm m' Vx with z|z
    ·exact z.symm
    ·rcases Vw m (s.1.mem_iff.mp mr) with z'|z'
     ·exact z'
     ·exact(ip z z').elim
   exact vY (φ:=bh r) (λu v w a b=>a.fn nd b) nx ny (λu v c=>(h.1.2 u v).mpr c) (λu v c=>(sy.2 u v).mpr c) hm F'
theorem G'(hm:m∈r)(le:∀y∈r,¬ eI y m):RL r (r.drop (r.idxOf m)++r.take (r.idxOf m)):=by
 have hi:r.idxOf m<r.length:=abi.mpr hm;refine⟨tx r _,.inr ⟨m,?_,λy hy=>?_⟩⟩
 ·rw[ae5,List.head?_drop,Zk hi,aeT];rfl
 ·rcases nh y m with z|z|z
  ·exact absurd z (le y hy)
  ·exact .inl z
  ·exact .inr z
theorem CS:RL [] []:=⟨⟨.nil,λ_ _=>aeU⟩,.inl rfl⟩
theorem L0(xs:List V)(h:i<=xs.length):fu xs (some (i:Int)) none=xs.drop i:=by unfold fu;rw[HT.qO,HT.uH,abK h];exact aab (by rw[aaP];exact Zn _)
theorem L7(xs:List V)(h:i<=xs.length):fu xs none (some (i:Int))=xs.take i:=by unfold fu;rw[HT.qO,HT.uH,abK h];rfl
theorem nB{K:PySem.W.Frag}{σ:L2.St}{n m:Nat}{H:Hp}{l:Addr}{us:List Addr}{i:Nat}{Q:VK}(hv:σ[n]?=some (some (.ref l)))(hw:σ[m]?=some (some (.int (i:Int))))(h:H l=some (.lst (us.map V.ref)))(hi:i<=us.length)(aP:us.length<=1000)(k:∀q H',H q=none->av H H'->H' q=some (.lst ((us.drop i++us.take i).map V.ref))->Q (.ref q) H') :
  pG Km (A0 (DM K) (gM n) (pL (gM m)) jU) (A0 (DM K) (gM n) jU (pL (gM m))) σ H Q:=by
 refine⟨_,hv,_,hw,_,rfl,l,_,rfl,aq.of h,λp1 n1=>?_⟩;rw[L0 _ (by rw[Zj];exact hi)];have s1:=aj (o:=.lst ((us.map V.ref).drop i)) n1;have g1:=ai (H:=H) (a:=p1) (o:=.lst ((us.map V.ref).drop i));generalize upd H p1 (.lst ((us.map V.ref).drop i))=H1 at s1 g1⊢;refine⟨_,hv,_,hw,_,rfl,l,_,rfl,aq.of (s1 _ _ h),λp2 n2=>?_⟩;rw[L7 _ (by rw[Zj];exact hi)];have s2:=aj (o:=.lst ((us.map V.ref).take i)) n2;have g2:=ai (H:=H1) (a:=p2) (o:=.lst ((us.map V.ref).take i));generalize upd H1 p2 (.lst ((us.map V.ref).take i))=H2 at s2 g2⊢;refine⟨p1,p2,_,_,rfl,rfl,s2 _ _ g1,g2,?_,λp3 n3=>?_⟩
 ·rw[aaP,ZK,Zj];exact Zu (show _<=2000 by omega) (by decide)
 ·exact k p3 _ (s1.free (s2.free n3)) (s1.trans (s2.trans (aj n3))) (by rw[ai,<-adi,<-adk,<-ZU])
section
variable {P:Program}{w:World}{K:PySem.W.Frag}{mg:Str->Option Value}{base:Heap}
def E9:Sp:=λvs H Q _=>∃(a:Addr) (us:List Addr) (r:List En),vs=[.ref a]/\H a=some (.lst (us.map V.ref))/\aI H us r/\r.length<=60/\∀(q:Addr) (vs:List Addr) (r':List En) (H':Hp),H q=none->H' q=some (.lst (vs.map V.ref))->aI H' vs r'->RL r r'->av H H'->Q (.ref q) H'
abbrev Vy:List Str:=["_law_row","_law_at"]
theorem L8:aQ Vy ["_law_row"] (ar CQ):=⟨rfl,rfl,rfl,by decide +kernel,rfl,by decide +kernel,by decide +kernel⟩
theorem Oz{f:Addr}{fd:FuncData}(F:bx K "_law_round" "_law_round" CQ f fd)(T:cm mg):aG P w K mg base aS 1 f fd ["_law_row"] E9:=by
 refine F.ok L8 (λvs H Q E h=>?_) (λcdv A outer s H vs Q E hr h=>?_)
 ·obtain⟨a,us,r,rfl,_⟩:=h;rfl
 ·obtain⟨a,us,r,rfl,ha,hp,aP,k⟩:=h;have hu:=fh hr;refine⟨_,ao (aR (i:=1) L8.nd rfl (Or.inl rfl) (kG (aZ (sP (low 0 hr)) (pv 0) (bV af) (bz _)) (cP ZS abD ack (mT (low 1 hr)) (pv 0) (aa (aA (nX rfl (low 1 hr)) (by rfl) T.min af7 (aa (pv 0) af)) af)) aD))
   (au (aT (bc pP (eB iI (pv 0) (eM (pv 1)) fY) (eB iI (pv 0) fY (eM (pv 1)))))),?_⟩
  try rw[ck]
  have lu:us.length=r.length:=hp.len;refine⟨_,rfl,ZE _,λz0 CT=>?_⟩;have s1:=aj (o:=.lst []) CT;have gz:=ai (H:=H) (a:=z0) (o:=.lst []);generalize upd H z0 (.lst [])=H1 at s1 gz⊢;refine⟨a,z0,_,rfl,rfl,aq.of (s1 _ _ ha),aq.of gz,_,rfl,?_⟩;by_cases c:r=[]
  ·subst c;obtain rfl:us=[]:=Z4.mp lu;refine br (nB (n:=0) (m:=1) (i:=0) (us:=[]) rfl rfl (s1 _ _ ha) (Zn _) (ZE _) λq H2 nq s2 g2=>?_);exact k q [] [] H2 (s1.free nq) g2 .nil CS (s1.trans s2)
  ·have e0:decide (us.map V.ref=[])=false:=by
    rw[aaB];intro z
    have:=congrArg List.length z
    rw[Zj,lu] at this;exact c (Z4.mp this)
   rw[if_pos rfl,e0];have Ha:=s1 _ _ ha;have hp1:=hp.same s1;refine b6 ⟨_,rfl,.inl ⟨rfl,_,aq.of Ha⟩,_,rfl,a,us,r,rfl,aq.of Ha,hp1,c,λi u m eu em le=>?_⟩;have mr:=Zr em;obtain⟨m',CU,hm⟩:=hp1.get eu;rw[em] at CU;cases CU;refine⟨a,u,us,r,m,rfl,rfl,hm,aq.of Ha,hp1,mr,by omega,?_⟩;refine nB (n:=0) (m:=1) (i:=r.idxOf m) rfl rfl Ha (by rw[lu];exact aag (abi.mpr mr)) (by omega) λq H2 nq s2 g2=>?_;exact k q _ _ H2 (s1.free nq) g2 (gV (fK _ (hp1.same s2)) (fQ _ (hp1.same s2))) (G' mr le) (s1.trans s2)
def Ma:Sp:=λvs H Q _=>∃(a:Addr) (us:List Addr) (r:List En),vs=[.ref a]/\H a=some (.lst (us.map V.ref))/\aI H us r/\r.length<=60/\∀(q:Addr) (vs:List Addr) (r':List En) (H':Hp),H q=none->H' q=some (.tup (vs.map V.ref))->aI H' vs r'->RL r r'->av H H'->Q (.ref q) H'
abbrev Qx:List Str:=["ends","at"]
theorem Mc:aQ Qx ["ends"] (ar yJ):=⟨rfl,rfl,rfl,by decide +kernel,rfl,by decide +kernel,by decide +kernel⟩
theorem OA(F:bx K "from_least" "from_least" yJ f fd)(T:cm mg):aG P w K mg base aS 1 f fd ["ends"] Ma:=by
 refine F.ok Mc (λvs H Q E h=>?_) (λcdv A outer s H vs Q E hr h=>?_)
 ·obtain⟨a,us,r,rfl,_⟩:=h;rfl
 ·obtain⟨a,us,r,rfl,ha,hp,aP,k⟩:=h;have hu:=fh hr;refine⟨_,ao (bQ (cq (oA (pv 0) (λ_=>rfl))) (au (aT (bE af))) bu)
   (ao (aR (i:=1) Mc.nd rfl (Or.inl rfl) (cP ZS abD ack (mT (low 1 hr)) (pv 0) (aa (aA (nX rfl (low 1 hr)) (by rfl) T.min af7 (aa (pv 0) af)) af)))
   (au (aT (bR (r:=kc K) bY (by rfl) T.tuple aan (aa
    (dw ["k","side"] [] rfl (bA (osc:=(ar yJ).names) (N:=Qx) rfl rfl (by decide +kernel)) (gC (K:=K) (k:=2) (by decide) (by decide)) (bo (bc pP (eB iI (pv 0) (eM (pv 1)) fY) (eB iI (pv 0) fY (eM (pv 1)))))
     (λ_ _ _=>cU rfl (aU (aE (i:=0) (show(["k","side"]:List Str).Nodup by decide +kernel) rfl (Or.inl rfl)) (aU (aE (i:=1) (show(["k","side"]:List Str).Nodup by decide +kernel) rfl (Or.inl rfl)) cv))) (λ_ _ _=>bp)
     (λ_ _ _=>bE (aa (pv 0) (aa (pv 1) af)))) af))))),?_⟩
  try rw[ck]
  have lu:us.length=r.length:=hp.len;refine⟨_,rfl,_,.inl ⟨_,aq.of ha,rfl⟩,?_⟩;by_cases c:r=[]
  ·subst c;obtain rfl:us=[]:=Z4.mp lu;refine b6 ⟨ZE _,λq nq=>?_⟩;exact k q [] [] _ nq ai .nil CS (aj nq)
  ·have e0:(!(us.map V.ref).isEmpty)=true:=by
    cases us with
    |nil=>exact absurd (Z4.mp lu.symm) c
    |cons _ _=>rfl
   rw[e0];refine br ⟨_,rfl,.inl ⟨rfl,_,aq.of ha⟩,_,rfl,a,us,r,rfl,aq.of ha,hp,c,λi u m eu em le=>?_⟩;have mr:=Zr em;obtain⟨m',CU,hm⟩:=hp.get eu;rw[em] at CU;cases CU;refine⟨a,u,us,r,m,rfl,rfl,hm,aq.of ha,hp,mr,by omega,?_⟩;have ix:r.idxOf m<=us.length:=by rw[lu];exact aag (abi.mpr mr)
   refine nB (n:=0) (m:=1) (i:=r.idxOf m) rfl rfl ha ix (by omega) λq H2 nq s2 g2=>?_;have hp2:=gV (fK (r.idxOf m) (hp.same s2)) (fQ (r.idxOf m) (hp.same s2));have rl:=G' mr le;have Md:(r.drop (r.idxOf m)++r.take (r.idxOf m)).length=r.length:=by rw[ZA,aaP,ZK];omega
   generalize r.drop (r.idxOf m)++r.take (r.idxOf m)=r' at hp2 rl Md;generalize us.drop (r.idxOf m)++us.take (r.idxOf m)=ws at hp2 g2;refine⟨q,rfl,⟨_,aq.of g2⟩,cQ (K:=K) (xs:=ws.map V.ref) (λj ys H3=>av H2 H3/\∃vs:List Addr,ys=vs.map V.ref/\aI H3 vs (r'.take j)) ⟨av.refl _,[],rfl,.nil⟩ ?_ ?_ ?_ ?_⟩
   ·rintro j ys H3 _ ⟨_,vs,rfl,p3⟩;rw[Zj,p3.len,ZK];exact Zu (show _<=60 by omega) (by decide)
   ·rintro j ys H3 _ ⟨s3,_⟩;exact aq.of (s3 _ _ g2)
   ·rintro j x ys H3 R hx ⟨s3,vs,rfl,p3⟩ kR;rw[Zo] at hx;obtain⟨b,eb,rfl⟩:=Zp.mp hx;obtain⟨e,ee,hb⟩:=(hp2.same s3).get eb;simp only[cD,bj,Z7];refine⟨b,_,rfl,aO.of hb,rfl,_,_,rfl,_,_,rfl,rfl,?_⟩;refine⟨_,rfl,_,rfl,(by show 2<=sizeLine;decide),λt nt=>?_⟩;have st:=aj (o:=.tup (pV e)) nt;refine kR _ _ ⟨s3.trans st,vs++[t],by rw[ZU];rfl,?_⟩;rw[ZO,ee];exact(p3.same st).snoc ai
   ·rintro ys H3 ⟨s3,vs,rfl,p3⟩ l nl;rw[Zj,hp2.len,Z6] at p3;have sl:=aj (o:=.lst (vs.map V.ref)) nl;refine⟨l,_,rfl,.inl ⟨aq.of ai,λt nt=>?_⟩⟩;have st:=aj (o:=.tup (vs.map V.ref)) nt;exact k t vs r' _ (s2.free (s3.free (sl.free nt))) ai (p3.same (sl.trans st)) rl (s2.trans (s3.trans (sl.trans st)))
end
abbrev tO:Stmt:=top 42 -- OB
def bC(H:Hp):List Addr->List (List En)->Prop:=Paired λa r=>∃us:List Addr,H a=some (.lst (us.map V.ref))/\aI H us r
theorem bC.same(h:bC H as rows)(s:av H H'):bC H' as rows:=Paired.gp h λa r ⟨us,e,p⟩=>⟨us,s _ _ e,p.same s⟩
theorem bC.get:∀{as:List Addr} {rows:List (List En)} {i:Nat} {a:Addr},bC H as rows->as[i]?=some a->∃r us,rows[i]?=some r/\H a=some (.lst (us.map V.ref))/\aI H us r
 |_,_,0,_,.cons ⟨us,h,p⟩ _,e=>by cases e;exact⟨_,us,rfl,h,p⟩
 |_,_,i+1,_,.cons _ t,e=>by obtain⟨r,us,x,y,z⟩:=bC.get (i:=i) t (by simpa using e);exact⟨r,us,by simpa using x,y,z⟩
theorem bC.snoc(h:bC H as rows)(k:∃us:List Addr,H a=some (.lst (us.map V.ref))/\aI H us r):bC H (as++[a]) (rows++[r]):=aa2 h k
theorem Fb{r:List En}{j:Nat}{u:En}(h:r[j]?=some u):∃v,r[(j+1) % r.length]?=some v/\bh r u v:=by
 have lt:=(Zq.mp h).1;by_cases c:j+1<r.length
 ·rw[Nat.mod_eq_of_lt c];exact⟨_,Zk c,j,h,.inl (Zk c)⟩
 ·have e:j+1=r.length:=by omega
  rw[e,Nat.mod_self];exact⟨_,Zk (by omega),j,h,.inr ⟨e,Zk (by omega)⟩⟩
theorem kr:∀{as:List Addr} {rows:List (List En)},bC H as rows->(∀x∈as,x≠l)->(∀t xs,H t=some (.tup xs)->H' t=some (.tup xs))->(∀c o,H c=some o->c≠l->H' c=some o)->bC H' as rows
 |_,_,.nil,_,_,_=>.nil
 |_,_,.cons ⟨us,e,p⟩ t,n,kt,ol=>.cons ⟨us,ol _ _ e (n _ (by simp)),p.mono kt⟩ (kr t (λx hx=>n x (by simp[hx])) kt ol)
theorem wG{K:PySem.W.Frag}{σ:L2.St}{m n N:Nat}{H:Hp}{d ah:Addr}{kvs:List (List Key×V)}{rows:List (List En)}{v:En}{Q:VK}(h1:σ[m]?=some (some (.ref d)))(h2:σ[n]?=some (some (.ref ah)))(hd:H d=some (.dT kvs))(B:Bh H kvs rows rows.flatten)(R:cW N rows)(hv:v∈rows.flatten)(hah:H ah=some (.tup (pV v)))
  (kk:∀v' a' H',Ph rows v v'->v'∈rows.flatten->av H H'->H' a'=some (.tup (pV v'))->Q (.ref a') H') :
  zG (gM m) (Dy (pJ (pG (zB K) (gM n) (tC (.int 0))) (pJ (pG (rV λi j=>.int (i-j)) (tC (.int 1)) (pG (zB K) (gM n) (tC (.int 1)))) zo))) σ H Q:=by
 have v2:v.2<2:=((R.mem v).mp hv).2;obtain⟨v',ph,hv'⟩:=R.ph hv;refine⟨_,h1,_,h2,ah,_,0,_,rfl,rfl,aO.of hah,CJ v,_,h2,ah,_,1,_,rfl,rfl,aO.of hah,CK v,_,_,rfl,rfl,(by show 2<=sizeLine;decide),λq nq=>?_⟩;rw[qu v2];have sq:=aj (o:=.tup (pV (bL v))) nq;obtain⟨G7,a',n1,n2,n3⟩:=B.val (bL v) (R.iO hv);obtain rfl:G7=v':=uq R.nd _ _ _ n1 ph.2;exact⟨d,_,rfl,(show c7 _ d (.ref q) (some (.ref a')) from n2▸c7.t (k:=kE (bL v)) (sq _ _ hd) ai),kk _ _ _ ph hv' sq (sq _ _ n3)⟩
section
variable {P:Program}{w:World}{K:PySem.W.Frag}{mg:Str->Option Value}{base:Heap}
def Aq:Sp:=λvs H Q _=>∃(t:Addr) (as:List Addr) (n:Nat) (rows:List (List En)),vs=[.ref t]/\H t=some (.lst (as.map V.ref))/\bC H as rows/\cW n rows/\rows.flatten.length<=60 /\
 ∀(l:Addr) (ts:List Addr) (fs:List (List En)) (H':Hp),H l=none->H' l=some (.lst (ts.map V.ref))->bC H' ts fs->av H H'->(n=0->fs=[[]])->(0<n->jo rows.flatten (Ph rows) fs)->Q (.ref l) H'
abbrev Qy:List Str:=["_law_turns_here","_law_after","_law_row","_law_k","_law_end","_law_found","_law_face","_law_here"]
theorem jO:aQ Qy ["_law_turns_here"] (ar tO):=⟨rfl,rfl,rfl,by decide +kernel,rfl,by decide +kernel,by decide +kernel⟩
theorem Ar{f:Addr}{fd:FuncData}(F:bx K "_law_faces" "_law_faces" tO f fd)(hE:mg "enumerate" = none)(hA:mg "any" = none)(T:cm mg):aG P w K mg base aS 1 f fd ["_law_turns_here"] Aq:=by
 refine F.ok jO (λvs H Q E h=>?_) (λcdv A outer s H vs Q E hr h=>?_)
 ·obtain⟨t,as,n,rows,rfl,_⟩:=h;rfl
 ·obtain⟨t,as,n,rows,rfl,ht,hR,R,aP,k⟩:=h;have hu:=fh hr;refine⟨_,ao (aR (i:=1) jO.nd rfl (Or.inl rfl) kM)
   (ao (cH aaa rfl (bo (pv 0)) (aE (i:=2) jO.nd rfl (Or.inl rfl))
    (au (cH aaa rfl (qX rfl hE (aa (pv 2) af)) (cU rfl (aU (aE (i:=3) jO.nd rfl (Or.inl rfl)) (aU (aE (i:=4) jO.nd rfl (Or.inr rfl)) cv)))
     (au (m5 hu (pv 1) (pv 4) (bX cJ (pv 2) (bc jR (bc c6 (pv 3) aD) (aA aN (by rfl) T.len ZW (aa (pv 2) af))) (λ_ _=>rfl)) rfl)))))
   (ao (aR (i:=5) jO.nd rfl (Or.inl rfl) (bV af))
   (ao (cH aaa rfl (bo (aA (kl rfl) (by rfl) T.sorted abN (aa (pv 1) af))) (aE (i:=4) jO.nd rfl (Or.inr rfl))
    (au (bQ (cq (di (aA (D9 rfl) (by rfl) hA boot_any (aa
      (dw ["_law_face"] [4] rfl (bA (osc:=(ar tO).names) (N:=Qy) rfl rfl (by decide +kernel)) (bP (by decide)) (bo (pv 5)) (λ_ _ _=>aE (i:=0) (show(["_law_face","_law_end"]:List Str).Nodup by decide +kernel) rfl (Or.inl rfl)) (λ_ _ _=>bp)
       (λ_ _ _=>jS (r:=EZ K false) (Cy hu) (pv 1) (pv 0) rfl)) af)) (λ_=>rfl)))
     (ao (aR (i:=6) jO.nd rfl (Or.inl rfl) (bV (aa (pv 4) af)))
     (ao (aR (i:=7) jO.nd rfl (Or.inl rfl) (gO hu (pv 1) (bE (aa (bX gx (pv 4) aD (λ_ _=>rfl)) (aa (bc hJ aD (bX gx (pv 4) aD (λ_ _=>rfl))) af))) (λ_ _=>rfl)))
     (ao (om aaa (aZ (kX hu) (pv 7) (pv 4) (bz _))
      (ao (bw (cP ZS aah aai cA (pv 6) (aa (pv 7) af)))
      (au (aR (i:=7) jO.nd rfl (Or.inl rfl) (gO hu (pv 1) (bE (aa (bX gx (pv 7) aD (λ_ _=>rfl)) (aa (bc hJ aD (bX gx (pv 7) aD (λ_ _=>rfl))) af))) (λ_ _=>rfl))))))
     (au (bw (cP ZS aah aai cA (pv 5) (aa (pv 6) af))))))) bu)))
   (au (aT (kG (aZ (sP (low 0 hr)) (pv 5) (bV af) (bz _)) (pv 5) (bV (aa (bV af) af)))))))),?_⟩
  try rw[ck]
  intro d nY;have s1:=aj (o:=.dT []) nY;have g1:=ai (H:=H) (a:=d) (o:=.dT []);generalize upd H d (.dT [])=H1 at s1 g1⊢;refine⟨_,rfl,t,rfl,⟨_,aq.of (s1 _ _ ht)⟩,?_⟩;have lr:as.length=rows.length:=ZG hR;refine dk (K:=K) (xs:=as.map V.ref) (λi σ H2=>∃(v2 v3 v4 v5 v6 v7:Option V) (kvs:List (List Key×V)),σ=[some (.ref t),some (.ref d),v2,v3,v4,v5,v6,v7]/\av H H2/\H2 d=some (.dT kvs)/\Bh H2 kvs rows (rows.take i).flatten) ⟨_,_,_,_,_,_,[],rfl,s1,g1,rfl,λe he=>by simp at he⟩ ?_ ?_ ?_
  ·rintro i σ H2 _ ⟨v2,v3,v4,v5,v6,v7,kvs,rfl,s2,_⟩;exact aq.of (s2 _ _ ht)
  ·rintro i y σ H2 hy ⟨v2,v3,v4,v5,v6,v7,kvs,rfl,s2,g2,B⟩;rw[Zo] at hy;obtain⟨a,ea,rfl⟩:=Zp.mp hy;obtain⟨r,us,er,ha,hp⟩:=hR.get ea;have Vz:r∈rows:=Zr er;have tk:(rows.take (i+1)).flatten=(rows.take i).flatten++r:=by rw[ZO,er];simp
   have pre:((rows.take i).flatten++r).Nodup:=by rw[<-tk];have nd:=R.nd;rw[eJ rows (i+1)] at nd;exact(ZP.mp nd).1
   have lu:us.length=r.length:=hp.len;have wy:((rows.take i).flatten++r).length<=60:=by rw[<-tk];rw[eJ rows (i+1),ZA] at aP;omega
   rw[ZA] at wy;refine⟨_,rfl,a,rfl,⟨_,aq.of (s2 _ _ ha)⟩,?_⟩;refine Ep (K:=K) (xs:=us.map V.ref) (λj σ H4=>∃(v3 v4 v5 v6 v7:Option V) (kvs4:List (List Key×V)),σ=[some (.ref t),some (.ref d),some (.ref a),v3,v4,v5,v6,v7]/\av H H4/\H4 d=some (.dT kvs4)/\Bh H4 kvs4 rows ((rows.take i).flatten++r.take j)) ⟨_,_,_,_,_,kvs,rfl,s2,g2,by simpa using B⟩ ?_ ?_ ?_
   ·rintro j σ H4 _ ⟨v3,v4,v5,v6,v7,kvs4,rfl,s4,_⟩;exact aq.of (s4 _ _ ha)
   ·rintro j x σ H4 q4 hx ⟨v3,v4,v5,v6,v7,kvs4,rfl,s4,h4,B4⟩ nZ;rw[Zo] at hx;obtain⟨ax,ex,rfl⟩:=Zp.mp hx;have lO:=hp.same s4;obtain⟨e,lP,CH⟩:=lO.get ex;obtain⟨vv,LS,cy⟩:=Fb lP;have Yp:=(Zq.mp lP).1;have jm:(j+1) % us.length<us.length:=acf _ (by omega);obtain⟨Yq,Qz,G6⟩:=lO.get (Zk jm);rw[lu,LS] at Qz;cases Qz;generalize VA:us[(j+1) % us.length]=ay at G6;have at_:iV (us.map V.ref) ((((j+1) % us.length:Nat)):Int)=some (.ref ay):=cw (by rw[Zo,Zk jm,VA];rfl);have em:((j:Int)+1) % ((us.map V.ref).length:Int)=((((j+1) % us.length:Nat)):Int):=by rw[Zj];exact(Int.natCast_emod (j+1) us.length).symm
    have sq:=aj (o:=.tup [.int j,.ref ax]) nZ;have gq:=ai (H:=H4) (a:=q4) (o:=.tup [.int j,.ref ax]);generalize upd H4 q4 (.tup [.int j,.ref ax])=H5 at sq gq⊢;have QA:=sq _ _ (s4 _ _ ha);have CI:r.take (j+1)=r.take j++[e]:=by rw[ZO,lP];rfl
    have ix:e∉(rows.take i).flatten++r.take j:=λhm=>by
     have e1:(rows.take i).flatten++r=((rows.take i).flatten++r.take j)++(e::r.drop (j+1)):=by rw[ZV];congr 1;obtain⟨hj,e2⟩:=Zq.mp lP;rw[<-e2,aaD hj,aap]
     rw[e1] at pre;exact(ZP.mp pre).2.2 e hm e (by simp) rfl
    have B5:Bh H5 kvs4 rows ((rows.take i).flatten++r.take j):=B4.same λt xs e=>sq _ _ e;refine⟨q4,_,rfl,aO.of gq,rfl,_,_,rfl,_,_,rfl,rfl,?_⟩;refine⟨_,rfl,_,rfl,_,_,rfl,rfl,_,rfl,a,_,rfl,.inl (aq.of QA),_,_,rfl,rfl,by rw[Zj];omega,a,_,_,.ref ay,rfl,rfl,aq.of QA,by rw[em];exact at_,_,rfl,_,rfl,d,_,rfl,jI.t (k:=kE e) (sq _ _ h4) (sq _ _ CH) (Z2 (show kvs4.length<=60 by rw[B5.len,ZA,ZK];omega) (by decide)),?_⟩;have B6:=B5.put (a:=ay) ix ⟨r,Vz,cy⟩ (sq _ _ G6);have kt:∀t xs,H5 t=some (.tup xs)->(upd H5 d (.dT (putK kvs4 (kE e) (.ref ay)))) t=some (.tup xs):=λt xs e=>by rw[ak (cg e (sq _ _ h4) λz=>nomatch z)];exact e
    refine⟨_,_,_,_,_,_,rfl,av.bS (s4.trans sq) nY,ai,?_⟩;rw[CI,<-ZV];exact B6.same kt
   ·rintro σ H4 ⟨v3,v4,v5,v6,v7,kvs4,rfl,s4,h4,B4⟩;rw[Zj,lu,Z6,<-tk] at B4;exact⟨_,_,_,_,_,_,_,rfl,s4,h4,B4⟩
  ·rintro σ H2 ⟨v2,v3,v4,v5,v6,v7,kvs,rfl,s2,g2,B⟩;rw[Zj,lr,Z6] at B;clear s1 g1 H1;refine⟨ZE _,λl nl=>?_⟩;have s3:=aj (o:=.lst []) nl;have gl:=ai (H:=H2) (a:=l) (o:=.lst []);generalize upd H2 l (.lst [])=H3 at s3 gl⊢;refine⟨_,rfl,d,kvs,rows.flatten,rfl,s3 _ _ g2,B.keys,by omega,λls vs rs tN hp pm pw=>?_⟩;have s4:=aj (o:=.lst (vs.map V.ref)) tN;have wC:=ai (H:=H3) (a:=ls) (o:=.lst (vs.map V.ref));generalize upd H3 ls (.lst (vs.map V.ref))=H4 at s4 wC⊢;have s24:=s3.trans s4;have CO:H l=none:=s2.free nl;have w:=qx R pm pw;have wD:∀e∈rows.flatten,e∈rs:=λe he=>pm.mem_iff.mpr he;have Sw:ls≠l:=λz=>by rw[z,gl] at tN;cases tN
   refine⟨ls,rfl,⟨_,aq.of wC⟩,?_⟩;refine dk (K:=K) (xs:=vs.map V.ref) (λi σ H5=>∃(v2 v3 v4 v6 v7:Option V) (ts:List Addr) (fs:List (List En)),σ=[some (.ref t),some (.ref d),v2,v3,v4,some (.ref l),v6,v7]/\av H H5/\H5 d=some (.dT kvs)/\aI H5 vs rs/\H5 ls=some (.lst (vs.map V.ref))/\H5 l=some (.lst (ts.map V.ref))/\bC H5 ts fs/\(∀x∈ts,x≠l)/\Bh H5 kvs rows rows.flatten/\mR rows.flatten (Ph rows) (rs.take i) fs)
    ⟨_,_,_,_,_,[],[],rfl,s2.trans s24,s24 _ _ g2,hp.same s4,wC,s4 _ _ gl,.nil,λ_ h=>(nomatch h),B.same λt xs e=>s24 _ _ e,yy⟩ ?_ ?_ ?_
   ·rintro i σ H5 _ ⟨v2,v3,v4,v6,v7,ts,fs,rfl,_,_,_,g,_⟩;exact aq.of g
   ·rintro i y σ H5 hy ⟨v2,v3,v4,v6,v7,ts,fs,rfl,s5,lQ,hp5,oW,kq,hts5,As,B5,P5⟩;rw[Zo] at hy;obtain⟨a,ea,rfl⟩:=Zp.mp hy;obtain⟨e,ee,ha⟩:=hp5.get ea;obtain⟨tk,lt,al⟩:=wA w wD ee;have eS:e∈rows.flatten:=pm.mem_iff.mp (Zr ee);have e2:e.2<2:=((R.mem e).mp eS).2;have qz:ts.length=fs.length:=ZG hts5;have yI:fs.flatten.length<=60:=Zu (kh P5.nd P5.sub) aP;have Vr:=jq P5.ne;refine⟨_,rfl,l,rfl,⟨_,aq.of kq⟩,?_⟩;refine cQ (K:=K) (xs:=ts.map V.ref) (λj ys H6=>H6=H5/\ys=((fs.take j).map λf=>decide (e∈f)).map V.bl) ⟨rfl,rfl⟩ ?_ ?_ ?_ ?_
    ·rintro j ys H6 _ ⟨_,rfl⟩;rw[Zj,Zj,ZK];exact Zu (show _<=60 by omega) (by decide)
    ·rintro j ys H6 _ ⟨rfl,_⟩;exact aq.of kq
    ·rintro j x ys H6 RR hx ⟨rfl,rfl⟩ kR;rw[Zo] at hx;obtain⟨b,eb,rfl⟩:=Zp.mp hx;obtain⟨fj,us,ef,hb,Hb⟩:=hts5.get eb;simp only[cD,bj,Z7];refine⟨_,rfl,_,rfl,Cz ha (aq.of hb) Hb (kR _ _ ⟨rfl,?_⟩)⟩;rw[ZO,ef];simp
    ·rintro ys H6 ⟨rfl,rfl⟩ D nD;rw[Zj,qz,Z6];have sD:=aj (o:=.lst ((fs.map λf=>decide (e∈f)).map V.bl)) nD;have gD:=ai (H:=H6) (a:=D) (o:=.lst ((fs.map λf=>decide (e∈f)).map V.bl));generalize upd H6 D (.lst ((fs.map λf=>decide (e∈f)).map V.bl))=H7 at sD gD⊢;refine⟨D,_,rfl,aq.of gD,_,rfl,?_⟩;have VB:(fs.map λf=>decide (e∈f)).any id=decide (e∈fs.flatten):=by
      rw[aat,aa8,ZY,ZL];constructor
      ·rintro⟨b,hb,h⟩;obtain⟨g,hg,rfl⟩:=ZD.mp hb;exact⟨g,hg,of_decide_eq_true h⟩
      ·rintro⟨g,hg,h⟩;exact⟨_,ZD.mpr ⟨g,hg,rfl⟩,decide_eq_true h⟩
     rw[VB];have s7:=s5.trans sD;have VC:=sD _ _ ha;by_cases c:e∈fs.flatten
     ·rw[decide_eq_true c];refine br ⟨_,_,_,_,_,ts,fs,rfl,s7,sD _ _ lQ,hp5.same sD,sD _ _ oW,sD _ _ kq,hts5.same sD,As,B5.same λt xs e=>sD _ _ e,?_⟩;rw[tk];exact P5.skip c
     ·rw[decide_eq_false c];refine b6 ⟨_,rfl,(by show 1<=sizeLine;decide),λfa QB=>?_⟩;have sf:=aj (o:=.lst [.ref a]) QB;have gf:=ai (H:=H7) (a:=fa) (o:=.lst [.ref a]);generalize upd H7 fa (.lst [.ref a])=H8 at sf gf⊢;have s68:=sD.trans sf;have Fd:H6 fa=none:=sD.free QB;have VD:=sf _ _ VC;refine wG (m:=1) (n:=4) rfl rfl (s68 _ _ lQ) (B5.same λt xs e=>s68 _ _ e) R eS VD λv1 a1 H9 VE VF s9 VG=>?_;have s69:=s68.trans s9;refine⟨λm σ HH=>∃(us:List Addr) (f:List En) (ah:Addr) (v:En),σ=[some (.ref t),some (.ref d),v2,v3,some (.ref a),some (.ref l),some (.ref fa),some (.ref ah)]/\av H6 HH/\HH fa=some (.lst (us.map V.ref))/\aI HH us f/\HH ah=some (.tup (pV v))/\v∈rows.flatten/\Wk rows.flatten (Ph rows) e f v/\m=rows.flatten.length-f.length,
       ⟨_,[a],[e],a1,v1,rfl,s69,s9 _ _ gf,.cons (s69 _ _ ha) .nil,VG,VF,Ci eS VE,rfl⟩,?_⟩
      rintro m σ HH ⟨us,f,ah,v,rfl,sh,Hc,hpf,hah,hv,W,rfl⟩;have lf:us.length=f.length:=hpf.len;have lW:=W.len;have qA:=sh _ _ kq;have CP:fa≠l:=λz=>by rw[z,kq] at Fd;cases Fd
      refine⟨_,rfl,_,rfl,wq hah (sh _ _ ha) ⟨_,rfl,?_⟩⟩;by_cases ve:v=e
      ·rw[decide_eq_true ve];subst ve;have Pn:=P5.add (qm R.nd) c W.hd W.nd W.sub W.eF lt al;refine br ⟨_,rfl,.inl ⟨rfl,_,aq.of qA⟩,_,rfl,l,_,_,rfl,rfl,qA,Z2 (show _<=60 by rw[Zj];omega) (by decide),?_⟩;have kt:∀t xs,HH t=some (.tup xs)->(upd HH l (.lst (ts.map V.ref++[V.ref fa]))) t=some (.tup xs):=λt xs e=>by rw[ak (cg e qA λz=>nomatch z)];exact e
       have ol:∀c o,HH c=some o->c≠l->(upd HH l (.lst (ts.map V.ref++[V.ref fa]))) c=some o:=λc o e n=>by rw[ak n];exact e
       have lR:bC (upd HH l (.lst (ts.map V.ref++[V.ref fa]))) ts fs:=kr (hts5.same sh) As kt ol;refine⟨_,_,_,_,_,ts++[fa],fs++[f],rfl,av.bS (s5.trans sh) CO,ol _ _ (sh _ _ lQ) (cg (sh _ _ lQ) qA λz=>nomatch z),(hp5.same sh).mono kt,ol _ _ (sh _ _ oW) Sw,by rw[ai,ZU];rfl,lR.snoc ⟨us,ol _ _ Hc CP,hpf.mono kt⟩,λx hx=>?_,(B5.same λt xs e=>sh _ _ e).same kt,?_⟩
       ·rcases Zv.mp hx with hx|hx
        ·exact As x hx
        ·obtain rfl:x=fa:=by simpa using hx
         exact CP
       ·rw[tk];exact Pn
      ·rw[decide_eq_false ve];obtain⟨v',ph,hv'⟩:=R.ph hv;have nw:=W.more (Cj R.nd) ve hv ph;have ln:=nw.len;rw[ZA,aaH] at ln;refine b6 ⟨_,λσ' H' h=>h,?_⟩;refine⟨_,rfl,.inl ⟨rfl,_,aq.of Hc⟩,_,rfl,fa,_,_,rfl,rfl,Hc,Z2 (show _<=60 by rw[Zj];omega) (by decide),?_⟩;have kt:∀t xs,HH t=some (.tup xs)->(upd HH fa (.lst (us.map V.ref++[V.ref ah]))) t=some (.tup xs):=λt xs e=>by rw[ak (cg e Hc λz=>nomatch z)];exact e
       have sn:av H6 (upd HH fa (.lst (us.map V.ref++[V.ref ah]))):=av.bS sh Fd;have gn:(upd HH fa (.lst (us.map V.ref++[V.ref ah]))) fa=some (.lst ((us++[ah]).map V.ref)):=by rw[ai,ZU];rfl
       have Fe:=kt _ _ hah;have QC:aI (upd HH fa (.lst (us.map V.ref++[V.ref ah]))) (us++[ah]) (f++[v]):=(hpf.mono kt).snoc Fe;generalize upd HH fa (.lst (us.map V.ref++[V.ref ah]))=HI at sn gn Fe QC⊢;refine wG (m:=1) (n:=7) rfl rfl (sn _ _ lQ) (B5.same λt xs e=>sn _ _ e) R hv Fe λv9 a9 HJ VH VI Me VJ=>?_;obtain rfl:v9=v':=qm R.nd _ _ _ VH ph;exact⟨rows.flatten.length-(f.length+1),by omega,us++[ah],f++[v],a9,v9,rfl,sn.trans Me,Me _ _ gn,QC.same Me,VJ,VI,nw,by rw[ZA];rfl⟩
   ·rintro σ H5 ⟨v2,v3,v4,v6,v7,ts,fs,rfl,s5,lQ,hp5,oW,kq,hts5,As,B5,P5⟩;have lv:vs.length=rs.length:=hp5.len;rw[Zj,lv,Z6] at P5;have Fc:=P5.fin wD;have qz:ts.length=fs.length:=ZG hts5;refine⟨_,rfl,ZE _,λz0 CT=>?_⟩;have sz:=aj (o:=.lst []) CT;have gz:=ai (H:=H5) (a:=z0) (o:=.lst []);generalize upd H5 z0 (.lst [])=H6 at sz gz⊢;refine⟨l,z0,_,rfl,rfl,aq.of (sz _ _ kq),aq.of gz,_,rfl,?_⟩;rw[if_pos rfl];by_cases c:n=0
    ·have fe:fs=[]:=by
      cases fs with
      |nil=>rfl
      |cons g fs=>
       obtain⟨a,_,ga⟩:=kj (Fc.dec.ne g (by simp))
       have:=((R.mem a).mp ((Fc.dec.mem a).mp (ZL.mpr ⟨g,by simp,ga⟩))).1
       omega
     subst fe;obtain rfl:ts=[]:=Z4.mp qz;refine br ⟨ZE _,λq nq=>⟨(by show 1<=sizeLine;decide),λl2 yK=>?_⟩⟩;have sq:=aj (o:=.lst []) nq;have sl:=aj (o:=.lst [.ref q]) yK;exact k l2 [q] [[]] _ (s5.free (sz.free (sq.free yK))) ai (.cons ⟨[],sl _ _ ai,.nil⟩ .nil) (s5.trans (sz.trans (sq.trans sl))) (λ_=>rfl) λz=>absurd z (by omega)
    ·have ne:decide (ts.map V.ref=[])=false:=by
      rw[aaB];intro z;have z2:ts=[]:=by cases ts with|nil=>rfl|cons _ _=>simp at z
      rw[z2] at qz;obtain rfl:fs=[]:=Z4.mp qz.symm
      have:((0,0):En)∈([]:List (List En)).flatten:=(Fc.dec.mem _).mpr ((R.mem _).mpr ⟨by show 0<n;omega,by decide⟩)
      simp at this
     rw[ne];exact b6 ⟨_,rfl,k l ts fs H6 CO (sz _ _ kq) (hts5.same sz) (s5.trans sz) (λz=>absurd z c) λ_=>Fc⟩
end
abbrev yL:Stmt:=top 43 -- NK
def bO(as:List Addr)(H H':Hp):Prop:=∀c o,H c=some o->c∉as->H' c=some o
theorem bO.refl:bO as H H:=λ_ _ e _=>e
theorem bO.trans(a:bO as H H1)(b:bO as H1 H2):bO as H H2:=λc o e n=>b c o (a c o e n) n
theorem bC.qB:∀{as:List Addr} {rows:List (List En)},bC H as rows->∀{t:Addr} {xs:List V},H t=some (.tup xs)->t∉as
 |_,_,.nil,_,_,_=>λh=>nomatch h
 |_,_,.cons ⟨us,e,p⟩ r,t,xs,ht=>λh=>by
  rcases Zs.mp h with z|z
  ·rw[z,e] at ht;cases ht
  ·exact bC.qB r ht z
theorem bC.set:∀{as:List Addr} {rows:List (List En)} {i:Nat} {a:Addr} {us:List Addr} {r':List En},bC H as rows->as.Nodup->as[i]?=some a->(∀t xs,H t=some (.tup xs)->t≠a)->aI H us r'->bC (upd H a (.lst (us.map V.ref))) as (rows.set i r')
 |_,_,0,a,us,r',.cons _ t,nd,e,k,p=>by
  cases e;have kt:∀t xs,H t=some (.tup xs)->(upd H a (.lst (us.map V.ref))) t=some (.tup xs):=λt xs e=>by rw[ak (k t xs e)];exact e
  refine .cons ⟨us,ai,p.mono kt⟩ (kr (l:=a) t (λx hx z=>(ZT.mp nd).1 (z▸hx)) kt λc o e n=>by rw[ak n];exact e)
 |b::as,r::rows,i+1,a,us,r',.cons ⟨ws,e',p'⟩ t,nd,e,k,p=>by
  have kt:∀t xs,H t=some (.tup xs)->(upd H a (.lst (us.map V.ref))) t=some (.tup xs):=λt xs e=>by rw[ak (k t xs e)];exact e
  have e2:as[i]?=some a:=by simpa using e
  have ne:b≠a:=λz=>(ZT.mp nd).1 (z▸Zr e2);exact .cons ⟨ws,by rw[ak ne];exact e',p'.mono kt⟩ (bC.set t (ZT.mp nd).2 e2 k p)
theorem Jf{β:Type}(g:β->β){rows:List β}{r:β}(h:rows[i]?=some r):((rows.take i).map g++rows.drop i)[i]?=some r/\((rows.take i).map g++rows.drop i).set i (g r)=(rows.take (i+1)).map g++rows.drop (i+1):=by
 obtain⟨hi,e⟩:=Zq.mp h;have l:((rows.take i).map g).length=i:=by rw[Zj,ZK];omega
 have d:rows.drop i=r::rows.drop (i+1):=by rw[<-e,aaD hi]
 constructor
 ·rw[aal (by rw[l];exact Zn _),l,ace,d];rfl
 ·rw[d,List.set_append_right _ _ (by rw[l];exact Zn _),l,ace,List.set_cons_zero,ZO,h,ZU,ZV];rfl
section
variable {P:Program}{w:World}{K:PySem.W.Frag}{mg:Str->Option Value}{base:Heap}
def Ff:Sp:=λvs H Q _=>∃(t ae an:Addr) (as:List Addr) (rows:List (List En)) (x e:En),vs=[.ref t,.ref ae,.ref an]/\H t=some (.lst (as.map V.ref))/\t∉as/\as.Nodup/\bC H as rows/\H ae=some (.tup (pV x))/\H an=some (.tup (pV e))/\(∀r∈rows,r.length<=60) /\
 ∀H',bC H' as (rows.map (cE x e))->bO as H H'->Q .a8 H'
abbrev VL:List Str:=["_law_turns_here","_law_end","_law_new","_law_row"]
theorem Mf:aQ VL ["_law_turns_here","_law_end","_law_new"] (ar yL):=⟨rfl,rfl,rfl,by decide +kernel,rfl,by decide +kernel,by decide +kernel⟩
theorem OC(F:bx K "_law_put_in" "_law_put_in" yL f fd):aG P w K mg base aS 1 f fd ["_law_turns_here","_law_end","_law_new"] Ff:=by
 refine F.ok Mf (λvs H Q E h=>?_) (λcdv A outer s H vs Q E hr h=>?_)
 ·obtain⟨t,ae,an,as,rows,x,e,rfl,_⟩:=h;rfl
 ·obtain⟨t,ae,an,as,rows,x,e,rfl,ht,nt,nd,hR,CM,QD,aP,k⟩:=h;have hu:=fh hr;refine⟨_,au (cH aaa rfl (bo (pv 0)) (aE (i:=3) Mf.nd rfl (Or.inl rfl))
   (au (bQ (aZ (Cy hu) (pv 1) (pv 3) rfl)
    (au (bw (cP ZS adG adH tG (pv 3) (aa (bc c6 (cP ZS abD ack (mT (low 1 hr)) (pv 3) (aa (pv 1) af)) aD) (aa (pv 2) af))))) bu))),?_⟩
  try rw[ck]
  refine⟨_,rfl,t,rfl,⟨_,aq.of ht⟩,?_⟩;have lr:as.length=rows.length:=ZG hR;have VM:=hR.qB CM;have nan:=hR.qB QD;refine dk (K:=K) (xs:=as.map V.ref) (λi σ H2=>∃v3:Option V,σ=[some (.ref t),some (.ref ae),some (.ref an),v3]/\bO as H H2/\bC H2 as ((rows.take i).map (cE x e)++rows.drop i)) ⟨_,rfl,.refl,by simpa using hR⟩ ?_ ?_ ?_
  ·rintro i σ H2 _ ⟨v3,rfl,o2,_⟩;exact aq.of (o2 _ _ ht nt)
  ·rintro i y σ H2 hy ⟨v3,rfl,o2,yM⟩;rw[Zo] at hy;obtain⟨a,ea,rfl⟩:=Zp.mp hy;obtain⟨r',us,er,ha,hp⟩:=yM.get ea;have hi:i<rows.length:=by have:=(Zq.mp ea).1;omega
   obtain⟨m1,m2⟩:=Jf (cE x e) (Zk hi);rw[m1] at er;cases er;have QE:rows[i]∈rows:=abl hi;have yI:=aP _ QE;generalize rows[i]=r at m1 m2 hp QE yI;have lu:us.length=r.length:=hp.len;have Mg:=o2 _ _ CM VM;have Sx:=o2 _ _ QD nan;refine⟨_,rfl,_,rfl,Cz Mg (aq.of ha) hp ⟨_,rfl,?_⟩⟩;by_cases c:x∈r
   ·rw[decide_eq_true c];have ix:r.idxOf x<r.length:=abi.mpr c;refine b6 ⟨_,rfl,.inl ⟨rfl,_,aq.of ha⟩,_,rfl,.inl ⟨rfl,_,aq.of ha⟩,_,rfl,a,ae,us,r,x,rfl,rfl,Mg,aq.of ha,hp,c,by omega,_,_,rfl,rfl,_,rfl,a,_,r.idxOf x+1,_,rfl,rfl,ha,by rw[Zj];omega,Z2 (show _<=60 by rw[Zj];omega) (by decide),?_⟩;have e1:(us.map V.ref).take (r.idxOf x+1)++V.ref an::(us.map V.ref).drop (r.idxOf x+1)=(us.take (r.idxOf x+1)++an::us.drop (r.idxOf x+1)).map V.ref:=by rw[ZU,ZI,adk,adi]
    rw[e1];have p3:aI H2 (us.take (r.idxOf x+1)++an::us.drop (r.idxOf x+1)) (cE x e r):=by unfold cE;rw[if_pos c];exact gV (fQ _ hp) (.cons Sx (fK _ hp))
    have:=yM.set nd ea (λt xs i5 z=>by rw[z,ha] at i5;cases i5) p3
    rw[m2] at this;refine⟨_,rfl,λc' o e' n'=>?_,this⟩;rw[ak (λ(z:c'=a)=>n' (z▸Zr ea))];exact o2 _ _ e' n'
   ·rw[decide_eq_false c];have e0:cE x e r=r:=yu c;refine br ⟨_,rfl,o2,?_⟩;rw[<-m2,e0]
    have:((rows.take i).map (cE x e)++rows.drop i).set i r=(rows.take i).map (cE x e)++rows.drop i:=by
     refine aaU λj=>?_;rw[adn];split
     ·rename_i z
      subst z;rw[m1];split
      ·rfl
      ·rename_i h;exact absurd ((Zq.mp m1).1) h
     ·rfl
    rw[this];exact yM
  ·rintro σ H2 ⟨v3,rfl,o2,yM⟩;rw[Zj,lr,Z6,List.drop_length,aaK] at yM;exact k H2 yM o2
end
abbrev CV:Stmt:=top 44 -- QF
theorem cW.le(R:cW n rows):rows.flatten.length<=2*n:=by
 have h:=kh (m:=(List.range n).flatMap λk=>[(k,0),(k,1)]) R.nd λe he=>by
  obtain⟨h1,h2⟩:=(R.mem e).mp he;obtain⟨k,s⟩:=e;refine acH.mpr ⟨k,aau.mpr h1,?_⟩
  have:s=0\/s=1:=by have:s<2:=h2;omega
  rcases this with rfl|rfl<;>simp
 have l:∀(ks:List Nat),(ks.flatMap λk=>[((k,0):En),(k,1)]).length=2*ks.length:=by
  intro ks;induction ks with
  |nil=>rfl
  |cons k ks ih=>rw[adq,ZA,ih,Zz];simp;omega
 rw[l,aaG] at h;exact h
theorem cW.row(R:cW n rows)(h:r∈rows):r.length<=2*n:=by refine Zu ?_ R.le;obtain⟨A,B,rfl⟩:=aaq h;rw[aaF,aaf,ZA,ZA];omega
structure TS(H:Hp)(p t:Addr)(as:List Addr)(rows:List (List En))(n:Nat):Prop where
 eQ:Row H p
 ht:H t=some (.lst (as.map V.ref))
 rw:bC H as rows
 nd:as.Nodup
 nt:t∉as
 np:p∉as
 pt:p≠t
 fR:Flt n rows
theorem wH:∀{as:List Addr} {rows:List (List En)},bC H as rows->(∀x∈as,∀o,H x=some o->H' x=some o)->(∀t xs,H t=some (.tup xs)->H' t=some (.tup xs))->bC H' as rows
 |_,_,.nil,_,_=>.nil
 |_,_,.cons ⟨us,e,p⟩ t,k,kt=>.cons ⟨us,k _ (by simp) _ e,p.mono kt⟩ (wH t (λx hx=>k x (by simp[hx])) kt)
theorem TS.but(T:TS H p t as rows n)(r:Row H' p)(b:cC p H H'):TS H' p t as rows n:=
 ⟨r,b _ _ T.ht (Z0 T.pt),wH T.rw (λx hx o e=>b _ _ e λz=>T.np (z▸hx)) (λt xs e=>b _ _ e λz=>by obtain⟨a,b',e'⟩:=T.eQ;rw[z,e'] at e;cases e),T.nd,T.nt,T.np,T.pt,T.fR⟩
theorem TS.same(T:TS H p t as rows n)(s:av H H'):TS H' p t as rows n:=
 ⟨let ⟨a,b,e⟩:=T.eQ;⟨a,b,s _ _ e⟩,s _ _ T.ht,T.rw.same s,T.nd,T.nt,T.np,T.pt,T.fR⟩
theorem TS.len(T:TS H p t as rows n):as.length=rows.length:=ZG T.rw
def ir(H H':Hp):Prop:=∀c,H' c=none->H c=none
theorem ir.trans(a:ir H H1)(b:ir H1 H2):ir H H2:=λc e=>a c (b c e)
theorem ir.but(r:Row H' p)(b:cC p H H'):ir H H':=λc e=>by
 cases q:H c with
 |none=>rfl
 |some o=>
  by_cases z:c=p
  ·obtain⟨x1,x2,e'⟩:=r;rw[z,e'] at e;cases e
  ·rw[b _ _ q z] at e;cases e
theorem ir.upd(H:Hp)(a:Addr)(o:HO):ir H (L2.upd H a o):=λc e=>by
 by_cases z:c=a
 ·rw[z,ai] at e;cases e
 ·rw[ak z] at e;exact e
section
variable {P:Program}{w:World}{K:PySem.W.Frag}{mg:Str->Option Value}{base:Heap}
def Mi:Sp:=λvs H Q _=>∃(p t:Addr) (n:Nat) (as:List Addr) (rows:List (List En)),vs=[.ref p,.ref t,.int (n:Nat)]/\TS H p t as rows n/\n<=29/\rows≠[]/\rows.length<=100/\∀H' x aV,H x=none->TS H' p t (as++[x]) aV (n+1)->aV.length=rows.length+1->bO (p::t::as) H H'->Q .a8 H'
abbrev VN:List Str:=["_law_pot_here","_law_turns_here","_law_k","_law_row","_law_side"]
theorem Fg:aQ VN ["_law_pot_here","_law_turns_here","_law_k"] (ar CV):=⟨rfl,rfl,rfl,by decide +kernel,rfl,by decide +kernel,by decide +kernel⟩
theorem OD(F:bx K "_law_hung" "_law_hung" CV f fd)(DD:Df K mg "_law_take" iG ["_law_pot_here","_law_many"] fD tj)(T:cm mg):aG P w K mg base aS 2 f fd ["_law_pot_here","_law_turns_here","_law_k"] Mi:=by
 have GD:aG P w K mg base aS 1 fD tj ["_law_pot_here","_law_many"] j0:=j6 DD.fn T;refine F.ok Fg (λvs H Q E h=>?_) (λcdv A outer s H vs Q E hr h=>?_)
 ·obtain⟨p,t,n,as,rows,rfl,_⟩:=h;rfl
 ·obtain⟨p,t,n,as,rows,rfl,S,VO,vX,lr,k⟩:=h;refine⟨_,ao (aR (i:=3) Fg.nd rfl (Or.inl rfl) (bX cJ (pv 1) (aJ GD hr rfl DD.bK DD.fn.kp DD.b .nil aK (aa (pv 0) (aa (aA aN (by rfl) T.len ZW (aa (pv 1) af)) af))) (λ_ _=>rfl)))
   (ao (aR (i:=4) Fg.nd rfl (Or.inl rfl) (aJ GD hr rfl DD.bK DD.fn.kp DD.b .nil aK (aa (pv 0) (aa aD af))))
   (ao (bw (cP ZS adG adH tG (pv 3) (aa (aJ GD hr rfl DD.bK DD.fn.kp DD.b .nil aK (aa (pv 0) (aa (bc c6 (aA aN (by rfl) T.len ZW (aa (pv 3) af)) aD) af))) (aa (bE (aa (pv 2) (aa (pv 4) af))) af))))
   (au (bw (cP ZS aah aai cA (pv 1) (aa (bV (aa (bE (aa (pv 2) (aa (bc hJ aD (pv 4)) af))) af)) af)))))),?_⟩
  try rw[ck]
  have la:=S.len;have pos:0<rows.length:=abC.mpr vX;refine⟨_,rfl,_,rfl,_,rfl,t,_,rfl,.inl (aq.of S.ht),p,_,rfl,S.eQ,by rw[Zj];omega,by rw[Zj];omega,λd1 H1 GJ GQ r1 b1=>?_⟩;have S1:=S.but r1 b1;obtain⟨i,rfl⟩:=aas GJ;rw[Zj] at GQ;have hi:i<as.length:=by omega
  have He:as[i]?=some as[i]:=Zk hi;obtain⟨r,us,er,ha,hp⟩:=S1.rw.get He;have rl:=S.fR.bW.row (Zr er);have am:as[i]∈as:=abl hi;generalize as[i]=a at He ha am;have lu:us.length=r.length:=hp.len;refine⟨t,_,_,.ref a,rfl,rfl,aq.of S1.ht,cw (by rw[Zo,He];rfl),?_⟩;refine⟨_,rfl,p,2,rfl,S1.eQ,by decide,by decide,λd2 H2 yr GR r2 b2=>?_⟩;have S2:=S1.but r2 b2;have Mj:a≠p:=λz=>S.np (z▸am);have ym:=b2 _ _ ha Mj;have Ml:∀t xs,H1 t=some (.tup xs)->H2 t=some (.tup xs):=λt xs e=>b2 _ _ e λz=>by obtain⟨x1,x2,e'⟩:=r1;rw[z,e'] at e;cases e
  have hp2:=hp.mono Ml;obtain⟨sd,rfl⟩:=aas yr;have wI:sd<2:=by omega
  refine⟨_,rfl,.inl ⟨rfl,_,aq.of ym⟩,_,rfl,_,rfl,a,_,rfl,.inl (aq.of ym),_,_,rfl,rfl,p,_,rfl,S2.eQ,by rw[Zj];omega,by rw[Zj];omega,λd3 H3 Mm Mo r3 b3=>?_⟩;have S3:=S2.but r3 b3;have VP:=b3 _ _ ym Mj;have VQ:∀t xs,H2 t=some (.tup xs)->H3 t=some (.tup xs):=λt xs e=>b3 _ _ e λz=>by obtain⟨x1,x2,e'⟩:=r2;rw[z,e'] at e;cases e
  have qk:=hp2.mono VQ;obtain⟨j,rfl⟩:=aas Mm;rw[Zj,lu] at Mo;have hj:j<=us.length:=by omega
  refine⟨_,rfl,_,rfl,(by show 2<=sizeLine;decide),λq nq=>?_⟩;have sq:=aj (o:=.tup [V.int (n:Nat),V.int (sd:Nat)]) nq;have gq:=ai (H:=H3) (a:=q) (o:=.tup [V.int (n:Nat),V.int (sd:Nat)]);have L4:ir H (upd H3 q (.tup [V.int (n:Nat),V.int (sd:Nat)])):=((ir.but r1 b1).trans ((ir.but r2 b2).trans (ir.but r3 b3))).trans (ir.upd _ _ _);have S4:=S3.same sq;have Mp:=sq _ _ VP;have lO:=qk.same sq;have o4:bO (p::t::as) H (upd H3 q (.tup [V.int (n:Nat),V.int (sd:Nat)])):=λc o e nc=>sq _ _ (b3 _ _ (b2 _ _ (b1 _ _ e λz=>nc (by simp[z])) λz=>nc (by simp[z])) λz=>nc (by simp[z]));generalize upd H3 q (.tup [V.int (n:Nat),V.int (sd:Nat)])=H4 at gq L4 S4 Mp lO o4⊢;refine⟨a,_,j,_,rfl,rfl,Mp,by rw[Zj];exact hj,Z2 (show _<=60 by rw[Zj];omega) (by decide),?_⟩;have e1:(us.map V.ref).take j++V.ref q::(us.map V.ref).drop j=(us.take j++q::us.drop j).map V.ref:=by rw[ZU,ZI,adk,adi]
  rw[e1];have p5:aI H4 (us.take j++q::us.drop j) (r.take j++(n,sd)::r.drop j):=gV (fQ _ lO) (.cons gq (fK _ lO));have nat:a≠t:=λz=>S.nt (z▸am);have R5:=S4.rw.set S4.nd He (λt xs i5 z=>by rw[z,Mp] at i5;cases i5) p5;have L5:=L4.trans (ir.upd H4 a (.lst ((us.take j++q::us.drop j).map V.ref)));have o5:bO (p::t::as) H (upd H4 a (.lst ((us.take j++q::us.drop j).map V.ref))):=λc o e nc=>by rw[ak (λ(z:c=a)=>nc (by simp[z,am]))];exact o4 _ _ e nc
  have Mq:(upd H4 a (.lst ((us.take j++q::us.drop j).map V.ref))) t=some (.lst (as.map V.ref)):=by rw[ak (Z0 nat)];exact S4.ht
  have r5:Row (upd H4 a (.lst ((us.take j++q::us.drop j).map V.ref))) p:=S4.eQ.ak (Z0 Mj);generalize upd H4 a (.lst ((us.take j++q::us.drop j).map V.ref))=H5 at R5 L5 o5 Mq r5⊢;refine⟨_,rfl,.inl ⟨rfl,_,aq.of Mq⟩,_,rfl,_,rfl,_,_,rfl,rfl,(by show 2<=sizeLine;decide),λq2 sZ=>?_⟩;have e2:[V.int (n:Nat),V.int (1-(sd:Int))]=pV (bL (n,sd)):=qu (e:=(n,sd)) wI;rw[e2];have s6:=aj (o:=.tup (pV (bL (n,sd)))) sZ;have g6:=ai (H:=H5) (a:=q2) (o:=.tup (pV (bL (n,sd))));have L6:=L5.trans (ir.upd H5 q2 (.tup (pV (bL (n,sd)))));generalize upd H5 q2 (.tup (pV (bL (n,sd))))=H6 at s6 g6 L6⊢;refine⟨(by show 1<=sizeLine;decide),λx nx=>?_⟩;have s7:=aj (o:=.lst [.ref q2]) nx;have g7:=ai (H:=H6) (a:=x) (o:=.lst [.ref q2]);have yN:=L6 _ nx;generalize upd H6 x (.lst [.ref q2])=H7 at s7 g7⊢;have s57:=s6.trans s7;have QG:=s57 _ _ Mq;refine⟨t,_,_,rfl,rfl,QG,Z2 (show _<=100 by rw[Zj];omega) (by decide),?_⟩;have wJ:x≠t:=λz=>by rw[z,S.ht] at yN;cases yN
  have VR:p≠x:=λz=>by obtain⟨x1,x2,e'⟩:=S.eQ;rw[<-z,e'] at yN;cases yN
  have nxa:x∉as:=λz=>by obtain⟨ii,VS,e⟩:=aak z;obtain⟨_,_,_,h,_⟩:=S.rw.get (i:=ii) (a:=x) (by rw[Zk VS,e]);rw[yN] at h;cases h
  have kt8:∀c xs,H7 c=some (.tup xs)->(upd H7 t (.lst (as.map V.ref++[V.ref x]))) c=some (.tup xs):=λc xs e=>by rw[ak (cg e QG λz=>nomatch z)];exact e
  have ol:∀c o,H7 c=some o->c≠t->(upd H7 t (.lst (as.map V.ref++[V.ref x]))) c=some o:=λc o e nn=>by rw[ak nn];exact e
  have R8:bC (upd H7 t (.lst (as.map V.ref++[V.ref x]))) as (rows.set i (r.take j++(n,sd)::r.drop j)):=kr (l:=t) (R5.same s57) (λy hy z=>S.nt (z▸hy)) kt8 ol;refine k _ x (rows.set i (r.take j++(n,sd)::r.drop j)++[[(n,1-sd)]]) yN ⟨?_,by rw[ai,ZU];rfl,R8.snoc ⟨[q2],ol _ _ g7 wJ,.cons (kt8 _ _ (s7 _ _ g6)) .nil⟩,?_,?_,?_,S.pt,ER S.fR er wI⟩ (by simp) λc o e nc=>?_
  ·obtain⟨x1,x2,e'⟩:=r5;exact⟨x1,x2,ol _ _ (s57 _ _ e') S.pt⟩
  ·rw[ZP];exact⟨S.nd,by simp,λy hy z hz e=>nxa (by obtain rfl:z=x:=(by simpa using hz);exact e▸hy)⟩
  ·intro z;rcases Zv.mp z with z|z
   ·exact S.nt z
   ·exact wJ (ZJ.mp z).symm
  ·intro z;rcases Zv.mp z with z|z
   ·exact S.np z
   ·exact VR (ZJ.mp z)
  ·exact ol _ _ (s57 _ _ (o5 _ _ e nc)) λz=>nc (by simp[z])
end
abbrev yO:Stmt:=top 45 -- NL
theorem bO.but(b:cC p H H'):bO (p::t::as) H H':=λc o e nc=>b c o e λz=>nc (by simp[z])
theorem bO.same(s:av H H'):bO xs H H':=λc o e _=>s c o e
theorem bO.as{H H':Hp}{p t:Addr}{as:List Addr}(b:bO as H H'):bO (p::t::as) H H':=λc o e nc=>b c o e λz=>nc (by simp[z])
theorem CW{H:Hp}{p b:Addr}{ws:List Addr}(r:Row H p)(h:H b=some (.lst (ws.map V.ref))):b≠p:=λz=>by
 obtain⟨x1,x2,e⟩:=r;rw[z,e] at h;cases ws with
 |nil=>simp at h
 |cons _ _=>simp at h
section
variable {P:Program}{w:World}{K:PySem.W.Frag}{mg:Str->Option Value}{base:Heap}
def Mr:Sp:=λvs H Q _=>∃(p t:Addr) (n:Nat) (as:List Addr) (rows:List (List En)),vs=[.ref p,.ref t,.int (n:Nat)]/\TS H p t as rows n/\n<=29/\rows≠[]/\rows.length<=100/\∀H' aV,TS H' p t as aV (n+1)->aV.length=rows.length->bO (p::t::as) H H'->Q .a8 H'
abbrev QH:List Str:=["_law_pot_here","_law_turns_here","_law_k","_law_faces_here","_law_corners","_law_side","_law_one","_law_other"]
theorem rC:aQ QH ["_law_pot_here","_law_turns_here","_law_k"] (ar yO):=⟨rfl,rfl,rfl,by decide +kernel,rfl,by decide +kernel,by decide +kernel⟩
theorem OE(F:bx K "_law_across" "_law_across" yO f fd)(DD:Df K mg "_law_take" iG ["_law_pot_here","_law_many"] fD tj)(DL:Df K mg "_law_faces" tO ["_law_turns_here"] fL kg)(DI:Df K mg "_law_put_in" yL ["_law_turns_here","_law_end","_law_new"] fI tP)(hE:mg "enumerate" = none)(hA:mg "any" = none)(T:cm mg):aG P w K mg base aS 2 f fd ["_law_pot_here","_law_turns_here","_law_k"] Mr:=by
 have GD:aG P w K mg base aS 1 fD tj ["_law_pot_here","_law_many"] j0:=j6 DD.fn T;have GL:aG P w K mg base aS 1 fL kg ["_law_turns_here"] Aq:=Ar DL.fn hE hA T;have GI:aG P w K mg base aS 1 fI tP ["_law_turns_here","_law_end","_law_new"] Ff:=OC DI.fn;refine F.ok rC (λvs H Q E h=>?_) (λcdv A outer s H vs Q E hr h=>?_)
 ·obtain⟨p,t,n,as,rows,rfl,_⟩:=h;rfl
 ·obtain⟨p,t,n,as,rows,rfl,S,VO,vX,lr,k⟩:=h;have hu:=fh hr;refine⟨_,ao (aR (i:=3) rC.nd rfl (Or.inl rfl) (aJ GL hr rfl DL.bK DL.fn.kp DL.b .nil aK (aa (pv 1) af)))
   (ao (gQ (i:=4) ["_law_number","_law_side"] [] rC.nd rfl rfl rfl (bA (osc:=(ar yO).names) (N:=QH) rfl rfl (by decide +kernel)) (gC (K:=K) (k:=2) (by decide) (by decide)) (bo (bX cJ (pv 3) (aJ GD hr rfl DD.bK DD.fn.kp DD.b .nil aK (aa (pv 0) (aa (aA aN (by rfl) T.len ZW (aa (pv 3) af)) af))) (λ_ _=>rfl)))
    (λ_ _ _=>cU rfl (aU (aE (i:=0) (show(["_law_number","_law_side"]:List Str).Nodup by decide +kernel) rfl (Or.inl rfl)) (aU (aE (i:=1) (show(["_law_number","_law_side"]:List Str).Nodup by decide +kernel) rfl (Or.inl rfl)) cv))) (λ_ _ _=>bp)
    (λ_ _ _=>bE (aa (pv 0) (aa (bc hJ aD (pv 1)) af))))
   (ao (aR (i:=5) rC.nd rfl (Or.inl rfl) (aJ GD hr rfl DD.bK DD.fn.kp DD.b .nil aK (aa (pv 0) (aa aD af))))
   (au (bQ (aZ (Bz (low 0 hr)) (pv 4) (bV af) (bz _))
    (au (bw (cP ZS PySem.F.slot_list_extend PySem.F.type_list_extend A8 (bX cJ (pv 1) aD (λ_ _=>rfl)) (aa (bV (aa (bE (aa (pv 2) (aa (pv 5) af))) (aa (bE (aa (pv 2) (aa (bc hJ aD (pv 5)) af))) af))) af))))
    (ao (aR (i:=6) rC.nd rfl (Or.inl rfl) (bX cJ (pv 4) (aJ GD hr rfl DD.bK DD.fn.kp DD.b .nil aK (aa (pv 0) (aa (aA aN (by rfl) T.len ZW (aa (pv 4) af)) af))) (λ_ _=>rfl)))
    (ao (aR (i:=7) rC.nd rfl (Or.inl rfl) (bX cJ (pv 4) (aJ GD hr rfl DD.bK DD.fn.kp DD.b .nil aK (aa (pv 0) (aa (aA aN (by rfl) T.len ZW (aa (pv 4) af)) af))) (λ_ _=>rfl)))
    (ao (bw (aJ GI hr rfl DI.bK DI.fn.kp DI.b .nil aK (aa (pv 1) (aa (pv 6) (aa (bE (aa (pv 2) (aa (pv 5) af))) af)))))
    (au (bw (aJ GI hr rfl DI.bK DI.fn.kp DI.b .nil aK (aa (pv 1) (aa (kG (aZ (p9 hu) (pv 6) (pv 7) (bz _)) (bE (aa (pv 2) (aa (pv 5) af))) (pv 7)) (aa (bE (aa (pv 2) (aa (bc hJ aD (pv 5)) af))) af))))))))))))),?_⟩
  try rw[ck]
  have la:=S.len;have R:=S.fR.bW;have le:=R.le;refine⟨_,rfl,t,as,n,rows,rfl,S.ht,S.rw,R,by omega,λl ts fs H1 nl hl lR s1 f0 fn=>?_⟩;have S1:=S.same s1;have qz:ts.length=fs.length:=ZG lR;have X7:0<fs.length:=by
   by_cases c:n=0
   ·rw[f0 c];decide
   ·have D:=(fn (by omega)).dec
    have:((0,0):En)∈fs.flatten:=(D.mem _).mpr ((R.mem _).mpr ⟨by show 0<n;omega,by decide⟩)
    obtain⟨g,hg,_⟩:=ZL.mp this;exact abm hg
  have X8:fs.length<=60:=by
   by_cases c:n=0
   ·rw[f0 c];decide
   ·have D:=(fn (by omega)).dec
    have:=jq D.ne
    have:=kh D.nd λe he=>(D.mem e).mp he
    omega
  have GG:p≠l:=λz=>by obtain⟨x1,x2,e'⟩:=S.eQ;rw[<-z,e'] at nl;cases nl
  refine⟨_,rfl,_,rfl,_,rfl,l,_,rfl,.inl (aq.of hl),p,_,rfl,S1.eQ,by rw[Zj];omega,by rw[Zj];omega,λd1 H2 GJ GQ r2 b2=>?_⟩;have S2:=S1.but r2 b2;have o2:bO (p::t::as) H H2:=(bO.same s1).trans (bO.but b2);obtain⟨i,rfl⟩:=aas GJ;rw[Zj] at GQ;have hi:i<ts.length:=by omega
  obtain⟨fc,ws,ef,hb,Hb⟩:=lR.get (Zk hi);have QI:ts[i]?=some ts[i]:=Zk hi;generalize ts[i]=b at QI hb;have fm:fc∈fs:=Zr ef;have VT:b≠p:=CW S1.eQ hb;have hl2:=b2 _ _ hl (Z0 GG);have QJ:=b2 _ _ hb VT;have Ml:∀c xs,H1 c=some (.tup xs)->H2 c=some (.tup xs):=λc xs e=>b2 _ _ e λz=>by obtain⟨x1,x2,e'⟩:=S1.eQ;rw[z,e'] at e;cases e
  have hpb2:=Hb.mono Ml;have fS:∀e∈fc,e∈rows.flatten:=λe he=>by
   by_cases c:n=0
   ·rw[f0 c] at fm;obtain rfl:fc=[]:=by simpa using fm
    exact nomatch he
   ·exact((fn (by omega)).dec.mem e).mp (ZL.mpr ⟨fc,fm,he⟩)
  have Yr:fc.length<=60:=by
   by_cases c:n=0
   ·rw[f0 c] at fm;obtain rfl:fc=[]:=by simpa using fm
    exact ZE _
   ·have:=kh (cc (fn (by omega)).dec.nd fc fm) fS
    omega
  have lw:ws.length=fc.length:=Hb.len;refine⟨l,_,_,.ref b,rfl,rfl,aq.of hl2,cw (by rw[Zo,QI];rfl),b,rfl,⟨_,aq.of QJ⟩,?_⟩;refine cQ (K:=K) (xs:=ws.map V.ref) (λj ys H3=>av H2 H3/\∃cs:List Addr,ys=cs.map V.ref/\aI H3 cs ((fc.take j).map bL)) ⟨av.refl _,[],rfl,.nil⟩ ?_ ?_ ?_ ?_
  ·rintro j ys H3 _ ⟨_,cs,rfl,p3⟩;rw[Zj,p3.len,Zj,ZK];exact Zu (show _<=60 by omega) (by decide)
  ·rintro j ys H3 _ ⟨s3,_⟩;exact aq.of (s3 _ _ QJ)
  ·rintro j x ys H3 RR hx ⟨s3,cs,rfl,p3⟩ kR;rw[Zo] at hx;obtain⟨c,ec,rfl⟩:=Zp.mp hx;obtain⟨e,ee,hc⟩:=(hpb2.same s3).get ec;have e2:=((R.mem e).mp (fS e (Zr ee))).2;simp only[cD,bj,Z7];refine⟨c,_,rfl,aO.of hc,rfl,_,_,rfl,_,_,rfl,rfl,?_⟩;refine⟨_,rfl,_,rfl,_,_,rfl,rfl,(by show 2<=sizeLine;decide),λq nq=>?_⟩;rw[qu e2];have sq:=aj (o:=.tup (pV (bL e))) nq;refine kR _ _ ⟨s3.trans sq,cs++[q],by rw[ZU];rfl,?_⟩;rw[ZO,ee,ZU];exact(p3.same sq).snoc ai
  ·rintro ys H3 ⟨s3,cs,rfl,p3⟩ cl VU;rw[Zj,lw,Z6] at p3;have sc:=aj (o:=.lst (cs.map V.ref)) VU;have gc:=ai (H:=H3) (a:=cl) (o:=.lst (cs.map V.ref));generalize upd H3 cl (.lst (cs.map V.ref))=H4 at sc gc⊢;have s24:=s3.trans sc;have S4:=S2.same s24;have o4:=o2.trans (bO.same s24);have p4:=p3.same sc;have lc:cs.length=fc.length:=by rw[p3.len,Zj]
   have Fh:cl≠p:=CW S4.eQ gc;simp only[bj];refine⟨_,rfl,p,2,rfl,S4.eQ,by decide,by decide,λd2 H5 yr GR r5 b5=>?_⟩;have S5:=S4.but r5 b5;have o5:=o4.trans (bO.but b5);have VW:∀c xs,H4 c=some (.tup xs)->H5 c=some (.tup xs):=λc xs e=>b5 _ _ e λz=>by obtain⟨x1,x2,e'⟩:=S4.eQ;rw[z,e'] at e;cases e
   have p5:=p4.mono VW;have VX:=b5 _ _ gc Fh;obtain⟨sd,rfl⟩:=aas yr;have wI:sd<2:=by omega
   refine⟨_,rfl,ZE _,λz0 CT=>?_⟩;have sz:=aj (o:=.lst []) CT;have gz:=ai (H:=H5) (a:=z0) (o:=.lst []);generalize upd H5 z0 (.lst [])=H6 at sz gz⊢;have S6:=S5.same sz;have o6:=o5.trans (bO.same sz);have p6:=p5.same sz;have Ms:=sz _ _ VX;refine⟨cl,z0,_,rfl,rfl,aq.of Ms,aq.of gz,_,rfl,?_⟩;rw[if_neg (by decide)];have e2:[V.int (n:Nat),V.int (1-(sd:Int))]=pV (bL (n,sd)):=qu (e:=(n,sd)) wI;by_cases n0:n=0
   ·have fe:fc=[]:=by rw[f0 n0] at fm;simpa using fm
    have ce:cs=[]:=Z4.mp (by rw[lc,fe];rfl);subst ce;have rz:=S.fR.z n0;have l1:as.length=1:=by rw[la,rz];rfl
    obtain⟨a0,rfl⟩:∃a0,as=[a0]:=by
     match as,l1 with
     |[a0],_=>exact⟨a0,rfl⟩
    obtain⟨r0,Hf,er0,CL,Ls⟩:=S6.rw.get (i:=0) (a:=a0) rfl;rw[rz] at er0;obtain rfl:[]=r0:=by simpa using er0
    obtain rfl:Hf=[]:=Z4.mp Ls.len;refine b6 ⟨_,rfl,t,_,0,.ref a0,rfl,rfl,aq.of S6.ht,rfl,.inl ⟨rfl,_,aq.of CL⟩,_,rfl,_,rfl,(by show 2<=sizeLine;decide),λq1 CY=>?_⟩;have s1':=aj (o:=.tup [V.int (n:Nat),V.int (sd:Nat)]) CY;have g1:=ai (H:=H6) (a:=q1) (o:=.tup [V.int (n:Nat),V.int (sd:Nat)]);generalize upd H6 q1 (.tup [V.int (n:Nat),V.int (sd:Nat)])=H7 at s1' g1⊢;refine⟨_,rfl,_,rfl,_,_,rfl,rfl,(by show 2<=sizeLine;decide),λq2 sZ=>?_⟩;rw[e2];have s2':=aj (o:=.tup (pV (bL (n,sd)))) sZ;have g2:=ai (H:=H7) (a:=q2) (o:=.tup (pV (bL (n,sd))));generalize upd H7 q2 (.tup (pV (bL (n,sd))))=H8 at s2' g2⊢;refine⟨(by show 2<=sizeLine;decide),λel VY=>?_⟩;have s3':=aj (o:=.lst [.ref q1,.ref q2]) VY;have g3:=ai (H:=H8) (a:=el) (o:=.lst [.ref q1,.ref q2]);generalize upd H8 el (.lst [.ref q1,.ref q2])=H9 at s3' g3⊢;have s69:=s1'.trans (s2'.trans s3');have S9:=S6.same s69;have QK:=s69 _ _ CL;refine⟨a0,el,_,_,rfl,rfl,QK,g3,(by show 2<=sizeLine;decide),?_⟩;have pr:aI H9 [q1,q2] [(n,sd),(n,1-sd)]:=.cons (s3' _ _ (s2' _ _ g1)) (.cons (s3' _ _ g2) .nil);have RW:=S9.rw.set S9.nd (i:=0) (a:=a0) rfl (λc xs hc z=>by rw[z,QK] at hc;cases hc) pr;have my:a0≠t:=λz=>S.nt (by simp[z]);have ap0:a0≠p:=λz=>S.np (by simp[z]);rw[rz] at RW;subst n0;refine k _ [[(0,sd),(0,1-sd)]] ⟨S9.eQ.ak (Z0 ap0),by rw[ak (Z0 my)];exact S9.ht,RW,S.nd,S.nt,S.np,S.pt,Cg wI⟩ (by rw[rz];rfl) λc o e nc=>?_;rw[ak (λ(z:c=a0)=>nc (by simp[z]))];exact s69 _ _ (o6 _ _ e nc)
   ·have Fc:=fn (by omega);have fne:=Fc.dec.ne fc fm;have iz:0<cs.length:=by rw[lc];exact abC.mpr fne
    have ce:decide (cs.map V.ref=[])=false:=by
     rw[aaB];intro z
     have:=congrArg List.length z
     rw[Zj] at this;simp at this;rw[this] at iz;exact absurd iz (by decide)
    rw[ce];refine br ⟨_,rfl,_,rfl,_,rfl,cl,_,rfl,.inl (aq.of Ms),p,_,rfl,S6.eQ,by rw[Zj];omega,by rw[Zj];omega,λd3 H7 Mm Mo r7 b7=>?_⟩;have S7:=S6.but r7 b7;have o7:=o6.trans (bO.but b7);have VZ:∀c xs,H6 c=some (.tup xs)->H7 c=some (.tup xs):=λc xs e=>b7 _ _ e λz=>by obtain⟨x1,x2,e'⟩:=S6.eQ;rw[z,e'] at e;cases e
    have p7:=p6.mono VZ;have Mu:=b7 _ _ Ms Fh;obtain⟨i1,rfl⟩:=aas Mm;rw[Zj] at Mo;have V0:i1<cs.length:=by omega
    have Mv:cs[i1]?=some cs[i1]:=Zk V0;generalize cs[i1]=c1 at Mv;refine⟨cl,_,_,.ref c1,rfl,rfl,aq.of Mu,cw (by rw[Zo,Mv];rfl),?_⟩;refine⟨_,rfl,_,rfl,_,rfl,cl,_,rfl,.inl (aq.of Mu),p,_,rfl,S7.eQ,by rw[Zj];omega,by rw[Zj];omega,λd4 H8 V1 V2 r8 b8=>?_⟩;have S8:=S7.but r8 b8;have o8:=o7.trans (bO.but b8);have kt8:∀c xs,H7 c=some (.tup xs)->H8 c=some (.tup xs):=λc xs e=>b8 _ _ e λz=>by obtain⟨x1,x2,e'⟩:=S7.eQ;rw[z,e'] at e;cases e
    have p8:=p7.mono kt8;have V3:=b8 _ _ Mu Fh;obtain⟨i2,rfl⟩:=aas V1;rw[Zj] at V2;have hi2:i2<cs.length:=by omega
    have B1:cs[i2]?=some cs[i2]:=Zk hi2;generalize cs[i2]=c2 at B1;refine⟨cl,_,_,.ref c2,rfl,rfl,aq.of V3,cw (by rw[Zo,B1];rfl),?_⟩;have QL:∀{i:Nat} {c:Addr},cs[i]?=some c->∃x:En,x∈rows.flatten/\bL x∈fc/\H8 c=some (.tup (pV x)):=λ{i c} ec=>by obtain⟨x,ex,hx⟩:=p8.get ec;rw[Zo] at ex;obtain⟨e,ee,rfl⟩:=Zp.mp ex;have em:=Zr ee;exact⟨bL e,R.iO (fS e em),by rw[iN ((R.mem e).mp (fS e em)).2];exact em,hx⟩
    obtain⟨x,xS,xf,hx⟩:=QL Mv;obtain⟨y,yS,yf,hy⟩:=QL B1;refine⟨_,rfl,_,rfl,_,rfl,_,rfl,(by show 2<=sizeLine;decide),λq1 CY=>?_⟩;have s1':=aj (o:=.tup [V.int (n:Nat),V.int (sd:Nat)]) CY;have g1:=ai (H:=H8) (a:=q1) (o:=.tup [V.int (n:Nat),V.int (sd:Nat)]);generalize upd H8 q1 (.tup [V.int (n:Nat),V.int (sd:Nat)])=H9 at s1' g1⊢;have S9:=S8.same s1';refine⟨t,c1,q1,as,rows,x,(n,sd),rfl,S9.ht,S9.nt,S9.nd,S9.rw,s1' _ _ hx,g1,λr hr=>by have:=R.row hr;omega,λgm RW CZ=>?_⟩;have Mw:=CZ _ _ (s1' _ _ hy) (S9.rw.qB (s1' _ _ hy));have Sy:=CZ _ _ (s1' _ _ hx) (S9.rw.qB (s1' _ _ hx));have Mx:=CZ _ _ S9.ht S9.nt;have o10':bO (p::t::as) H gm:=o8.trans ((bO.same s1').trans (bO.as CZ));have OF:Row gm p:=by obtain⟨x1,x2,e'⟩:=S9.eQ;exact⟨x1,x2,CZ _ _ e' S9.np⟩
    have L:=R.bL wI;have p1:=oS (e:=(n,sd)) R.nd xS;have vL:(rows.map (cE x (n,sd))).flatten.Nodup:=p1.nodup_iff.mpr (ZT.mpr ⟨L.n1,R.nd⟩);have Sz:∀r∈rows.map (cE x (n,sd)),r.length<=60:=λr hr=>by have l2:=p1.length_eq;rw[Zz] at l2;obtain⟨A1,A2,e⟩:=aaq hr;rw[e,aaF,aaf,ZA,ZA] at l2;omega
    have fin:∀{mU:Hp} {qy qe:Addr} (E':XK),av gm mU->mU qy=some (.tup (pV (if x=y then (n,sd) else y)))->mU qe=some (.tup (pV (bL (n,sd))))->Ff [.ref t,.ref qy,.ref qe] mU (λ_ H=>Q .a8 H) E':=λ{mU qy qe} _ s11 gy ge =>⟨t,qy,qe,as,_,_,_,rfl,s11 _ _ Mx,S.nt,S.nd,RW.same s11,gy,ge,Sz,λHg V4 My=>k Hg _ ⟨(by obtain⟨x1,x2,e'⟩:=OF;exact⟨x1,x2,My _ _ (s11 _ _ e') S.np⟩),My _ _ (s11 _ _ Mx) S.nt,V4,S.nd,S.nt,S.np,S.pt,Ag S.fR (by omega) wI (Fc.dec.to (λ_=>aeU) λu v _ h=>h.2) fm xf yf xS yS⟩ (by rw[Zj,Zj]) (o10'.trans ((bO.same s11).trans (bO.as My)))⟩
    refine⟨_,rfl,_,rfl,_,rfl,wq Sy Mw ⟨_,rfl,?_⟩⟩;by_cases c:x=y
    ·rw[decide_eq_true c];rw[if_pos c] at fin;refine b6 ⟨_,rfl,_,rfl,(by show 2<=sizeLine;decide),λq3 V5=>?_⟩;have s3':=aj (o:=.tup [V.int (n:Nat),V.int (sd:Nat)]) V5;have g3:=ai (H:=gm) (a:=q3) (o:=.tup [V.int (n:Nat),V.int (sd:Nat)]);generalize upd gm q3 (.tup [V.int (n:Nat),V.int (sd:Nat)])=mU at s3' g3⊢;refine⟨_,rfl,_,rfl,_,_,rfl,rfl,(by show 2<=sizeLine;decide),λq4 nZ=>?_⟩;rw[e2];have s4':=aj (o:=.tup (pV (bL (n,sd)))) nZ;exact fin E (s3'.trans s4') (s4' _ _ g3) ai
    ·rw[decide_eq_false c];rw[if_neg c] at fin;refine br ⟨_,rfl,_,rfl,_,rfl,_,_,rfl,rfl,(by show 2<=sizeLine;decide),λq4 nZ=>?_⟩;rw[e2];have s4':=aj (o:=.tup (pV (bL (n,sd)))) nZ;exact fin E s4' (s4' _ _ Mw) ai
end
abbrev C0:Stmt:=top 46 -- OG
theorem bO.none{H H':Hp}{p t:Addr}{as:List Addr}(o:bO (p::t::as) H H'){G:Hp}(b:cC p G H)(ht:G t=none)(has:∀x∈as,G x=none):cC p G H':=λc u e n=>o c u (b c u e n) λz=>by
 rcases Zs.mp z with z|z
 ·exact n z
 ·rcases Zs.mp z with z|z
  ·rw[z,ht] at e;cases e
  ·rw[has c z] at e;cases e
section
variable {P:Program}{w:World}{K:PySem.W.Frag}{mg:Str->Option Value}{base:Heap}
def Mz:Sp:=λvs H Q _=>∃(p:Addr) (most steps:Nat),vs=[.ref p,.int (most:Nat),.int (steps:Nat)]/\Row H p/\1<=most/\most<=12/\steps<=22 /\
 ∀(t:Addr) (as:List Addr) (rows:List (List En)) (n:Nat) (H':Hp),H t=none->(∀x∈as,H x=none)->TS H' p t as rows n->rows.length<=most->1<=rows.length->n<=steps->n<=rows.length+10->cC p H H'->Q (.ref t) H'
abbrev SA:List Str:=["_law_pot_here","_law_most","_law_steps","_law_turns_here","_law_k","_law_step","_law_kind"]
theorem lC:aQ SA ["_law_pot_here","_law_most","_law_steps"] (ar C0):=⟨rfl,rfl,rfl,by decide +kernel,rfl,by decide +kernel,by decide +kernel⟩
theorem OH{f fD fL fI fH fA:Addr}{fd tj kg tP yP lL:FuncData}(F:bx K "_law_turns" "_law_turns" C0 f fd)(DD:Df K mg "_law_take" iG ["_law_pot_here","_law_many"] fD tj)(DL:Df K mg "_law_faces" tO ["_law_turns_here"] fL kg)(DI:Df K mg "_law_put_in" yL ["_law_turns_here","_law_end","_law_new"] fI tP)
  (DH:Df K mg "_law_hung" CV ["_law_pot_here","_law_turns_here","_law_k"] fH yP) (DA:Df K mg "_law_across" yO ["_law_pot_here","_law_turns_here","_law_k"] fA lL) (hE:mg "enumerate" = none) (hA:mg "any" = none) (T:cm mg):aG P w K mg base aS 3 f fd ["_law_pot_here","_law_most","_law_steps"] Mz:=by
 have GD:aG P w K mg base aS 1 fD tj ["_law_pot_here","_law_many"] j0:=j6 DD.fn T;have GL:aG P w K mg base aS 1 fL kg ["_law_turns_here"] Aq:=Ar DL.fn hE hA T;have GH:aG P w K mg base aS 2 fH yP ["_law_pot_here","_law_turns_here","_law_k"] Mi:=OD DH.fn DD T;have GA:aG P w K mg base aS 2 fA lL ["_law_pot_here","_law_turns_here","_law_k"] Mr:=OE DA.fn DD DL DI hE hA T;refine F.ok lC (λvs H Q E h=>?_) (λcdv A outer s H vs Q E hr h=>?_)
 ·obtain⟨p,most,steps,rfl,_⟩:=h;rfl
 ·obtain⟨p,most,steps,rfl,r,m1,Lp,MB,k⟩:=h;have MC:=hr.mono (j:=1) (by decide);refine⟨_,ao (aR (i:=3) lC.nd rfl (Or.inl rfl) (bV (aa (bV af) af)))
   (ao (aR (i:=4) lC.nd rfl (Or.inl rfl) aD)
   (ao (cH aaa rfl (fX rfl T.range (aa (aJ GD MC rfl DD.bK DD.fn.kp DD.b .nil aK (aa (pv 0) (aa (bc c6 (pv 2) aD) af))) af)) (aE (i:=5) lC.nd rfl (Or.inl rfl))
    (ao (aR (i:=6) lC.nd rfl (Or.inl rfl) (aJ GD MC rfl DD.bK DD.fn.kp DD.b .nil aK (aa (pv 0) (aa aD af))))
    (au (bQ (PW.pt (AK (aZ ua (pv 6) aD (bz _)) (xF (aZ pH (aA aN (by rfl) T.len ZW (aa (pv 3) af)) (pv 1) (bz _)))))
     (ao (bw (aJ GH hr rfl DH.bK DH.fn.kp DH.b .nil aK (aa (pv 0) (aa (pv 3) (aa (pv 4) af))))) (au (aR (i:=4) lC.nd rfl (Or.inl rfl) (bc c6 (pv 4) aD))))
     (au (bQ (aZ pH (aA aN (by rfl) T.len ZW (aa (aJ GL MC rfl DL.bK DL.fn.kp DL.b .nil aK (aa (pv 3) af)) af)) aD (bz _))
      (ao (bw (aJ GA hr rfl DA.bK DA.fn.kp DA.b .nil aK (aa (pv 0) (aa (pv 3) (aa (pv 4) af))))) (au (aR (i:=4) lC.nd rfl (Or.inl rfl) (bc c6 (pv 4) aD)))) bu))))))
   (au (aT (pv 3))))),?_⟩
  try rw[ck]
  refine⟨ZE _,λa0 Hh=>⟨(by show 1<=sizeLine;decide),λt nt=>?_⟩⟩;have s1:=aj (o:=.lst []) Hh;have s2:=aj (o:=.lst [.ref a0]) nt;have s02:=s1.trans s2;have g0:=s2 _ _ (ai (H:=H) (a:=a0) (o:=.lst []));have gt:=ai (H:=upd H a0 (.lst [])) (a:=t) (o:=.lst [.ref a0]);have C1:H t=none:=s1.free nt;have my:a0≠t:=λz=>by rw[<-z,ai] at nt;cases nt
  have r2:Row (upd (upd H a0 (.lst [])) t (.lst [.ref a0])) p:=let ⟨x,y,e⟩:=r;⟨x,y,s02 _ _ e⟩
  generalize upd (upd H a0 (.lst [])) t (.lst [.ref a0])=H2 at s2 s02 g0 gt r2⊢;have ap0:p≠a0:=λz=>by obtain⟨x,y,e⟩:=r;rw[<-z,e] at Hh;cases Hh
  have V6:p≠t:=λz=>by obtain⟨x,y,e⟩:=r;rw[<-z,e] at C1;cases C1
  have S2:TS H2 p t [a0] [[]] 0:=⟨r2,gt,.cons ⟨[],g0,.nil⟩ .nil,by simp,by simpa using Z0 my,by simpa using ap0,V6,oT⟩
  refine⟨_,rfl,_,rfl,_,_,rfl,rfl,p,_,rfl,r2,by omega,by omega,λd H3 da db r3 b3=>?_⟩;have S3:=S2.but r3 b3;have V7:cC p H H3:=λc o e n=>b3 _ _ (s02 _ _ e) n;obtain⟨m,rfl⟩:=aas da;have V8:∀x∈[a0],H x=none:=λx hx=>ZJ.mp hx▸Hh;refine⟨m,rfl,by omega,by omega,jx (λi σ H4=>∃(v5 v6:Option V) (as:List Addr) (rows:List (List En)) (n:Nat),σ=[some (.ref p),some (.int (most:Nat)),some (.int (steps:Nat)),some (.ref t),some (.int (n:Nat)),v5,v6]/\TS H4 p t as rows n/\(∀x∈as,H x=none)/\rows.length<=most/\1<=rows.length/\n<=i/\n<=rows.length+10/\cC p H H4) ⟨_,_,[a0],[[]],0,rfl,S3,V8,by simpa using m1,by decide,Zn _,by decide,V7⟩ ?_ ?_⟩
  ·rintro i σ H4 hi ⟨v5,v6,as,rows,n,rfl,S4,fr,l1,l2,l3,l4,b4⟩;have vX:rows≠[]:=abC.mp (by omega);refine⟨_,rfl,p,2,rfl,S4.eQ,by decide,by decide,λd2 H5 yr GR r5 b5=>?_⟩;have S5:=S4.but r5 b5;have b05:=b4.trans b5;have la:=S5.len;have Ys:n<=21:=by omega
   refine⟨_,rfl,rfl,_,rfl,?_⟩;by_cases c:d2=0;case' pos=>
    rw[decide_eq_true (show V.int d2=V.int 0 by rw[c])];refine b6 ⟨_,rfl,t,_,rfl,.inl (aq.of S5.ht),_,rfl,_,_,rfl,rfl,_,rfl,?_⟩;rw[Zj];by_cases c2:((as.length:Nat):Int)<(most:Nat);case' pos=>
     rw[decide_eq_true c2];refine b6 ⟨_,rfl,_,rfl,_,rfl,p,t,n,as,rows,rfl,S5,by omega,vX,by omega,λH6 x aV nx S6 Md o6=>?_⟩;have V9:=ir.but r5 b05 x nx;have V':∀y∈as++[x],H y=none:=λy hy=>by
      rcases Zv.mp hy with hy|hy
      ·exact fr y hy
      ·rw[ZJ.mp hy];exact V9
     exact⟨_,rfl,_,_,rfl,rfl,_,_,as++[x],aV,n+1,rfl,S6,V',by omega,by omega,by omega,by omega,bO.none o6 b05 C1 fr⟩
    case' neg =>rw[decide_eq_false c2];refine br ?_
   case' neg =>rw[decide_eq_false (show ¬ V.int d2=V.int 0 from λz=>c (by injection z))];refine br (br ?_)
   all_goals
    refine⟨_,rfl,t,as,n,rows,rfl,S5.ht,S5.rw,S5.fR.bW,by have:=S5.fR.bW.le;omega,λl ts fs H6 nl hl lR s6 f0 fn=>⟨l,_,rfl,.inl (aq.of hl),_,_,rfl,rfl,_,rfl,?_⟩⟩;have qz:ts.length=fs.length:=ZG lR;have S6:=S5.same s6;have QM:cC p H H6:=λc o e n=>s6 _ _ (b05 _ _ e n);rw[Zj];by_cases c3:((ts.length:Nat):Int)<12
    ·rw[decide_eq_true c3];refine b6 ⟨_,rfl,_,rfl,_,rfl,p,t,n,as,rows,rfl,S6,by omega,vX,by omega,λH7 aV S7 Md o7=>?_⟩;have lim:n+1<=aV.length+10:=by
      by_cases z:n=0
      ·omega
      ·have:=S5.fR.tn.cnt fs (by omega) (fn (by omega)).dec
       omega
     exact⟨_,rfl,_,_,rfl,rfl,_,_,as,aV,n+1,rfl,S7,fr,by omega,by omega,by omega,lim,bO.none o7 QM C1 fr⟩
    ·rw[decide_eq_false c3];exact br ⟨_,_,as,rows,n,rfl,S6,fr,l1,l2,by omega,l4,QM⟩
  ·rintro σ H4 ⟨v5,v6,as,rows,n,rfl,S4,fr,l1,l2,l3,l4,b4⟩;exact⟨_,rfl,k t as rows n H4 C1 fr S4 l1 l2 (by omega) l4 b4⟩
end
end cM
namespace L2
open PySem PySem.Spec PyProof.Rows
section
theorem Jg
  (h0:codeAny (model prog w) A (.compLoop (.ListComp elt [c1,⟨tg,iter,ifs,0⟩] sc pos) 1 it acc env) R s)
  (h:wpAny (model prog w) A (pyIter it) (λvP s'=>codeAny (model prog w) A (.compLoop (.ListComp elt [c1,⟨tg,iter,ifs,0⟩] sc pos) 1 vP acc env) R s')
   (notedBy (model prog w) A env λx s'=>R (.error x) s') s) :
  codeAny (model prog w) A (.compStart (.ListComp elt [c1,⟨tg,iter,ifs,0⟩] sc pos) 1 it acc env) R s:=by
 refine adQ ?_;show wpAny _ _ ((compStart (.ListComp elt [c1,⟨tg,iter,ifs,0⟩] sc pos) 1 it acc env).onRaise (λx=>do noteFrame x env;standAt theWindowsPlace)) _ _ s
 refine afC ?_;unfold compStart;show wpAny _ _ (ask>>=_) _ _ s
 refine wpAny_bind (wpAny_askSetting (wpAny_ite ?_));split
 ·first
   |exact wpAny_bind (wpAny_pure (wpAny_pure (And.intro rfl h0)))
   |exact wpAny_pure (And.intro rfl h0)
 ·first
   |exact wpAny_bind (wpAny_rule (wpAny_bind (wpAny_standAt (wpAny_bind (wpAny_mono h (λvP s' h'=>wpAny_pure (And.intro rfl h')) λ_ _ x=>x)))))
   |(refine wpAny_bind (wpAny_rule ?_);show wpAny _ _ (standAt iter.pos>>=_) _ _ s;exact wpAny_bind (wpAny_standAt (wpAny_bind (wpAny_mono h (λvP s' h'=>wpAny_pure (And.intro rfl h')) λ_ _ x=>x))))
theorem MD(elt:Expr)(c1:Comprehension)(tg iter:Expr)(ifs:List Expr)(sc:Scope)(pos:Pos)(it acc:Value)(env:Env) :
  compTurn (.ListComp elt [c1,⟨tg,iter,ifs,0⟩] sc pos) 1 it acc env=(do
   standAt iter.pos
   match <-pyNext it with
   |none=>pure (.done .next)
   |some v=>
    letOwnedTupleGo tg it v
    assign tg env v
    let mut ok:=true
    for c in ifs do
     if ok then ok <-isTrue c env (eval c env)
    if ok then
     (do let _ <-call (.builtin "list.append") [acc,<-eval elt env])
    again (.compLoop (.ListComp elt [c1,⟨tg,iter,ifs,0⟩] sc pos) 1 it acc env)):=by rfl
theorem ME(elt tg iter gJ iter2:Expr)(ifs2:List Expr)(sc:Scope)(pos:Pos)(it acc:Value)(env:Env) :
  compTurn (.ListComp elt [⟨tg,iter,[],0⟩,⟨gJ,iter2,ifs2,0⟩] sc pos) 0 it acc env=(do
   standAt iter.pos
   match <-pyNext it with
   |none=>pure (.done .next)
   |some v=>
    letOwnedTupleGo tg it v
    assign tg env v
    let x <-eval iter2 env
    standAt iter2.pos
    let x <-foldedSetIterable iter2 env x
    let wK <-holding [x] (pyIter x)
    let _ <-runOwn (.compStart (.ListComp elt [⟨tg,iter,[],0⟩,⟨gJ,iter2,ifs2,0⟩] sc pos) 1 wK acc env) env
    again (.compLoop (.ListComp elt [⟨tg,iter,[],0⟩,⟨gJ,iter2,ifs2,0⟩] sc pos) 0 it acc env)):=by rfl
theorem Jh(G:Nat->Shared->Prop)
  (turn:∀k t,G k t->dq.Tame prog w A (pyNext it) (dq.zI ⟨elt,tg,iter,ifs,sc,pos⟩ prog w A env it acc (R (.ok .next)) λu=>∃j,j<k/\G j u) t)
  {k:Nat} {t:Shared} (g:G k t):codeAny (model prog w) A (.compLoop (.ListComp elt [c1,⟨tg,iter,ifs,0⟩] sc pos) 1 it acc env) R t:=by
 have one:∀k t,G k t->dq.Tame prog w A (compTurn (.ListComp elt [c1,⟨tg,iter,ifs,0⟩] sc pos) 1 it acc env) (λx t'=>match x with|.done r=>R (.ok r) t'|.again c=>c=.compLoop (.ListComp elt [c1,⟨tg,iter,ifs,0⟩] sc pos) 1 it acc env/\∃j,j<k/\G j t') t:=by
  intro k t g;rw[MD];apply wpAny_bind;apply wpAny_standAt;apply wpAny_bind;refine aH (turn k t g) λx t1 h1=>?_;match x,h1 with
  |none,h1=>exact wpAny_pure h1
  |some v,h1=>
   apply wpAny_bind;refine aH h1 λ_ t2 h2=>?_;apply wpAny_bind;refine aH h2 λ_ t3 h3=>?_;apply wpAny_bind;refine aH h3 λb t4 h4=>?_;match b,h4 with
   |false,h4=>exact wpAny_pure ⟨rfl,h4⟩
   |true,h4 =>apply wpAny_bind;apply wpAny_bind;refine aH h4 λy t5 h5=>?_;apply wpAny_bind;refine aH h5 λ_ t6 h6=>?_;exact wpAny_pure (wpAny_pure ⟨rfl,h6⟩)
 exact acO rfl G (λk t g=>wpAny_noted (wpAny_mono (one k t g) (λ_ _ q=>q) λ_ _ f=>f.elim)) k g
theorem Ji(G:Nat->Shared->Prop)(hf:∀x,foldedSetIterable iter2 env x=pure x)
  (turn:∀k t,G k t->dq.Tame prog w A (pyNext it) (λr t1=>match r with
   |none=>R (.ok .next) t1
   |some v=>dq.Tame prog w A (letOwnedTupleGo tg it v) (λ_=>dq.Tame prog w A (assign tg env v) λ_=>dq.Tame prog w A (eval iter2 env) λx=>dq.Tame prog w A (pyIter x) λwK =>codeAny (model prog w) A (.compStart (.ListComp elt [⟨tg,iter,[],0⟩,⟨gJ,iter2,ifs2,0⟩] sc pos) 1 wK acc env) λr u=>r=.ok .next/\∃j,j<k/\G j u) t1) t)
  {k:Nat} {t:Shared} (g:G k t):codeAny (model prog w) A (.compLoop (.ListComp elt [⟨tg,iter,[],0⟩,⟨gJ,iter2,ifs2,0⟩] sc pos) 0 it acc env) R t:=by
 have one:∀k t,G k t->dq.Tame prog w A (compTurn (.ListComp elt [⟨tg,iter,[],0⟩,⟨gJ,iter2,ifs2,0⟩] sc pos) 0 it acc env) (λx t'=>match x with|.done r=>R (.ok r) t'|.again c=>c=.compLoop (.ListComp elt [⟨tg,iter,[],0⟩,⟨gJ,iter2,ifs2,0⟩] sc pos) 0 it acc env/\∃j,j<k/\G j t') t:=by
  intro k t g;rw[ME];apply wpAny_bind;apply wpAny_standAt;apply wpAny_bind;refine aH (turn k t g) λx t1 h1=>?_;match x,h1 with
  |none,h1=>exact wpAny_pure h1
  |some v,h1 =>apply wpAny_bind;refine aH h1 λ_ t2 h2=>?_;apply wpAny_bind;refine aH h2 λ_ t3 h3=>?_;apply wpAny_bind;refine aH h3 λx2 t4 h4=>?_;apply wpAny_bind;apply wpAny_standAt;apply wpAny_bind;refine wpAny_of_eq (hf x2) ?_;apply wpAny_bind;refine wpAny_holding (aH h4 λwK t5 h5=>?_);apply wpAny_bind;refine wpAny_runOwn (codeAny_mono h5 λr t6 h6=>?_);obtain⟨rfl,h6⟩:=h6;exact wpAny_pure ⟨rfl,h6⟩
 exact acO rfl G (λk t g=>wpAny_noted (wpAny_mono (one k t g) (λ_ _ q=>q) λ_ _ f=>f.elim)) k g
end
def MF(i2:Nat)(tt:TT)(te:TE)(σ:St)(ys0:List V)(Rr:List V->Hp->Prop)(J:It)(H1:Hp):Prop:=
 ∃W:Nat->Nat->List V->Hp->Prop,(∃m,W 0 m ys0 H1)/\∀i m ys H2,W i m ys H2->ys.length<=sizeLine /\
  ((J.stop i H2/\Rr ys H2) \/
  (J.go i H2/\∀x H3,J.jw i H2 x H3->tt (σ.set i2 (some x)) H3 λb H5=>if b=true then te (σ.set i2 (some x)) H5 λy H6=>∃m',m'<m/\W (i+1) m' (ys++[y]) H6 else ∃m',m'<m/\W (i+1) m' ys H5))
def yQ(own:List Str)(fr:List Nat)(g:TG)(i2:Nat)(wi2:TI)(tt:TT)(te:TE)(σ:St)(Q:VK)(J:It)(H1:Hp):Prop:=
 ∃W:Nat->Nat->List V->Hp->Prop,(∃m,W 0 m [] H1)/\∀i m ys H2,W i m ys H2->ys.length<=sizeLine /\
  ((J.stop i H2/\∀D,H2 D=none->Q (.ref D) (upd H2 D (.lst ys))) \/
  (J.go i H2/\∀x H3,J.jw i H2 x H3->g x (cI own fr σ) H3 λσ4 H4=>σ4[i2]?=some none/\wi2 σ4 H4 (MF i2 tt te σ4 ys λcB H6=>∃m',m'<m/\W (i+1) m' cB H6)))
def SD(own:List Str)(fr:List Nat)(wi:TI)(g:TG)(i2:Nat)(wi2:TI)(tt:TT)(te:TE):TE:=λσ H Q=>wi σ H (yQ own fr g i2 wi2 tt te σ Q)
section
theorem Au
  (hc:Y.calm=true) (eX:Y.xe=gB) (hg:PG Y gJ (bj i2)) (ht:dJ Y ifs2 tt) (he:PE Y elt te) (hi2:σ4[i2]?=some none)
  (I5:Inv Y pins σ4 H5 s5) (T:Turn Y.prog Y.w Y.K gJ J2 lS wK Hi) (st5:Hi 0 s5.heap) (f2:∀b∈lS,c5 Y pins H5 b) (fD:c5 Y pins H5 D) (dfp:D∉lS)
  (hDo:s5.heap.get? D=some {cls:=.type "list",data:=.seq (List.toArray Hf) k0}) (rv:Vals ys0 Hf) (L:MF i2 tt te σ4 ys0 Rr J2 H5)
  (hR:∀ys us k H' s',Rr ys H'->Inv Y pins σ4 H' s'->H' D=none->s'.heap.get? D=some {cls:=.type "list",data:=.seq (List.toArray us) k}->Vals ys us->R (.ok .next) s') :
  codeAny (model Y.prog Y.w) Y.A (.compLoop (.ListComp elt [c1,⟨gJ,iter2,ifs2,0⟩] sc pos) 1 (.ref wK) (.ref D) Y.env) R s5:=by
 obtain⟨W,⟨m0,w0⟩,turn⟩:=L;obtain⟨Wa,QN,Wb,Wc,Wd,We⟩:=fD;have i7:∀{H':Hp} {s':Shared} {ob:Obj},Inv Y pins σ4 H' s'->H' D=none->s'.heap.get? D=some ob->(∀v,ob.data≠.cell v)->Inv Y (pins++[(D,ob)]) σ4 H' s':=λ{H' s' ob} J0 hn e d=>
  J0.bG λp hp=>by
   rcases Zv.mp hp with q|q
   ·exact J0.pin p (Zm _ q)
   ·have:p=(D,ob):=by simpa using q
    subst this;exact⟨e,hn,QN,Wb,d⟩
 have fpY:∀{H':Hp} {ob:Obj},(∀b∈lS,H' b=none)->∀b∈lS,c5 Y (pins++[(D,ob)]) H' b:=λ{H' ob} hn b hb=>by
  obtain⟨_,a1,a2,a3,a4,a5⟩:=f2 b hb;refine⟨hn b hb,a1,a2,a3,a4,λp hp=>?_⟩;rcases Zv.mp hp with q|q
  ·exact a5 p (ZN _ q)
  ·rcases Zv.mp q with q|q
   ·exact a5 p (Zm _ q)
   ·have:p=(D,ob):=by simpa using q
    subst this;exact λz=>dfp (by have z':D=b:=z;rw[z'];exact hb)
 refine Jh (λn s'=>∃i ys us k H',W i n ys H'/\Inv Y pins σ4 H' s'/\Hi i s'.heap/\(∀b∈lS,H' b=none)/\H' D=none/\s'.heap.get? D=some {cls:=.type "list",data:=.seq (List.toArray us) k}/\Vals ys us) ?_ (k:=m0)
  ⟨0,ys0,Hf,k0,H5,w0,I5,st5,λb hb=>(f2 b hb).1,Wa,hDo,rv⟩
 rintro n s' ⟨i,ys,us,k,H',w',J0,cV,ic,hDn,hDo,rv⟩;obtain⟨lJ,eD⟩:=turn i n ys H' w';have J1:=i7 J0 hDn hDo (λv z=>nomatch z);rcases eD with⟨stop,fin⟩|⟨go,step⟩
 ·have d0:=T.done Y rfl rfl rfl hc i _ s' _ H' gB J1 (fpY ic) cV stop;refine wpAny_mono d0 (λr s4 ⟨hr,J4⟩=>?_) λ_ _ z=>z;subst hr;have pD:=(J4.pin (D,_) (Zm _ (Zm _ Zy))).1;exact hR ys us k H' s4 fin (J4.bG λp hp=>J4.pin p (Zm _ (ZN _ hp))) hDn pD rv
 ·have d0:=T.item Y rfl rfl rfl hc i _ s' _ H' gB J1 (fpY ic) cV go;refine wpAny_mono d0 (λr s4 ⟨u,hr,h4⟩=>?_) λ_ _ z=>z;subst hr;refine wpAny_mono h4 (λ_ s5 ⟨x,H5,J5,r5,y5,st5,jQ⟩=>?_) λ_ _ z=>z;have mw:=J5.pinned (fpY jQ) (T.obj _ _ st5);have s1:=hg _ s5 _ H5 x u _ mw r5 (show bj i2 x σ4 H5 _ from⟨rfl,step x H5 y5⟩:bj i2 x σ4 H5 λσ' H'=>σ'=σ4.set i2 (some x)/\tt σ' H' λb H5=>if b=true then te σ' H5 λy H6=>∃m',m'<n/\W (i+1) m' (ys++[y]) H6 else ∃m',m'<n/\W (i+1) m' ys H5);rw[eX] at s1;refine wpAny_mono s1 (λ_ s6 ⟨σ6,H6,J6,e6,q6⟩=>?_) λ_ _ z=>z;subst e6;have s2':=ht _ s6 _ H6 _ J6 q6;rw[eX] at s2';refine wpAny_mono s2' (λok s7 ⟨H7,J7,q7⟩=>?_) λ_ _ z=>z;have low:∀{H8:Hp} {s8:Shared},Inv Y (pins++[(D,({cls:=.type "list",data:=.seq (List.toArray us) k}:Obj))]++cb lS s5.heap) (σ4.set i2 (some x)) H8 s8 ->
    Inv Y (pins++cb lS s5.heap) σ4 H8 s8/\H8 D=none/\s8.heap.get? D=some {cls:=.type "list",data:=.seq (List.toArray us) k}/\(∀b∈lS,H8 b=none)/\Hi (i+1) s8.heap:=λ{H8 s8} J8=>by
   have p8:=J8.pin (D,_) (Zm _ (ZN _ (Zm _ Zy)));have Jw:Inv Y (pins++[(D,({cls:=.type "list",data:=.seq (List.toArray us) k}:Obj))]++cb lS s5.heap) σ4 H8 s8:=J8.weak (by simp) λj v e=>by
    by_cases hj:j=i2
    ·subst hj;rw[hi2] at e;cases e
    ·rw[abV (Z0 hj)];exact e
   refine⟨Jw.bG λp hp=>J8.pin p (Zm _ ?_),p8.2.1,p8.1,λb hb=>?_,T.keep _ _ _ st5 λb hb o e=>(J8.pin (b,o) (Zm _ (Zm _ (bM hb e)))).1⟩
   ·rcases Zv.mp hp with q|q
    ·exact ZN _ (ZN _ q)
    ·exact Zm _ q
   ·obtain⟨o,e,d⟩:=T.obj _ _ st5 b hb;exact(J8.pin (b,o) (Zm _ (Zm _ (bM hb e)))).2.1
  cases ok with
  |false=>
   obtain⟨m',hm,w7⟩:=(show ∃m',m'<n/\W (i+1) m' ys H7 by simpa using q7)
   obtain⟨Jw,l1,l2,l3,l4⟩:=low J7;exact⟨m',hm,i+1,ys,us,k,H7,w7,Jw.bG λp hp=>Jw.pin p (Zm _ (ZN _ hp)),l4,l3,l1,l2,rv⟩
  |true=>
   have pU:te (σ4.set i2 (some x)) H7 λy H6=>∃m',m'<n/\W (i+1) m' (ys++[y]) H6:=by simpa using q7
   have s3:=he _ s7 _ H7 _ J7 pU;rw[eX] at s3;show wpAny _ _ _ _ _ _
   refine wpAny_mono s3 (λxv s8 ⟨y,H8,J8,r8,m',hm,w8⟩=>?_) λ_ _ z=>z;obtain⟨Jw,l1,l2,l3,l4⟩:=low J8;refine append_at (hsz:=by rw[Zt,<-rv.length];exact lJ) l2 λh' hs' uS=>?_;have Wf:Inv Y pins σ4 H8 s8:=Jw.bG λp hp=>Jw.pin p (Zm _ (ZN _ hp));have J9:Inv Y pins σ4 H8 {s8 with heap:=h' }:=Wf.turned (t':=s8.toks) (it:=D) (λb o hb e=>(hs'.2 b hb).trans e) l1 QN Wc Wd We;refine⟨m',hm,i+1,ys++[y],us++[xv],k+1,H8,w8,J9,?_,l3,l1,?_,rv.append (.cons r8 .nil)⟩
   ·exact T.keep _ _ _ l4 λb hb o e=>(hs'.2 b (λz=>dfp (z▸hb))).trans e
   ·rw[uS];simp
end
section
theorem Fi{pins:List (Addr×Obj)}{tn:Nat->Heap->Prop}{J:It}{RR:Value->Addr->Result->Shared->Prop}{E:Value->Shared->Prop}(hc:X.calm=true)(S:dD X own fr sc)(gk:GK own.length g)
  (h2l:i2<own.length) (hg:∀s H fp,PG (bJ X own fr sc s H fp) tg g) (hi2:∀s H fp,PI (bJ X own fr sc s H fp) gJ iter2 wi2) (hg2:∀s H fp,PG (bJ X own fr sc s H fp) gJ (bj i2)) (ht:∀s H fp,dJ (bJ X own fr sc s H fp) ifs2 tt) (he:∀s H fp,PE (bJ X own fr sc s H fp) elt te)
  (hf2:∀s H fp x,foldedSetIterable iter2 (bJ X own fr sc s H fp).env x=pure x)
  (I2:Inv X pins σ H2 s2) (T:Turn X.prog X.w X.K tg J fp it tn) (st2:tn 0 s2.heap) (f2:∀b∈fp,c5 X pins H2 b) (L:yQ own fr g i2 wi2 tt te σ Q J H2)
  (hRR:∀D C s',(∃m,s'.heap.Ns C m)->@LE.le Nat _ s2.heap.objs.size C->(∃H',H' C=none/\Q (.ref D) H'/\∀h' tk,Heap.SameBut C s'.heap h'->Inv X pins σ H' {s' with heap:=h',toks:=tk})->RR (.ref D) C (.ok .next) s') :
  wpAny (model X.prog X.w) X.A (newList []) (λacc s₃=>wpAny (model X.prog X.w) X.A (newFunctionEnv sc X.env.globals (cj X.env sc.names []) [] X.env.qual none .none (some X.env)) (λgE s₄ =>codeAny (model X.prog X.w) X.A (.compStart (.ListComp elt [⟨tg,iter,[],0⟩,⟨gJ,iter2,ifs2,0⟩] sc pos) 0 (.ref it) acc {gE with scope:=relabel sc X.env}) (RR acc gE.locals) s₄) E s₃) E s2:=by
 obtain⟨W,⟨m0,w0⟩,turn⟩:=L;refine wpAny_newObj_type (eY ?_);dsimp only;generalize dv:s2.heap.push {cls:=.type "list",dict:=none,data:=.seq ([]:List Value).toArray}=h1;have hz:h1.objs.size=s2.heap.objs.size+1:=by rw[<-dv,Z']
 have hk1:∀b o,s2.heap.get? b=some o->h1.get? b=some o:=λb o e=>by rw[<-dv];exact Zl _ e
 have lI:h1.get? s2.heap.objs.size=some {cls:=.type "list",data:=.seq ([]:List Value).toArray}:=by rw[<-dv];exact Zw _ rfl
 have hfl:∀b∈fp,@LT.lt Nat _ b s2.heap.objs.size:=λb hb=>by obtain⟨o,e,_⟩:=T.obj _ _ st2 b hb;exact Zx e
 have I3:=iZ I2 S f2 hz hk1 hfl;rw[hz];generalize hY:bJ X own fr sc s2 H2 fp=Y at I3;have jZ:(hC s2 sc h1).get? s2.heap.objs.size=some {cls:=.type "list",data:=.seq ([]:List Value).toArray}:=pushCells_keeps _ _ _ _ (Zl _ lI);have hG:tn 0 (hC s2 sc h1):=T.keep _ _ _ st2 λb _ o e=>pushCells_keeps _ _ _ _ (Zl _ (hk1 b o e));have eP:Y.prog=X.prog:=by rw[<-hY];rfl
 have eW:Y.w=X.w:=by rw[<-hY];rfl
 have eK:Y.K=X.K:=by rw[<-hY];rfl
 have eA:Y.A=X.A:=by rw[<-hY];rfl
 have eX:Y.xe=gB:=by rw[<-hY];rfl
 have ecm:Y.calm=true:=by rw[<-hY];exact hc
 have kQ:({scope:=relabel sc X.env,locals:=s2.heap.objs.size+1,globals:=X.env.globals,cells:=cellsFrom (s2.heap.objs.size+1+1) sc.names (cj X.env sc.names []),qual:=X.env.qual,func:=none,code:=X.env.code,frame:=X.env.frame,builtins:=X.env.builtins}:Env)=Y.env:=by rw[<-hY];rfl
 have eL:Y.env.locals=s2.heap.objs.size+1:=by rw[<-hY];rfl
 rw[kQ];have i4:PG Y tg g:=hY▸hg s2 H2 fp;have i5:dJ Y ifs2 tt:=hY▸ht s2 H2 fp;have SE:PI Y gJ iter2 wi2:=hY▸hi2 s2 H2 fp;have SF:PG Y gJ (bj i2):=hY▸hg2 s2 H2 fp;have SG:∀x,foldedSetIterable iter2 Y.env x=pure x:=hY▸hf2 s2 H2 fp;have i6:PE Y elt te:=hY▸he s2 H2 fp;have dfp:s2.heap.objs.size∉fp:=λz=>ZX _ (hfl _ z);have dC:s2.heap.objs.size≠s2.heap.objs.size+1:=ZQ (aav _);have iF:∀x c,Y.env.cells.lookup x=some c->c≠s2.heap.objs.size:=λx c e z=>by obtain⟨v,o,q,d⟩:=I3.cell x c e;rw[z] at q;have q':=jZ.symm.trans q;cases q';cases d
 have jJ:s2.heap.objs.size∉Y.fs:=by
  rw[<-hY];intro z;rcases Zs.mp (I2.dz _ z) with e|e
  ·exact ZX _ (by have:=I2.lt;rw[<-e] at this;exact this)
  ·exact I2.qI (Zn _) e
 have mv:@LE.le Nat _ Y.s₀.heap.objs.size s2.heap.objs.size:=by rw[<-hY];exact Zn _
 have fpY:∀{H':Hp} {pp:List (Addr×Obj)},(∀b∈fp,H' b=none)->(∀p∈pp,p.1∉fp)->∀b∈fp,c5 Y pp H' b:=λ{H' pp} hn hp b hb=>by
  refine⟨hn b hb,?_,?_,?_,?_,λp hq z=>?_⟩
  ·have:=hfl b hb;rw[eL];intro z;have z':@Eq Nat b (s2.heap.objs.size+1):=z;omega
  ·rw[<-hY];intro z;rcases Zs.mp (I2.dz _ z) with e|e
   ·exact(f2 b hb).2.1 e
   ·exact(f2 b hb).2.2.1 e
  ·exact .inl (by rw[<-hY];exact hb)
  ·exact(I3.ok.uu b (by rw[<-hY];exact hb)).2
  ·rcases Zv.mp hq with q|q
   ·have:p∈([]:List (Addr×Obj)):=by rw[<-hY] at q;exact q
    exact nomatch this
   ·exact hp p q (z▸hb)
 have i7:∀{H':Hp} {s':Shared} {σ':St} {ob:Obj},Inv Y [] σ' H' s'->H' s2.heap.objs.size=none->s'.heap.get? s2.heap.objs.size=some ob->(∀v,ob.data≠.cell v)->Inv Y [(s2.heap.objs.size,ob)] σ' H' s':=λ{H' s' σ' ob} J0 hn e d=>
  J0.bG λp hp=>by
   have:p=(s2.heap.objs.size,ob):=by simpa using hp
   subst this;exact⟨e,hn,by rw[eL];exact dC,jJ,d⟩
 have gF:∀{ob:Obj} (p:Addr×Obj),p∈[(s2.heap.objs.size,ob)]->p.1∉fp:=λ{ob} p hp=>by
  have:p=(s2.heap.objs.size,ob):=by simpa using hp
  subst this;exact dfp
 have loop:codeAny (model X.prog X.w) X.A (.compLoop (.ListComp elt [⟨tg,iter,[],0⟩,⟨gJ,iter2,ifs2,0⟩] sc pos) 0 (.ref it) (.ref s2.heap.objs.size) Y.env) (RR (.ref s2.heap.objs.size) (s2.heap.objs.size+1)) {s2 with heap:=hC s2 sc h1}:=by
  refine Ji (λn s'=>∃i ys us k H',W i n ys H'/\Inv Y [] (cI own fr σ) H' s'/\tn i s'.heap/\(∀b∈fp,H' b=none)/\H' s2.heap.objs.size=none/\s'.heap.get? s2.heap.objs.size=some {cls:=.type "list",data:=.seq (List.toArray us) k}/\Vals ys us) SG ?_ (k:=m0)
   ⟨0,[],[],_,H2,w0,I3,hG,λb hb=>(f2 b hb).1,I2.aL.fresh (Zn _),jZ,.nil⟩
  rintro n s' ⟨i,ys,us,k,H',w',J0,cV,ic,hDn,hDo,rv⟩;obtain⟨lJ,eD⟩:=turn i n ys H' w';have J1:=i7 J0 hDn hDo (λv z=>nomatch z);rcases eD with⟨stop,fin⟩|⟨go,step⟩
  ·have d0:=T.done Y eP eW eK ecm i _ s' _ H' gB J1 (fpY ic gF) cV stop;rw[eA] at d0;refine wpAny_mono d0 (λr s4 ⟨hr,J4⟩=>?_) λ_ _ z=>z;subst hr;have pD:=(J4.pin (s2.heap.objs.size,_) (Zm _ Zy)).1;refine hRR _ _ s4 ?_ (aaR _) ⟨upd H' s2.heap.objs.size (.lst ys),?_,fin _ hDn,λh' tk hs=>?_⟩
   ·obtain⟨m,hn,_⟩:=J4.loc;rw[eL] at hn;exact⟨m,hn⟩
   ·rw[ak (Z0 dC),<-eL];exact J4.free
   ·subst hY;have hO:bg X.prog X.w (upd H' s2.heap.objs.size (.lst ys)) h' s2.heap.objs.size (.lst ys):=⟨lJ,us,k,rv,(hs.2 _ dC).trans pD⟩
    exact i3 I2 f2 J4 (Zn _) hDn dC hs hO tk
  ·have d0:=T.item Y eP eW eK ecm i _ s' _ H' gB J1 (fpY ic gF) cV go;rw[eA] at d0;refine wpAny_mono d0 (λr s4 ⟨u,hr,h4⟩=>?_) λ_ _ z=>z;subst hr;refine wpAny_mono h4 (λ_ s5 ⟨x,H5,J5,r5,y5,st5,jQ⟩=>?_) λ_ _ z=>z;have mw:=J5.pinned (fpY jQ gF) (T.obj _ _ st5);have s1:=i4 _ s5 _ H5 x u _ mw r5 (gk _ _ _ _ (step x H5 y5));rw[eP,eW,eA,eX] at s1;refine wpAny_mono s1 (λ_ s6 ⟨σ6,H6,J6,⟨n6,q6⟩,jz⟩=>?_) λ_ _ z=>z;have s2':=SE _ s6 σ6 H6 _ J6 q6;rw[eP,eW,eA,eX] at s2';refine wpAny_mono s2' (λv7 s7 h7=>wpAny_mono h7 (λitv s8 h8=>?_) λ_ _ z=>z) λ_ _ z=>z;obtain⟨wK,lS,Hi,J2,H8,e8,J8,T2,QO,f8,L2⟩:=h8;subst e8;have pD:=J8.pin (s2.heap.objs.size,_) (Zm _ (ZN _ Zy));have J9:Inv Y (cb fp s5.heap) σ6 H8 s8:=J8.bG λp hp=>J8.pin p (Zm _ (Zm _ hp));have sub:∀{p:Addr×Obj},p∈Y.pn++cb fp s5.heap->p∈Y.pn++([(s2.heap.objs.size,({cls:=.type "list",data:=.seq (List.toArray us) k}:Obj))]++cb fp s5.heap):=λhp=>by
    rcases Zv.mp hp with q|q
    ·exact ZN _ q
    ·exact Zm _ (Zm _ q)
   have f9:∀b∈lS,c5 Y (cb fp s5.heap) H8 b:=λb hb=>by obtain⟨a0,a1,a2,a3,a4,a5⟩:=f8 b hb;exact⟨a0,a1,a2,a3,a4,λp hp=>a5 p (sub hp)⟩
   have d9:s2.heap.objs.size∉lS:=λz=>(f8 _ z).2.2.2.2.2 (s2.heap.objs.size,_) (Zm _ (ZN _ Zy)) rfl;have fD:c5 Y (cb fp s5.heap) H8 s2.heap.objs.size:=by
    refine⟨pD.2.1,by rw[eL];exact dC,jJ,.inr mv,iF,λp hp z=>?_⟩;rcases Zv.mp hp with q|q
    ·have:p∈([]:List (Addr×Obj)):=by rw[<-hY] at q;exact q
     exact nomatch this
    ·exact dfp (z▸(rT q).1)
   have inn:=Au (elt:=elt) (iter2:=iter2) (c1:=⟨tg,iter,[],0⟩) (sc:=sc) (pos:=pos) (R:=λr u=>r=.ok .next/\∃j,j<n/\∃i ys us k H',W i j ys H'/\Inv Y [] (cI own fr σ) H' u/\tn i u.heap/\(∀b∈fp,H' b=none)/\H' s2.heap.objs.size=none/\u.heap.get? s2.heap.objs.size=some {cls:=.type "list",data:=.seq (List.toArray us) k}/\Vals ys us)
    ecm eX SF i5 i6 n6 J9 T2 QO f9 fD d9 pD.1 rv L2 (λWg Wi k1 H9 s9 hw vk SH SI SJ=>by
     obtain⟨m',hm,w9⟩:=hw;refine⟨rfl,m',hm,i+1,Wg,Wi,k1,H9,w9,?_,?_,λb hb=>?_,SH,SI,SJ⟩
     ·refine(vk.weak jz.1.symm (λj v e=>?_)).bG λp hp=>nomatch hp;by_cases hj:j<own.length
      ·exfalso;unfold cI at e;rw[ZZ (by simpa using hj),aaO] at e;split at e<;>cases e
      ·rw[jz.2 j (acP.mp hj)];exact e
     ·exact T.keep _ _ _ st5 λb hb o e=>(vk.pin (b,o) (Zm _ (bM hb e))).1
     ·obtain⟨o,e,d⟩:=T.obj _ _ st5 b hb;exact(vk.pin (b,o) (Zm _ (bM hb e))).2.1)
   rw[eP,eW,eA] at inn;refine Jg inn ?_;have z:=λQ E=>T2.self X.A 0 s8 Q E QO;rw[eP,eW] at z;exact z _ _ inn
 exact ad3 loop (T.self X.A 0 _ _ _ hG loop)
theorem MG(own:List Str)(fr:List Nat)(hc:X.calm=true)(S:dD X own fr sc)(gk:GK own.length g)(h2l:i2<own.length)(hi:PI X tg iter wi)
  (hg:∀s H fp,PG (bJ X own fr sc s H fp) tg g) (hi2:∀s H fp,PI (bJ X own fr sc s H fp) gJ iter2 wi2) (hg2:∀s H fp,PG (bJ X own fr sc s H fp) gJ (bj i2)) (ht:∀s H fp,dJ (bJ X own fr sc s H fp) ifs2 tt) (he:∀s H fp,PE (bJ X own fr sc s H fp) elt te)
  (hs:∀x,foldedSetIterable iter X.env x=pure x:=by intro _;rfl) (hf2:∀s H fp x,foldedSetIterable iter2 (bJ X own fr sc s H fp).env x=pure x:=by intro _ _ _ _;rfl):PE X (.ListComp elt [⟨tg,iter,[],0⟩,⟨gJ,iter2,ifs2,0⟩] sc pos) (SD own fr wi g i2 wi2 tt te):=by
 intro pins s σ H Q I h;rw[afz];have gG:closureFor sc X.env=pure (cj X.env sc.names []):=dh λy hy hf=>I.ok.has y.1 (by
  rcases S.sE y hy hf with q|q
  ·exact .inl q
  ·exact .inr q)
 refine wpAny_comprehension_free (use:=none) rfl hs gG S.kind (λy hy hl=>bH S.nd (by rw[<-hl];exact hy)) ?_;refine aH (hi pins s σ H _ I h) λv s1 h1=>aH h1 λitv s2 h2=>?_;obtain⟨it,fp,tn,J,H2,e,I2,T,st2,f2,L⟩:=h2;subst e;exact Fi hc S gk h2l hg hi2 hg2 ht he hf2 I2 T st2 f2 L λD C s' ⟨m,hn⟩ _ ⟨H',_,q,hi⟩=>⟨m,hn,λh' hs'=>⟨.ref D,H',hi h' s'.toks hs',rfl,q⟩⟩
end
section
theorem Fj{K:PySem.W.Frag}{tg l:Expr}{tl:TE}(hK:X.K=K)(hl:PE X l tl):PI X tg l (JR K tl):=by subst hK;exact pE hl
end
end L2
namespace cM
open PySem PySem.Spec PyProof.Rows L2 L9
abbrev wL:Stmt:=top 27 -- TQ
def jr(p:Str×Str)(j:Nat):Str:=if j=0 then p.1 else p.2
def jt(z:Str)(k:Nat)(p:Str×Str):List En:=((List.range 2).filter λj=>decide (jr p j=z)).map λj=>(k,j)
def bB(z:Str):List (Str×Str)->Nat->List En
 |[],_=>[]
 |p::ps,k=>jt z k p++bB z ps (k+1)
theorem yR(z:Str):∀(ps qs:List (Str×Str)) (k:Nat),bB z (ps++qs) k=bB z ps k++bB z qs (k+ps.length)
 |[],_,_=>rfl
 |p::ps,qs,k=>by
  show jt z k p++bB z (ps++qs) (k+1)=(jt z k p++bB z ps (k+1))++_
  rw[yR z ps qs (k+1),ZV,Zz,show k+1+ps.length=k+(ps.length+1) by omega]
theorem Fo{z:Str}{ps:List (Str×Str)}{i:Nat}{p:Str×Str}(h:ps[i]?=some p):bB z (ps.take (i+1)) 0=bB z (ps.take i) 0++jt z i p:=by
 have li:=(Zq.mp h).1;rw[ZO,h,yR];show _++(jt z (0+(ps.take i).length) p++[])=_
 rw[aaK,ZK,abK (aag li),abA]
theorem Fp(z:Str)(k:Nat)(p:Str×Str):(jt z k p).length<=2:=by unfold jt;rw[Zj];exact Zu (abb _ _) (by simp)
theorem rD(z:Str):∀(ps:List (Str×Str)) (k:Nat),(bB z ps k).length<=2*ps.length
 |[],_=>by simp[bB]
 |p::ps,k=>by
  have a:=Fp z k p;have b:=rD z ps (k+1);show(jt z k p++bB z ps (k+1)).length<=_
  rw[ZA,Zz];omega
theorem wN:e∈jt z k p ↔ e.1=k/\e.2<2/\jr p e.2=z:=by
 unfold jt;rw[ZD];constructor
 ·rintro⟨j,hj,rfl⟩;rw[aaI,aau] at hj;exact⟨rfl,hj.1,of_decide_eq_true hj.2⟩
 ·rintro⟨h1,h2,h3⟩;exact⟨e.2,aaI.mpr ⟨aau.mpr h2,decide_eq_true h3⟩,acA h1.symm rfl⟩
theorem iP:∀{ps:List (Str×Str)} {k:Nat},e∈bB z ps k ↔ e.2<2/\k<=e.1/\∃p,ps[e.1-k]?=some p/\jr p e.2=z
 |[],k=>by simp[bB]
 |p::ps,k=>by
  show e∈jt z k p++bB z ps (k+1) ↔ _
  rw[Zv,wN,iP];constructor
  ·rintro(⟨a,b,c⟩|⟨a,b,q,c,d⟩)
   ·exact⟨b,by omega,p,by rw[a,ace];rfl,c⟩
   ·exact⟨a,by omega,q,by rw[show e.1-k=e.1-(k+1)+1 by omega,acj];exact c,d⟩
  ·rintro⟨a,b,q,c,d⟩;by_cases h:e.1=k
   ·rw[h,ace] at c;obtain rfl:p=q:=by simpa using c
    exact .inl ⟨h,a,d⟩
   ·rw[show e.1-k=e.1-(k+1)+1 by omega,acj] at c;exact .inr ⟨a,by omega,q,c,d⟩
section
variable {P:Program}{w:World}{K:PySem.W.Frag}{mg:Str->Option Value}{base:Heap}{C fP fS:Addr}{fdP dZ:FuncData}
def MH(C:Addr):Sp:=λvs H Q _=>∃(x:Addr) (ns:List Str) (ps:List (Str×Str)) (z:Str),vs=[.ref x,.str z]/\bN C H x ns ps/\ps.length<=30/\∀l us H',H l=none->H' l=some (.lst (us.map V.ref))->aI H' us (bB z ps 0)->av H H'->Q (.ref l) H'
theorem SK:aQ ["web","place"] ["web","place"] (ar wL):=⟨rfl,rfl,rfl,by decide +kernel,rfl,by decide +kernel,by decide +kernel⟩
abbrev Av:List Str:=["k","tie","side","place"]
theorem OI{f:Addr}{fd:FuncData}(F:bx K "ends_at" "ends_at" wL f fd)(M:Mt K mg C fP fS fdP dZ)(hE:mg "enumerate" = none)(T:cm mg):aG P w K mg base aS 2 f fd ["web","place"] (MH C):=by
 have GT:aG P w K mg base aS 1 fS dZ ["self"] (zL C):=qS M.sF M.wc T;have yT:Av.Nodup:=by decide +kernel
 refine F.ok SK (λvs H Q E h=>?_) (λcdv A outer s H vs Q E hr h=>?_)
 ·obtain⟨x,ns,ps,z,rfl,_⟩:=h;rfl
 ·obtain⟨x,ns,ps,z,rfl,hW,aP,k⟩:=h;refine⟨_,au (aT (MG (i2:=2) ["k","tie","side"] [1] rfl (bA (osc:=(ar wL).names) (N:=["web","place"]) rfl rfl (by decide +kernel)) (gC (K:=K) (k:=2) (by decide) (by decide)) (by decide) (qX rfl hE (aa (bZ (pv 0) M.wc.cl M.sM GT hr M.sB .nil aK) af))
   (λ_ _ _=>cU rfl (aU (aE (i:=0) (show Av.Nodup from yT) rfl (Or.inl rfl)) (aU (aE (i:=1) (show Av.Nodup from yT) rfl (Or.inl rfl)) cv)))
   (λ_ _ _=>Fj (K:=K) rfl (bE (aa aD (aa aD af))))
   (λ_ _ _=>aE (i:=2) (show Av.Nodup from yT) rfl (Or.inl rfl))
   (λ_ _ _=>oG (aZ ua (bX (r:=zB K) gx (pv 1) (pv 2) (λ_ _=>rfl)) (pv 3) (bz _)))
   (λ_ _ _=>bE (aa (pv 0) (aa (pv 2) af))))),?_⟩
  try rw[ck]
  obtain⟨d2,f2,q2,r2⟩:=hW.eV "ties";refine⟨_,rfl,x,d2,f2,rfl,q2,r2,x,ns,ps,rfl,hW,λl2 us hl2 hU=>⟨l2,rfl,⟨_,aq.of ai⟩,?_⟩⟩;have s1:=aj (o:=.lst (us.map V.ref)) hl2;have g1:=ai (H:=H) (a:=l2) (o:=.lst (us.map V.ref));generalize upd H l2 (.lst (us.map V.ref))=H1 at s1 g1⊢;have Wj:=hU.same s1;have lu:us.length=ps.length:=hU.len;refine⟨λi m ys H2=>m=ps.length-i/\i<=ps.length/\∃vs,ys=vs.map V.ref/\aI H2 vs (bB z (ps.take i) 0)/\av H1 H2,⟨ps.length,rfl,ZE _,[],rfl,.nil,av.refl _⟩,?_⟩;rintro i m ys H2 ⟨rfl,hi,vs,rfl,hP,s2⟩;have lv:vs.length=(bB z (ps.take i) 0).length:=hP.len;have yI:vs.length<=60:=by
   have:=rD z (ps.take i) 0
   rw[ZK] at this;omega
  refine⟨by rw[Zj];exact Zu yI (by decide),?_⟩;by_cases h:i<ps.length
  ·have wo:∃t,us[i]?=some t:=⟨us[i]'(by omega),by simp[lu,h]⟩
   obtain⟨t,et⟩:=wo;obtain⟨p,ep,ht⟩:=Wj.get et;refine .inr ⟨⟨_,.ref t,aq.of (s2 _ _ g1),by rw[Zo,et];rfl⟩,λy H3 hy=>?_⟩;obtain⟨q,y',nq,iC,rfl,rfl⟩:=hy;obtain rfl:y'=.ref t:=by
    have:=iC _ (aq.of (s2 _ _ g1))
    rw[Zo,et] at this;exact(ZH this).symm
   have s3:=aj (o:=.tup [.int i,.ref t]) nq;have g3:=ai (H:=H2) (a:=q) (o:=.tup [.int i,.ref t]);generalize upd H2 q (.tup [.int i,.ref t])=H3 at s3 g3⊢;refine⟨q,_,rfl,aO.of g3,rfl,_,_,rfl,_,_,rfl,rfl,rfl,?_⟩;refine⟨(by show 2<=sizeLine;decide),λtp Wl=>⟨tp,rfl,⟨_,aO.of ai⟩,?_⟩⟩;have s4:=aj (o:=.tup [.int 0,.int 1]) Wl;have g4:=ai (H:=H3) (a:=tp) (o:=.tup [.int 0,.int 1]);generalize upd H3 tp (.tup [.int 0,.int 1])=H4 at s4 g4⊢;have s24:=s2.trans (s3.trans s4);refine⟨λj m ys H5=>m=2-j/\j<=2/\∃ws,ys=ws.map V.ref/\aI H5 ws (bB z (ps.take i) 0++((List.range j).filter λj=>decide (jr p j=z)).map λj=>(i,j))/\av H4 H5,⟨2,rfl,by decide,vs,rfl,by simpa using hP.same (s3.trans s4),av.refl _⟩,?_⟩;rintro j m ys H5 ⟨rfl,hj,ws,rfl,hQ,s5⟩;have lw:ws.length<=62:=by
    rw[hQ.len,ZA,Zj,<-lv]
    have:=abb (λj=>decide (jr p j=z)) (List.range j)
    rw[aaG] at this;omega
   refine⟨by rw[Zj];exact Zu lw (by decide),?_⟩;have s05:=s24.trans s5;by_cases Yt:j<2
   ·have ej:([V.int 0,V.int 1]:List V)[j]?=some (.int (j:Nat)):=by rcases(show j=0\/j=1 by omega) with rfl|rfl<;>rfl
    refine .inr ⟨⟨_,_,aO.of (s5 _ _ g4),ej⟩,λy H6 hy=>?_⟩;obtain⟨rfl,hy⟩:=hy;obtain rfl:y=.int (j:Nat):=by
     have:=hy _ (aO.of (s5 _ _ g4))
     rw[ej] at this;exact(ZH this).symm
    have ix:iV [V.str p.1,V.str p.2] ((j:Nat):Int)=some (.str (jr p j)):=by rcases(show j=0\/j=1 by omega) with rfl|rfl<;>rfl
    have wJ:(List.range (j+1)).filter (λj=>decide (jr p j=z))=(List.range j).filter (λj=>decide (jr p j=z))++(if jr p j=z then [j] else []):=by rw[aft,acb];congr 1;by_cases c:jr p j=z<;>simp[c]
    refine⟨_,rfl,_,rfl,t,_,_,_,rfl,rfl,aO.of (s05 _ _ ht),ix,_,rfl,rfl,_,rfl,?_⟩;by_cases c:jr p j=z
    ·rw[decide_eq_true (show V.str (jr p j)=V.str z by rw[c])];rw[if_pos c] at wJ;refine b6 ⟨_,rfl,_,rfl,(by show 2<=sizeLine;decide),λo no=>⟨2-(j+1),by omega,rfl,by omega,ws++[o],by simp,?_,s5.trans (aj no)⟩⟩;rw[wJ,ZU,<-ZV];exact aI.snoc (hQ.same (aj no)) ai
    ·rw[decide_eq_false (show ¬ V.str (jr p j)=V.str z from λe=>c (by injection e))];rw[if_neg c,aaK] at wJ;exact br ⟨2-(j+1),by omega,rfl,by omega,ws,rfl,by rw[wJ];exact hQ,s5⟩
   ·obtain rfl:j=2:=by omega
    refine .inl ⟨⟨_,aO.of (s5 _ _ g4),by decide⟩,ps.length-(i+1),by omega,rfl,h,ws,rfl,?_,s05⟩;rw[Fo ep];exact hQ
  ·have ei:i=ps.length:=by omega
   subst ei;rw[Z6] at hP;refine .inl ⟨⟨_,aq.of (s2 _ _ g1),by rw[Zj,lu];exact Zn _⟩,λD hD=>?_⟩;have s02:=s1.trans s2;exact k D vs _ (s02.free hD) ai (hP.same (aj hD)) (s02.trans (aj hD))
end
abbrev yU:Stmt:=top 28 -- Wm
abbrev rE:Stmt:=top 29 -- NM
abbrev rF:Stmt:=top 30 -- QP
structure Mn(K:PySem.W.Frag)(C fM:Addr)(fdM:FuncData):Prop where
 mF:bx K "many" "Web.many" ug fM fdM
 mM:Meth K C "many" fM
 mB:Binds K fdM ["self"] []
theorem oX(z:Str):∀(ps:List (Str×Str)) (k:Nat),(bB z ps k).Pairwise eO
 |[],_=>.nil
 |p::ps,k=>by
  refine aeq.mpr ⟨?_,oX z ps (k+1),λa ha b hb=>?_⟩
  ·exact aa0.mpr ((ad6.filter _).imp λh=>.inr ⟨rfl,h⟩)
  ·have a1:=(wN.mp ha).1;have b1:=(iP.mp hb).2.1;exact .inl (by omega)
def ku(z:Str)(ps:List (Str×Str))(r:List En):Prop:=r.Nodup/\∀e,e∈r ↔ e∈bB z ps 0
theorem ku.len(h:ku z ps r):r.length<=2*ps.length:=by
 have nd:(bB z ps 0).Nodup:=(oX z ps 0).imp λ{a b} h e=>by subst e;exact ql h
 have p:r.Perm (bB z ps 0):=(ab3 h.1 nd).mpr h.2;rw[p.length_eq];exact rD z ps 0
theorem ku.sort(h:ku z ps r)(p:rs.Perm r)(w:rs.Pairwise λa b=>¬ eI b a):rs=bB z ps 0:=by
 have nd:=p.nodup_iff.mpr h.1;refine rn (λa b=>ip) (R:=eO) ?_ (oX z ps 0) λe=>p.mem_iff.trans (h.2 e);refine(agr w nd).imp λ{a b} ⟨q,n⟩=>?_;rcases nh a b with t|t|t
 ·exact t
 ·exact absurd t n
 ·exact absurd t q
theorem ku.end(h:ku z ps r)(he:e∈r):e.1<ps.length/\e.2<2:=by obtain⟨a,_,p,b,_⟩:=iP.mp ((h.2 e).mp he);exact⟨(Zq.mp b).1,a⟩
theorem MI{K:PySem.W.Frag}{H:Hp}{p q:Addr}{us vs:List Addr}{rs:List En}(hp:aq K H p (us.map V.ref))(hq:aq K H q (vs.map V.ref))(hr:aI H us rs)(hs:aI H vs rs):Bm K H 1 (.ref p) (.ref q):=by refine⟨p,q,_,_,rfl,rfl,.inl ⟨hp,hq⟩,by rw[Zj,Zj,hr.len,hs.len],λi a b ha hb=>?_⟩;rw[Zo] at ha hb;obtain⟨x,ex,rfl⟩:=Zp.mp ha;obtain⟨y,ey,rfl⟩:=Zp.mp hb;obtain⟨e,e1,hx⟩:=hr.get ex;obtain⟨e',e2,hy⟩:=hs.get ey;obtain rfl:e=e':=ZH (e1.symm.trans e2);refine .inr ⟨x,y,_,_,rfl,rfl,.inr ⟨aO.of hx,aO.of hy⟩,rfl,λj c d hc hd=>?_⟩;rw[hc] at hd;cases hd;have m:c∈pV e:=Zr hc;simp only[pV,Zs,aay,or_false] at m;rcases m with rfl|rfl<;>exact⟨rfl,rfl⟩
section
variable {P:Program}{w:World}{K:PySem.W.Frag}{mg:Str->Option Value}{base:Heap}{C fP fS fM fW fE fA fI:Addr}{fdP dZ fdM wO yV lL tP:FuncData}
def MJ(C:Addr):Sp:=λvs H Q _=>∃(x t:Addr) (ns:List Str) (ps:List (Str×Str)) (e:En),vs=[.ref x,.ref t]/\bN C H x ns ps/\H t=some (.tup (pV e))/\e.1<ps.length/\e.2<2/\Q (.bl true) H
theorem Fq:aQ ["web","thing","k","side"] ["web","thing"] (ar yU):=⟨rfl,rfl,rfl,by decide +kernel,rfl,by decide +kernel,by decide +kernel⟩
theorem OJ(F:bx K "is_end" "is_end" yU f fd)(wc:WC K mg C)(MM:Mn K C fM fdM)(DW:Df K mg "is_whole" ja ["thing"] fW wO)(T:cm mg):aG P w K mg base aS 2 f fd ["web","thing"] (MJ C):=by
 have GM:aG P w K mg base aS 1 fM fdM ["self"] (zM C):=qT MM.mF wc T;have GW:aG P w K mg base aS 1 fW wO ["thing"] (xW (K:=K)):=Eb DW.fn T;refine F.ok Fq (λvs H Q E h=>?_) (λcdv A outer s H vs Q E hr h=>?_)
 ·obtain⟨x,t,ns,ps,e,rfl,_⟩:=h;rfl
 ·obtain⟨x,t,ns,ps,e,rfl,hW,ht,e1,e2,k⟩:=h;refine⟨_,ao (bQ (PW.pt (fg (cq (di (aA (cp (T:="tuple")) (by rfl) T.e7 aaW (aa (pv 1) (aa (dR (v:=.ty "tuple") rfl T.tuple aan rfl) af))) (λ_=>rfl)))
    (dM (aZ kI (aA aN (by rfl) T.len ZW (aa (pv 1) af)) aD (bz _))))) (au (aT dX)) bu)
   (ao (pC (pv 1) (cU rfl (aU (aE (i:=2) Fq.nd rfl (Or.inl rfl)) (aU (aE (i:=3) Fq.nd rfl (Or.inl rfl)) cv))))
   (au (aT (iT (aJ GW hr rfl DW.bK DW.fn.kp DW.b .nil aK (aa (pv 2) af)) (iT (aJ GW hr rfl DW.bK DW.fn.kp DW.b .nil aK (aa (pv 3) af))
    (iT (oz kJ pH aD (pv 2) (bZ (pv 0) wc.cl MM.mM GM hr MM.mB .nil aK)) (lV (oz kJ kJ aD (pv 3) aD)))))))),?_⟩
  try rw[ck]
  obtain⟨d2,f2,q2,r2⟩:=hW.eV "many";refine⟨_,rfl,_,_,true,rfl,.tup ht,rfl,_,rfl,?_⟩;refine br ⟨_,rfl,t,_,rfl,.inr (aO.of ht),rfl,_,rfl,?_⟩;refine br ⟨_,rfl,t,_,rfl,aO.of ht,rfl,_,_,rfl,_,_,rfl,rfl,?_⟩;refine⟨_,rfl,_,_,true,false,rfl,.int _,rfl,rfl,_,rfl,?_⟩;refine b6 ⟨_,rfl,_,_,true,false,rfl,.int _,rfl,rfl,_,rfl,?_⟩;refine b6 ⟨_,rfl,_,_,rfl,rfl,_,rfl,?_⟩;rw[decide_eq_true (show(0:Int)<=((e.1:Nat):Int) by omega)];refine b6 ⟨_,rfl,x,d2,f2,rfl,q2,r2,x,ns,ps,rfl,hW,_,_,rfl,rfl,_,rfl,?_⟩;rw[decide_eq_true (show((e.1:Nat):Int)<((ps.length:Nat):Int) by omega)];refine b6 ⟨_,rfl,_,_,rfl,rfl,_,rfl,?_⟩;rw[decide_eq_true (show(0:Int)<=((e.2:Nat):Int) by omega)];refine b6 ⟨_,_,rfl,rfl,?_⟩;show Q (.bl (decide (((e.2:Nat):Int)<=1))) H
  rw[decide_eq_true (show((e.2:Nat):Int)<=1 by omega)];exact k
def Hj(C:Addr):Sp:=λvs H Q _=>∃(x t:Addr) (ns:List Str) (ps:List (Str×Str)) (z:Str) (us:List Addr) (r:List En),vs=[.ref x,.str z,.ref t]/\bN C H x ns ps/\ps.length<=30/\H t=some (.lst (us.map V.ref))/\aI H us r/\ku z ps r/\∀H',av H H'->Q (.bl true) H'
theorem OK:aQ ["web","place","things"] ["web","place","things"] (ar rE):=⟨rfl,rfl,rfl,by decide +kernel,rfl,by decide +kernel,by decide +kernel⟩
theorem MK(F:bx K "are_ends_at" "are_ends_at" rE f fd)(M:Mt K mg C fP fS fdP dZ)(MM:Mn K C fM fdM)(DW:Df K mg "is_whole" ja ["thing"] fW wO)(DE:Df K mg "ends_at" wL ["web","place"] fE yV)(DI:Df K mg "is_end" yU ["web","thing"] fI tP)(hE:mg "enumerate" = none)(T:cm mg):aG P w K mg base aS 3 f fd ["web","place","things"] (Hj C):=by
 have GM:aG P w K mg base aS 1 fM fdM ["self"] (zM C):=qT MM.mF M.wc T;have GE:aG P w K mg base aS 2 fE yV ["web","place"] (MH C):=OI DE.fn M hE T;have GI:aG P w K mg base aS 2 fI tP ["web","thing"] (MJ C):=OJ DI.fn M.wc MM DW T;refine F.ok OK (λvs H Q E h=>?_) (λcdv A outer s H vs Q E hr h=>?_)
 ·obtain⟨x,t,ns,ps,z,us,r,rfl,_⟩:=h;rfl
 ·obtain⟨x,t,ns,ps,z,us,r,rfl,hW,aP,ht,hP,hA,k⟩:=h;have h1:=hr.mono (j:=1) (by decide);refine⟨_,ao (bQ (PW.pt (fg (cq (di (aA (cp (T:="list")) (by rfl) T.e7 aaW (aa (pv 2) (aa (dR (v:=.ty "list") rfl T.list aaw rfl) af))) (λ_=>rfl)))
    (dM (aZ ub (aA aN (by rfl) T.len ZW (aa (pv 2) af)) (bc lY aD (bZ (pv 0) M.wc.cl MM.mM GM h1 MM.mB .nil aK)) (bz _))))) (au (aT dX)) bu)
   (au (aT (iT (aA (i8 rfl) (by rfl) T.all aep (aa (dw ["thing"] [0] rfl (bA (osc:=(ar rE).names) (N:=["web","place","things"]) rfl rfl (by decide +kernel)) (bP (by decide)) (bo (pv 2)) (λ_ _ _=>aE (i:=0) (show(["thing","web"]:List Str).Nodup by decide +kernel) rfl (Or.inl rfl)) (λ_ _ _=>bp)
     (λ_ _ _=>aJ GI hr rfl DI.bK DI.fn.kp DI.b .nil aK (aa (pv 1) (aa (pv 0) af)))) af))
    (lV (jS (Ea 1 (low 1 hr)) (aA qr (by rfl) T.sorted abN (aa (pv 2) af)) (aJ GE hr rfl DE.bK DE.fn.kp DE.b .nil aK (aa (pv 0) (aa (pv 1) af))) (bz _)))))),?_⟩
  try rw[ck]
  obtain⟨d2,f2,q2,r2⟩:=hW.eV "many";have lu:us.length=r.length:=hP.len;have lr:=hA.len;refine⟨_,rfl,_,_,true,rfl,.lst ht,rfl,_,rfl,?_⟩;refine br ⟨_,rfl,t,_,rfl,.inl (aq.of ht),_,rfl,x,d2,f2,rfl,q2,r2,x,ns,ps,rfl,hW,?_⟩;refine⟨_,_,rfl,rfl,.inl ⟨by decide,by decide⟩,_,_,rfl,rfl,_,rfl,?_⟩;rw[decide_eq_false (show ¬ 2*((ps.length:Nat):Int)<(((us.map V.ref).length:Nat):Int) by rw[Zj];omega)];refine br ?_;refine⟨_,rfl,t,rfl,⟨_,aq.of ht⟩,cQ (K:=K) (xs:=us.map V.ref) (λi ys H2=>av H H2/\ys=List.replicate i (V.bl true)) ⟨av.refl _,rfl⟩ ?_ ?_ ?_ ?_⟩
  ·rintro i ys H2 hi ⟨_,rfl⟩;rw[aa'];rw[Zj] at hi;exact Zu (show i<=60 by omega) (by decide)
  ·rintro i ys H2 _ ⟨s2,_⟩;exact aq.of (s2 _ _ ht)
  ·rintro i v ys H2 R hx ⟨s2,rfl⟩ kR;rw[Zo] at hx;obtain⟨a,ea,rfl⟩:=Zp.mp hx;obtain⟨e,ee,ha⟩:=hP.get ea;obtain⟨i1,i2⟩:=hA.end (Zr ee);simp only[cD,bj,Z7];exact⟨_,rfl,_,rfl,x,a,ns,ps,e,rfl,hW.same s2,s2 _ _ ha,i1,i2,kR _ _ ⟨s2,by rw[abY]⟩⟩
  ·rintro ys H2 ⟨s2,rfl⟩ D hD;have e:List.replicate (us.map V.ref).length (V.bl true)=(List.replicate (us.map V.ref).length true).map V.bl:=by simp
   refine⟨D,List.replicate (us.map V.ref).length true,rfl,(by rw[e];exact aq.of ai),_,rfl,?_⟩;rw[show(List.replicate (us.map V.ref).length true).all id=true by simp];have s3:=s2.trans (aj (o:=.lst (List.replicate (us.map V.ref).length (V.bl true))) hD);generalize upd H2 D (.lst (List.replicate (us.map V.ref).length (V.bl true)))=H3 at s3⊢;refine b6 ⟨_,rfl,t,us,r,rfl,aq.of (s3 _ _ ht),hP.same s3,by omega,λl vs rs nl hv pm pw=>?_⟩;have s4:=aj (o:=.lst (vs.map V.ref)) nl;have g4:=ai (H:=H3) (a:=l) (o:=.lst (vs.map V.ref));generalize upd H3 l (.lst (vs.map V.ref))=H4 at s4 g4⊢;have s04:=s3.trans s4;refine⟨_,rfl,_,rfl,x,ns,ps,z,rfl,hW.same s04,aP,λl5 ws H5 tQ g5 h5 s5=>?_⟩;have e5:=hA.sort pm pw;rw[e5] at hv;exact⟨MI (aq.of (s5 _ _ g4)) (aq.of g5) ((hv.same s4).same s5) h5,k _ (s04.trans s5)⟩
def dj(ps:List (Str×Str)):List Str->List (List En)->Prop:=Paired λz r=>ku z ps r
theorem dj.get:∀{zs:List Str} {rows:List (List En)} {i:Nat} {z:Str} {r:List En},dj ps zs rows->zs[i]?=some z->rows[i]?=some r->ku z ps r
 |_,_,0,_,_,.cons h _,e1,e2=>by cases e1;cases e2;exact h
 |_,_,i+1,_,_,.cons _ t,e1,e2=>dj.get (i:=i) t (by simpa using e1) (by simpa using e2)
def Hk(C:Addr):Sp:=λvs H Q _=>∃(x t:Addr) (ns:List Str) (ps:List (Str×Str)) (as:List Addr) (rows:List (List En)),vs=[.ref x,.ref t]/\bN C H x ns ps/\GoodW ns ps/\H t=some (.lst (as.map V.ref))/\bC H as rows/\dj ps (aY ns) rows/\∀H',av H H'->Q (.bl true) H'
theorem OL:aQ ["web","things"] ["web","things"] (ar rF):=⟨rfl,rfl,rfl,by decide +kernel,rfl,by decide +kernel,by decide +kernel⟩
theorem ML(F:bx K "are_turns" "are_turns" rF f fd)(M:Mt K mg C fP fS fdP dZ)(MM:Mn K C fM fdM)(DW:Df K mg "is_whole" ja ["thing"] fW wO)(DE:Df K mg "ends_at" wL ["web","place"] fE yV)(DI:Df K mg "is_end" yU ["web","thing"] fI tP)(DA:Df K mg "are_ends_at" rE ["web","place","things"] fA lL)(hE:mg "enumerate" = none)(hz:mg "zip" = none)(T:cm mg):aG P w K mg base aS 4 f fd ["web","things"] (Hk C):=by
 have GP:aG P w K mg base aS 1 fP fdP ["self"] (u7 C):=jC M.pF M.wc T;have GA:aG P w K mg base aS 3 fA lL ["web","place","things"] (Hj C):=MK DA.fn M MM DW DE DI hE T;have yT:(["place","thing","web"]:List Str).Nodup:=by decide +kernel
 refine F.ok OL (λvs H Q E h=>?_) (λcdv A outer s H vs Q E hr h=>?_)
 ·obtain⟨x,t,ns,ps,as,rows,rfl,_⟩:=h;rfl
 ·obtain⟨x,t,ns,ps,as,rows,rfl,hW,g,ht,hR,hA,k⟩:=h;have h1:=hr.mono (j:=1) (by decide);refine⟨_,ao (bQ (PW.pt (fg (cq (di (aA (cp (T:="list")) (by rfl) T.e7 aaW (aa (pv 1) (aa (dR (v:=.ty "list") rfl T.list aaw rfl) af))) (λ_=>rfl)))
    (dM (aZ kI (aA aN (by rfl) T.len ZW (aa (pv 1) af)) (aA aN (by rfl) T.len ZW (aa (bZ (pv 0) M.wc.cl M.pM GP h1 M.pB .nil aK) af)) (bz _))))) (au (aT dX)) bu)
   (au (aT (aA (i8 rfl) (by rfl) T.all aep (aa (dw ["place","thing"] [0] rfl (bA (osc:=(ar rF).names) (N:=["web","things"]) rfl rfl (by decide +kernel)) (gC (K:=K) (k:=2) (by decide) (by decide)) (Cq rfl hz (aa (bZ (pv 0) M.wc.cl M.pM GP h1 M.pB .nil aK) (aa (pv 1) af)))
     (λ_ _ _=>cU rfl (aU (aE (i:=0) (show(["place","thing","web"]:List Str).Nodup from yT) rfl (Or.inl rfl)) (aU (aE (i:=1) (show(["place","thing","web"]:List Str).Nodup from yT) rfl (Or.inl rfl)) cv))) (λ_ _ _=>bp)
     (λ_ _ _=>aJ GA hr rfl DA.bK DA.fn.kp DA.b .nil aK (aa (pv 2) (aa (pv 0) (aa (pv 1) af))))) af)))),?_⟩
  try rw[ck]
  obtain⟨d2,f2,q2,r2⟩:=hW.eV "places";have la:as.length=(aY ns).length:=(ZG hR).trans (ZG hA).symm;have l12:(aY ns).length<=12:=by rw[gg];exact g.good.aP
  refine⟨_,rfl,_,_,true,rfl,.lst ht,rfl,_,rfl,?_⟩;refine br ⟨_,rfl,t,_,rfl,.inl (aq.of ht),_,rfl,x,d2,f2,rfl,q2,r2,x,ns,ps,rfl,hW,λl1 C2=>?_⟩;have s1:=aj (o:=.lst ((aY ns).map V.str)) C2;have g1:=ai (H:=H) (a:=l1) (o:=.lst ((aY ns).map V.str));generalize upd H l1 (.lst ((aY ns).map V.str))=H1 at s1 g1⊢;refine⟨l1,_,rfl,.inl (aq.of g1),rfl,_,rfl,?_⟩;rw[decide_eq_true (show V.int (((as.map V.ref).length:Nat):Int)=V.int ((((aY ns).map V.str).length:Nat):Int) by rw[Zj,Zj,la])];refine br ?_;have W1:=hW.same s1;obtain⟨d3,f3,q3,r3⟩:=W1.eV "places";refine⟨_,rfl,x,d3,f3,rfl,q3,r3,x,ns,ps,rfl,W1,λl2 yK=>?_⟩;have s2:=s1.trans (aj (o:=.lst ((aY ns).map V.str)) yK);have g2:=ai (H:=H1) (a:=l2) (o:=.lst ((aY ns).map V.str));generalize upd H1 l2 (.lst ((aY ns).map V.str))=H2 at s2 g2⊢;refine⟨_,rfl,l2,t,rfl,⟨_,aq.of g2⟩,⟨_,aq.of (s2 _ _ ht)⟩,LD (K:=K) (xs:=(aY ns).map V.str) (zs:=as.map V.ref) (by rw[Zj,Zj,la]) (λi ys H3=>av H2 H3/\ys=List.replicate i (V.bl true)) ⟨av.refl _,rfl⟩ ?_ ?_ ?_ ?_⟩
  ·rintro i ys H3 hi ⟨_,rfl⟩;rw[aa'];rw[Zj] at hi;exact Zu (show i<=12 by omega) (by decide)
  ·rintro i ys H3 _ ⟨s3,_⟩;exact⟨aq.of (s3 _ _ g2),aq.of (s3 _ _ (s2 _ _ ht))⟩
  ·rintro i u v ys H3 q R hu hv ⟨s3,rfl⟩ nq kR;rw[Zo] at hu hv;obtain⟨z,ez,rfl⟩:=Zp.mp hu;obtain⟨a,ea,rfl⟩:=Zp.mp hv;obtain⟨r,us,er,ha,hp⟩:=hR.get ea;have s4:=aj (o:=.tup [.str z,.ref a]) nq;have g4:=ai (H:=H3) (a:=q) (o:=.tup [.str z,.ref a]);generalize upd H3 q (.tup [.str z,.ref a])=H4 at s4 g4⊢;have s04:=s2.trans (s3.trans s4);refine⟨q,_,rfl,aO.of g4,rfl,_,_,rfl,_,_,rfl,rfl,?_⟩;simp only[cD,Z7];exact⟨_,rfl,_,rfl,_,rfl,x,a,ns,ps,z,us,r,rfl,hW.same s04,g.aP,s04 _ _ ha,hp.same s04,hA.get ez er,λH5 s5=>kR _ _ ⟨s3.trans (s4.trans s5),by rw[abY]⟩⟩
  ·rintro ys H3 ⟨s3,rfl⟩ D hD;have e:List.replicate ((aY ns).map V.str).length (V.bl true)=(List.replicate ((aY ns).map V.str).length true).map V.bl:=by simp
   refine⟨D,List.replicate ((aY ns).map V.str).length true,rfl,(by rw[e];exact aq.of ai),?_⟩;rw[show(List.replicate ((aY ns).map V.str).length true).all id=true by simp];exact k _ (s2.trans (s3.trans (aj hD)))
end
abbrev C3:Stmt:=top 35 -- OM
abbrev wQ:Stmt:=inClass (top 36) 0
abbrev Aw:Stmt:=inClass (top 36) 1
abbrev wR:Stmt:=inClass (top 36) 2
abbrev Ax:Stmt:=inClass (top 36) 3
structure FC(K:PySem.W.Frag)(mg:Str->Option Value)(D:Addr):Prop where
 cl:l6 K D
 nW:d8 K D "kept_web"
 nT:d8 K D "kept_turns"
 nF:d8 K D "kept_faces"
 Ge:mg "Flat" = some (.ref D)
def ff(x kt kf:Addr):List (Str×V):=[("kept_web",.ref x),("kept_turns",.ref kt),("kept_faces",.ref kf)]
theorem SM(x kt kf:Addr):(ff x kt kf).lookup ("kept_web" : Str)=some (V.ref x):=rfl
theorem SN(x kt kf:Addr):(ff x kt kf).lookup ("kept_turns" : Str)=some (V.ref kt):=by
 show List.lookup _ (_::_)=_
 rw[Z1,show(("kept_turns" : Str)=="kept_web")=false by decide +kernel];rfl
theorem SO(x kt kf:Addr):(ff x kt kf).lookup ("kept_faces" : Str)=some (V.ref kf):=by
 show List.lookup _ (_::_)=_
 rw[Z1,show(("kept_faces" : Str)=="kept_web")=false by decide +kernel];show List.lookup _ (_::_)=_
 rw[Z1,show(("kept_faces" : Str)=="kept_turns")=false by decide +kernel];rfl
theorem ON(x kt kf:Addr)(m:Str)(h1:(m==("kept_web" : Str))=false)(h2:(m==("kept_turns" : Str))=false)(h3:(m==("kept_faces" : Str))=false):(ff x kt kf).lookup m=none:=by
 show List.lookup _ (_::_)=_
 rw[Z1,h1];show List.lookup _ (_::_)=_
 rw[Z1,h2];show List.lookup _ (_::_)=_
 rw[Z1,h3];rfl
def MN(K:PySem.W.Frag):List V->Hp->VK->Prop:=λxs H Q=>∃p ys,xs=[.ref p]/\(aq K H p ys\/aO K H p ys)/\∀l,H l=none->Q (.ref l) (upd H l (.lst ys))
def cS(D:Addr)(H:Hp)(y x:Addr)(rows fs:List (List En)):Prop:=
 ∃dy kt kf as ts,H y=some (.ins D dy (ff x kt kf))/\H kt=some (.tup (as.map V.ref))/\dI H as rows/\H kf=some (.tup (ts.map V.ref))/\dI H ts fs
theorem cS.same(h:cS D H y x rows fs)(s:av H H'):cS D H' y x rows fs:=
 let ⟨dy,kt,kf,as,ts,h1,h2,h3,h4,h5⟩:=h
 ⟨dy,kt,kf,as,ts,s _ _ h1,s _ _ h2,h3.same s,s _ _ h4,h5.same s⟩
theorem cS.eV(h:cS D H y x rows fs)(m:Str)(e1:(m==("kept_web" : Str))=false:=by decide +kernel)(e2:(m==("kept_turns" : Str))=false:=by decide +kernel)(e3:(m==("kept_faces" : Str))=false:=by decide +kernel):∃dx fs,H y=some (.ins D dx fs)/\fs.lookup m=none:=by obtain⟨dy,kt,kf,as,ts,q,_⟩:=h;exact⟨dy,_,q,ON x kt kf m e1 e2 e3⟩
section
variable {P:Program}{w:World}{K:PySem.W.Frag}{mg:Str->Option Value}{base:Heap}{C D fP fS fM fW fE fA fI:Addr}{fdP dZ fdM wO yV lL tP:FuncData}
def Hl(D:Addr):Sp:=λvs H Q _=>∃(y x:Addr) (rows fs:List (List En)),vs=[.ref y]/\cS D H y x rows fs/\Q (.ref x) H
theorem OO:aQ ["self"] ["self"] (ar Aw):=⟨rfl,rfl,rfl,by decide +kernel,rfl,by decide +kernel,by decide +kernel⟩
theorem MO(F:bx K "web" "Flat.web" Aw f fd)(X:FC K mg D):aG P w K mg base aS 1 f fd ["self"] (Hl D):=by
 refine F.ok OO (λvs H Q E h=>?_) (λcdv A outer s H vs Q E hr h=>?_)
 ·obtain⟨y,x,rows,fs,rfl,_⟩:=h;rfl
 ·obtain⟨y,x,rows,fs,rfl,⟨dy,kt,kf,as,ts,h1,_⟩,k⟩:=h;refine⟨_,au (aT (jT (pv 0) rfl)),?_⟩;try rw[ck]
  exact⟨_,rfl,y,D,dy,_,_,rfl,h1,X.cl,X.nW,SM x kt kf,k⟩
def Hm(D:Addr):Sp:=λvs H Q _=>∃(y x:Addr) (rows fs:List (List En)),vs=[.ref y]/\cS D H y x rows fs/\∀l ts,H l=none->dI H ts fs->Q (.ref l) (upd H l (.lst (ts.map V.ref)))
theorem OP:aQ ["self"] ["self"] (ar Ax):=⟨rfl,rfl,rfl,by decide +kernel,rfl,by decide +kernel,by decide +kernel⟩
theorem MP(F:bx K "faces" "Flat.faces" Ax f fd)(X:FC K mg D)(T:cm mg):aG P w K mg base aS 1 f fd ["self"] (Hm D):=by
 refine F.ok OP (λvs H Q E h=>?_) (λcdv A outer s H vs Q E hr h=>?_)
 ·obtain⟨y,x,rows,fs,rfl,_⟩:=h;rfl
 ·obtain⟨y,x,rows,fs,rfl,⟨dy,kt,kf,as,ts,h1,h2,h3,h4,h5⟩,k⟩:=h;refine⟨_,au (aT (bR dB (by rfl) T.list aaw (aa (jT (pv 0) rfl) af))),?_⟩;try rw[ck]
  exact⟨_,rfl,y,D,dy,_,_,rfl,h1,X.cl,X.nF,SO x kt kf,kf,_,rfl,.inr (aO.of h4),λl nl=>k l ts nl h5⟩
def Hn(D:Addr):Sp:=λvs H Q _=>∃(y x:Addr) (rows fs:List (List En)),vs=[.ref y]/\cS D H y x rows fs/\rows.length<=12/\∀l as H',H l=none->(∀a∈as,H a=none)->l∉as->as.Nodup->H' l=some (.lst (as.map V.ref))->bC H' as rows->av H H'->Q (.ref l) H'
theorem OQ:aQ ["self"] ["self"] (ar wR):=⟨rfl,rfl,rfl,by decide +kernel,rfl,by decide +kernel,by decide +kernel⟩
theorem MQ(F:bx K "turns" "Flat.turns" wR f fd)(X:FC K mg D)(T:cm mg):aG P w K mg base aS 1 f fd ["self"] (Hn D):=by
 refine F.ok OQ (λvs H Q E h=>?_) (λcdv A outer s H vs Q E hr h=>?_)
 ·obtain⟨y,x,rows,fs,rfl,_⟩:=h;rfl
 ·obtain⟨y,x,rows,fs,rfl,⟨dy,kt,kf,as,ts,h1,h2,h3,h4,h5⟩,aP,k⟩:=h;refine⟨_,au (aT (dw ["ends"] [] rfl (bA (osc:=(ar wR).names) (N:=["self"]) rfl rfl (by decide +kernel)) (bP (by decide)) (pE (jT (pv 0) rfl)) (λ_ _ _=>aE (i:=0) (show(["ends"]:List Str).Nodup by decide +kernel) rfl (Or.inl rfl)) (λ_ _ _=>bp)
   (λ_ _ _=>bR (r:=MN K) dB (by rfl) T.list aaw (aa (pv 0) af)))),?_⟩
  try rw[ck]
  have la:as.length=rows.length:=ZG h3;refine⟨_,rfl,y,D,dy,_,_,rfl,h1,X.cl,X.nT,SN x kt kf,kt,rfl,⟨_,aO.of h2⟩,?_⟩;refine Kv (K:=K) (xs:=as.map V.ref) (λi ys H2=>av H H2/\∃qs,ys=qs.map V.ref/\(∀a∈qs,H a=none)/\qs.Nodup/\bC H2 qs (rows.take i)) ⟨av.refl _,[],rfl,by simp,.nil,.nil⟩ ?_ ?_ ?_ ?_
  ·rintro i ys H2 hi ⟨_,qs,rfl,_,_,hq⟩
   have:=ZG hq
   rw[ZK] at this;rw[Zj,this];exact Zu (show _<=12 by omega) (by decide)
  ·rintro i ys H2 _ ⟨s2,_⟩;exact aO.of (s2 _ _ h2)
  ·rintro i v ys H2 R hv ⟨s2,qs,rfl,fr,nd,hq⟩ kR;rw[Zo] at hv;obtain⟨a,ea,rfl⟩:=Zp.mp hv;obtain⟨r,us,er,ha,hp⟩:=h3.get ea;simp only[cD,bj,Z7];refine⟨_,rfl,a,_,rfl,.inr (aO.of (s2 _ _ ha)),λb nb=>kR _ _ ⟨s2.trans (aj nb),qs++[b],by simp,?_,?_,?_⟩⟩
   ·intro c hc;rcases Zv.mp hc with hc|hc
    ·exact fr c hc
    ·rw[ZJ.mp hc];exact s2.free nb
   ·refine ZP.mpr ⟨nd,by simp,λc hc c' dA e=>?_⟩;rw[ZJ.mp dA] at e;subst e;obtain⟨j,ej⟩:=aaz.mp hc;obtain⟨r',Wn,_,hb,_⟩:=hq.get ej;rw[hb] at nb;cases nb
   ·rw[ZO,er];exact aa2 (hq.same (aj nb)) ⟨us,ai,(hp.same s2).same (aj nb)⟩
  ·rintro ys H2 ⟨s2,qs,rfl,fr,nd,hq⟩ l nl;rw[Zj,la,Z6] at hq;refine k l qs _ (s2.free nl) fr (λm=>?_) nd ai (hq.same (aj nl)) (s2.trans (aj nl));obtain⟨j,ej⟩:=aaz.mp m;obtain⟨r',Wn,_,hb,_⟩:=hq.get ej;rw[hb] at nl;cases nl
def MR(C:Addr):Sp:=λvs H Q _=>∃(x l:Addr) (ns:List Str) (ps:List (Str×Str)) (zs:List V),vs=[.ref x,.ref l]/\bN C H x ns ps/\H l=some (.lst zs)/\zs.length<=12/\zs.length+ns.length=ps.length+2/\∀H',av H H'->Q .a8 H'
theorem SQ:aQ ["web","faces"] ["web","faces"] (ar C3):=⟨rfl,rfl,rfl,by decide +kernel,rfl,by decide +kernel,by decide +kernel⟩
theorem OR(F:bx K "check_sums" "check_sums" C3 f fd)(M:Mt K mg C fP fS fdP dZ)(MM:Mn K C fM fdM)(hF:∃t,mg "FACE_NAMES" = some (.str "abcdefghijkl" t))(T:cm mg):aG P w K mg base aS 2 f fd ["web","faces"] (MR C):=by
 have GM:aG P w K mg base aS 1 fM fdM ["self"] (zM C):=qT MM.mF M.wc T;have GP:aG P w K mg base aS 1 fP fdP ["self"] (u7 C):=jC M.pF M.wc T;obtain⟨tF,hF⟩:=hF;refine F.ok SQ (λvs H Q E h=>?_) (λcdv A outer s H vs Q E hr h=>?_)
 ·obtain⟨x,l,ns,ps,zs,rfl,_⟩:=h;rfl
 ·obtain⟨x,l,ns,ps,zs,rfl,hW,hl,aP,sum,k⟩:=h;refine⟨_,au (bQ (PW.pt (fg (aZ ub (aA aN (by rfl) T.len ZW (aa (pv 1) af)) (aA mf (by rfl) T.len ZW (aa (mW (v:=.str "abcdefghijkl") rfl hF ⟨_,rfl⟩) af)) (bz _))
    (dM (aZ kI (bc c6 (aA aN (by rfl) T.len ZW (aa (pv 1) af)) (aA aN (by rfl) T.len ZW (aa (bZ (pv 0) M.wc.cl M.pM GP hr M.pB .nil aK) af))) (bc c6 (bZ (pv 0) M.wc.cl MM.mM GM hr MM.mB .nil aK) aD) (bz _))))) (au fq) bu),?_⟩
  try rw[ck]
  obtain⟨d2,f2,q2,r2⟩:=hW.eV "places";have l12:("abcdefghijkl" : Str).length=12:=by decide +kernel
  refine⟨_,rfl,l,_,rfl,.inl (aq.of hl),_,rfl,by rw[l12];decide,_,_,rfl,rfl,_,rfl,?_⟩;rw[decide_eq_false (show ¬ ((("abcdefghijkl" : Str).length:Nat):Int)<((zs.length:Nat):Int) by rw[l12];omega)];refine br ⟨_,rfl,l,_,rfl,.inl (aq.of hl),_,rfl,x,d2,f2,rfl,q2,r2,x,ns,ps,rfl,hW,λl1 C2=>?_⟩;have s1:=aj (o:=.lst ((aY ns).map V.str)) C2;have g1:=ai (H:=H) (a:=l1) (o:=.lst ((aY ns).map V.str));generalize upd H l1 (.lst ((aY ns).map V.str))=H1 at s1 g1⊢;have W1:=hW.same s1;obtain⟨d3,f3,q3,r3⟩:=W1.eV "many";refine⟨l1,_,rfl,.inl (aq.of g1),_,_,rfl,rfl,_,rfl,x,d3,f3,rfl,q3,r3,x,ns,ps,rfl,W1,_,_,rfl,rfl,rfl,_,rfl,?_⟩;rw[decide_eq_true (show V.int (((zs.length:Nat):Int)+((((aY ns).map V.str).length:Nat):Int))=V.int (((ps.length:Nat):Int)+2) by rw[Zj,gg];congr 1;omega)];exact br (k _ s1)
def n9:List (List En)->List (List En)->Prop:=Paired RL
theorem n9.sim:∀{rs cX:List (List En)},n9 rs cX->cO rs cX
 |_,_,.nil=>trivial
 |_,_,.cons h t=>⟨h.1,n9.sim t⟩
theorem dj.row(h:dj ps zs rows)(hr:r∈rows):r.length<=2*ps.length:=by obtain⟨i,hi⟩:=aaz.mp hr;have l:=(Zq.mp hi).1;have e:=ZG h;exact(h.get (z:=zs[i]'(by omega)) (by simp[e,l]) hi).len
structure qC(n:Nat)(rows aV fs:List (List En)):Prop where
 rl:n9 rows aV
 tn:Tn n aV
 f0:n=0->fs=[[]]
 fn:0<n->jo aV.flatten (Ph aV) fs
def Ay(C D:Addr):Sp:=λvs H Q _=>∃(y x t:Addr) (ns:List Str) (ps:List (Str×Str)) (as:List Addr) (rows:List (List En)),vs=[.ref y,.ref x,.ref t]/\(∃dy,H y=some (.ins D dy []))/\bN C H x ns ps/\GoodW ns ps/\qj ns ps/\H t=some (.lst (as.map V.ref))/\bC H as rows/\dj ps (aY ns) rows/\Tn ps.length rows/\(ps.length=0->ns.length=1)/\ps.length<=ns.length+10 /\
 ∀aV fs H',qC ps.length rows aV fs->cS D H' y x aV fs->cC y H H'->Q .a8 H'
abbrev MS:List Str:=["self","web","turns","rows","faces"]
theorem Az:aQ MS ["self","web","turns"] (ar wQ):=⟨rfl,rfl,rfl,by decide +kernel,rfl,by decide +kernel,by decide +kernel⟩
theorem MT(F:bx K "__init__" "Flat.__init__" wQ f fd)(X:FC K mg D)(DH:Df K mg "hangs" mP ["web"] fH yP)(GH:aG P w K mg base aS 4 fH yP ["web"] (Ln C))(DT:Df K mg "are_turns" rF ["web","things"] fT iD)(GT:aG P w K mg base aS 4 fT iD ["web","things"] (Hk C))
  (DL:Df K mg "from_least" yJ ["ends"] fL kg) (DO:Df K mg "faces_of" yH ["turns"] fO Wo) (GO:aG P w K mg base aS 2 fO Wo ["turns"] LX) (DC:Df K mg "check_sums" C3 ["web","faces"] fC Wq) (GC:aG P w K mg base aS 2 fC Wq ["web","faces"] (MR C)) (T:cm mg):aG P w K mg base aS 5 f fd ["self","web","turns"] (Ay C D):=by
 have GL:aG P w K mg base aS 1 fL kg ["ends"] Ma:=OA DL.fn T;refine F.ok Az (λvs H Q E h=>?_) (λcdv A outer s H vs Q E hr h=>?_)
 ·obtain⟨y,x,t,ns,ps,as,rows,rfl,_⟩:=h;rfl
 ·obtain⟨y,x,t,ns,ps,as,rows,rfl,⟨dy,hy⟩,hW,g,hh,ht,hR,hA,hT,z0,lim,k⟩:=h;have h1:=hr.mono (j:=1) (by decide);have h2:=hr.mono (j:=2) (by decide);refine⟨_,ao (bQ (PW.pt (fg (cq (di (aJ GH hr rfl DH.bK DH.fn.kp DH.b .nil aK (aa (pv 1) af)) (λ_=>rfl)))
    (dM (cq (di (aJ GT hr rfl DT.bK DT.fn.kp DT.b .nil aK (aa (pv 1) (aa (pv 2) af))) (λ_=>rfl)))))) (au fq) bu)
   (ao (aR (i:=3) Az.nd rfl (Or.inl rfl) (bR bY (by rfl) T.tuple aan (aa (dw ["ends"] [] rfl (bA (osc:=(ar wQ).names) (N:=MS) rfl rfl (by decide +kernel)) (bP (by decide)) (bo (pv 2)) (λ_ _ _=>aE (i:=0) (show(["ends"]:List Str).Nodup by decide +kernel) rfl (Or.inl rfl)) (λ_ _ _=>bp)
     (λ_ _ _=>aJ GL h1 rfl DL.bK DL.fn.kp DL.b .nil aK (aa (pv 0) af))) af)))
   (ao (aR (i:=4) Az.nd rfl (Or.inl rfl) (aJ GO h2 rfl DO.bK DO.fn.kp DO.b .nil aK (aa (pv 3) af)))
   (ao (bw (aJ GC h2 rfl DC.bK DC.fn.kp DC.b .nil aK (aa (pv 1) (aa (pv 4) af))))
   (ao (l7 (pv 0) (pv 1) rfl)
   (ao (l7 (pv 0) (pv 3) rfl)
   (au (l7 (pv 0) (bR bY (by rfl) T.tuple aan (aa (pv 4) af)) rfl))))))),?_⟩
  try rw[ck]
  have ln:rows.length=ns.length:=by rw[<-ZG hA,gg]
  have la:as.length=rows.length:=ZG hR;have Wr:=g.good.aP;refine⟨_,rfl,x,ns,ps,rfl,hW,g,hh,λH1 s1=>⟨_,rfl,?_⟩⟩;refine br ⟨_,rfl,_,rfl,x,t,ns,ps,as,rows,rfl,hW.same s1,g,s1 _ _ ht,hR.same s1,hA,λH2 s2=>⟨_,rfl,?_⟩⟩;refine br ?_;have s02:=s1.trans s2;refine⟨_,rfl,t,rfl,⟨_,aq.of (s02 _ _ ht)⟩,cQ (K:=K) (xs:=as.map V.ref) (λi ys H3=>av H2 H3/\∃qs cX,ys=qs.map V.ref/\dI H3 qs cX/\n9 (rows.take i) cX) ⟨av.refl _,[],[],rfl,.nil,.nil⟩ ?_ ?_ ?_ ?_⟩
  ·rintro i ys H3 hi ⟨_,qs,cX,rfl,hq,hl⟩;have e1:=ZG hq;have e2:=ZG hl;rw[ZK] at e2;rw[Zj];exact Zu (show _<=12 by omega) (by decide)
  ·rintro i ys H3 _ ⟨s3,_⟩;exact aq.of (s3 _ _ (s02 _ _ ht))
  ·rintro i v ys H3 R hv ⟨s3,qs,cX,rfl,hq,hl⟩ kR;rw[Zo] at hv;obtain⟨a,ea,rfl⟩:=Zp.mp hv;have s03:=s02.trans s3;obtain⟨r,us,er,ha,hp⟩:=(hR.same s03).get ea;have lr:=hA.row (Zr er);have MU:=g.aP;simp only[cD,bj,Z7];refine⟨_,rfl,a,us,r,rfl,ha,hp,by omega,λq vs r' H4 nq g4 h4 rl s4=>kR _ _ ⟨s3.trans s4,qs++[q],cX++[r'],by simp,aa2 (hq.same s4) ⟨vs,g4,h4⟩,?_⟩⟩;rw[ZO,er];exact aa2 hl rl
  ·rintro ys H3 ⟨s3,qs,cX,rfl,hq,hl⟩ D1 nD;rw[Zj,la,Z6] at hl;refine⟨D1,_,rfl,.inl ⟨aq.of ai,λkt Ws=>⟨_,rfl,?_⟩⟩⟩;have s4:=(aj (o:=.lst (qs.map V.ref)) nD).trans (aj (o:=.tup (qs.map V.ref)) Ws);have g4:=ai (H:=upd H3 D1 (.lst (qs.map V.ref))) (a:=kt) (o:=.tup (qs.map V.ref));generalize upd (upd H3 D1 (.lst (qs.map V.ref))) kt (.tup (qs.map V.ref))=H4 at s4 g4⊢;have s04:=s02.trans (s3.trans s4);have T':=hT.sim hl.sim;have MU:=g.aP;have yI:=T'.bW.le;refine⟨kt,qs,ps.length,cX,rfl,g4,hq.same s4,T'.bW,MU,by omega,λl ts fs H5 nl g5 h5 s5 f0 fn=>⟨_,rfl,?_⟩⟩;have s05:=s04.trans s5;have qz:ts.length=fs.length:=ZG h5;have Wt:cX.length=ns.length:=by rw[<-ZG hl,ln]
   have sum:fs.length+ns.length=ps.length+2:=by
    by_cases c:ps.length=0
    ·rw[f0 c,c,z0 c];rfl
    ·have:=T'.cnt fs (by omega) (fn (by omega)).dec
     omega
   refine⟨_,rfl,x,l,ns,ps,ts.map V.ref,rfl,hW.same s05,g5,by rw[Zj];omega,by rw[Zj];omega,λH6 s6=>?_⟩;have s06:=s05.trans s6;refine⟨_,rfl,_,rfl,y,D,dy,_,rfl,s06 _ _ hy,X.cl,X.nW,(by show 0<1000;decide),?_⟩;refine⟨_,rfl,_,rfl,y,D,dy,_,rfl,ai,X.cl,X.nT,(by show 1<1000;decide),?_⟩;rw[xD];have Wu:l≠y:=cg (s6 _ _ g5) (s06 _ _ hy) (by intro z;cases z);refine⟨_,rfl,l,_,rfl,.inl ⟨aq.of (by rw[ak Wu];exact s6 _ _ g5),λkf Ho=>?_⟩⟩;have MV:y≠kf:=λz=>by rw[<-z,ai] at Ho;cases Ho
   refine⟨_,rfl,y,D,dy,_,rfl,by rw[ak MV,ai],X.cl,X.nF,(by show 2<1000;decide),?_⟩;have Wv:H6 kf=none:=by rw[ak (Z0 MV)] at Ho;exact Ho
   have Ww:=s06 _ _ hy;have kp:∀c o,H6 c=some o->c≠y->(upd (upd (upd H6 y (.ins D dy (bU "kept_turns" (.ref kt) (bU "kept_web" (.ref x) [])))) kf (.tup (ts.map V.ref))) y (.ins D dy (bU "kept_faces" (.ref kf) (bU "kept_turns" (.ref kt) (bU "kept_web" (.ref x) []))))) c=some o:=λc o e n=>by rw[ak n,ak (λz=>by rw[z,Wv] at e;cases e),ak n];exact e
   have kT:∀c xs,H6 c=some (.tup xs)->(upd (upd (upd H6 y (.ins D dy (bU "kept_turns" (.ref kt) (bU "kept_web" (.ref x) [])))) kf (.tup (ts.map V.ref))) y (.ins D dy (bU "kept_faces" (.ref kf) (bU "kept_turns" (.ref kt) (bU "kept_web" (.ref x) []))))) c=some (.tup xs):=λc xs e=>kp c _ e (cg e Ww (by intro z;cases z));refine k cX fs _ ⟨hl,T',f0,fn⟩ ⟨dy,kt,kf,qs,ts,ai,kT _ _ (s6 _ _ (s5 _ _ g4)),Paired.gp hq λa r ⟨us,e,p⟩=>⟨us,kT _ _ ((s4.trans (s5.trans s6)) _ _ e),(p.same (s4.trans (s5.trans s6))).mono kT⟩,by rw[ak (Z0 MV),ai],Paired.gp h5 λa r ⟨us,e,p⟩=>⟨us,kT _ _ (s6 _ _ e),(p.same s6).mono kT⟩⟩ λc o e n=>kp c o (s06 _ _ e) n
end
theorem yW{rows:List (List En)}(nd:rows.flatten.Nodup){i j:Nat}{r r':List En}{e:En}(hi:rows[i]?=some r)(hj:rows[j]?=some r')(h:e∈r)(h':e∈r'):¬ i<j:=λlt=>by rw[eJ rows j] at nd;have m1:e∈(rows.take j).flatten:=ZL.mpr ⟨r,Zr (i:=i) (by rw[acd,if_pos lt];exact hi),h⟩;have m2:e∈(rows.drop j).flatten:=ZL.mpr ⟨r',Zr (i:=0) (by rw[ac7];exact hj),h'⟩;exact(ZP.mp nd).2.2 e m1 e m2 rfl
theorem Fs{rows:List (List En)}(nd:rows.flatten.Nodup){i j:Nat}{r r':List En}{e:En}(hi:rows[i]?=some r)(hj:rows[j]?=some r')(h:e∈r)(h':e∈r'):i=j:=by have a:=yW nd hi hj h h';have b:=yW nd hj hi h' h;omega
structure gW(zs:List Str)(rows:List (List En))(ps:List (Str×Str)):Prop where
 len:zs.length=rows.length
 nd:zs.Nodup
 Hq:∀(k:Nat) p,ps[k]?=some p->∀j,j<2->∃(i:Nat) (r:List En),zs[i]?=some (jr p j)/\rows[i]?=some r/\(k,j)∈r
theorem gW.MW{zs:List Str}{rows:List (List En)}{ps:List (Str×Str)}(t:gW zs rows ps)(R:cW ps.length rows){i:Nat}{z:Str}{r:List En}(hz:zs[i]?=some z)(hr:rows[i]?=some r):ku z ps r:=by
 have mr:=Zr hr;refine⟨cc R.nd r mr,λe=>?_⟩;rw[iP];constructor
 ·intro he;obtain⟨l,l2⟩:=(R.mem e).mp (ZL.mpr ⟨r,mr,he⟩);obtain⟨i',r',a,b,c⟩:=t.Hq e.1 (ps[e.1]'l) (by simp[l]) e.2 l2;obtain rfl:=Fs R.nd hr b he c;exact⟨l2,ZE _,ps[e.1]'l,by simp[l],ZH (a.symm.trans hz)⟩
 ·rintro⟨l2,_,p,hp,e1⟩;obtain⟨i',r',a,b,c⟩:=t.Hq e.1 p hp e.2 l2;rw[e1] at a;obtain rfl:=gY t.nd hz a;rw[hr] at b;cases b;exact c
theorem gW.ins{zs:List Str}{rows:List (List En)}{ps:List (Str×Str)}(t:gW zs rows ps):jc zs ps:=λp hp=>by obtain⟨k,hk⟩:=aaz.mp hp;obtain⟨i,r,a,_⟩:=t.Hq k p hk 0 (by decide);obtain⟨i',r',a',_⟩:=t.Hq k p hk 1 (by decide);exact⟨Zr a,Zr a'⟩
theorem gW.Wx{zs:List Str}{rows:List (List En)}{ps:List (Str×Str)}(t:gW zs rows ps)(R:cW ps.length rows){i j:Nat}{r r':List En}{e:En}{a b:Str}(hi:rows[i]?=some r)(hj:rows[j]?=some r')(he:e∈r)(hf:bL e∈r')(ha:zs[i]?=some a)(hb:zs[j]?=some b):(a,b)∈fo ps:=by
 obtain⟨l2,_,p,hp,e1⟩:=iP.mp (((t.MW R ha hi).2 e).mp he);obtain⟨_,_,p',Wy,e2⟩:=iP.mp (((t.MW R hb hj).2 (bL e)).mp hf);have ep:p=p':=ZH (hp.symm.trans Wy);subst ep;have mp:p∈ps:=Zr hp;unfold fo;rw[Zv,jj];have f2:(bL e).2=1-e.2:=rfl;rw[f2] at e2;rcases(show e.2=0\/e.2=1 by omega) with z|z
 ·rw[z] at e1 e2;exact .inl (by rw[<-e1,<-e2];exact mp)
 ·rw[z] at e1 e2;exact .inr (by rw[<-e1,<-e2];exact mp)
theorem gW.Hr{zs:List Str}{rows:List (List En)}{ps:List (Str×Str)}(t:gW zs rows ps)(R:cW ps.length rows){z0:Str}(h0:zs[0]?=some z0){i:Nat}(h:Cn rows i):∀{z:Str},zs[i]?=some z->df (fo ps) z0 z:=by
 induction h with
 |z=>intro z hz;obtain rfl:=ZH (h0.symm.trans hz);exact .here _
 |@st i j r r' e h hi hj he hf ih=>
  intro z hz;have li:i<zs.length:=by rw[t.len];exact(Zq.mp hi).1
  have e1:zs[i]?=some zs[i]:=by simp[li]
  exact(ih e1).on (t.Wx R hi hj he hf e1 hz)
theorem C4(ps:List (Str×Str)):∀p∈turn (fo ps),p∈fo ps:=λp hp=>by
 unfold fo at *
 have:=(jj (ps:=ps++turn ps) (a:=p.1) (b:=p.2)).mp hp
 rcases Zv.mp this with h|h
 ·exact Zm _ (jj.mpr h)
 ·exact ZN _ (jj.mp h)
theorem gW.hangs(t:gW zs rows ps)(F:Flt ps.length rows):qj zs ps:=λa ha b hb=>by
 obtain⟨i,hi⟩:=aaz.mp ha;obtain⟨j,hj⟩:=aaz.mp hb;have li:i<rows.length:=by rw[<-t.len];exact(Zq.mp hi).1
 have lj:j<rows.length:=by rw[<-t.len];exact(Zq.mp hj).1
 have l0:0<zs.length:=by rw[t.len];omega
 have e0:zs[0]?=some zs[0]:=by simp[l0]
 have A:=t.Hr F.bW e0 (F.con i li) hi;have B:=t.Hr F.bW e0 (F.con j lj) hj;exact((df.turned A).mono (C4 ps)).trans B
theorem gW.order{zs:List Str}{rows:List (List En)}{ps:List (Str×Str)}(t:gW zs rows ps)(R:cW ps.length rows){ks:List Nat}{Gu:List Str}{aV:List (List En)}(h1:Paired (λk z=>zs[k]?=some z) ks Gu)(h2:Paired (λk r=>rows[k]?=some r) ks aV):dj ps Gu aV:=by
 induction h1 generalizing aV with
 |nil=>cases h2;exact .nil
 |cons a _ ih=>cases h2 with|cons b c=>exact .cons (t.MW R a b) (ih c)
theorem qD{β γ:Type}{l:List γ}(d:γ):∀{ks:List Nat} {rs:List γ},Paired (λk r=>l[k]?=some r) ks rs->rs=ks.map λk=>l.getD k d
 |_,_,.nil=>rfl
 |_,_,.cons h t=>by rw[ZI,<-qD (β:=β) d t];congr 1;rw[aa6,h];rfl
theorem AA{γ:Type}(d:γ){l rs:List γ}{ks:List Nat}(h:Paired (λk r=>l[k]?=some r) ks rs)(p:ks.Perm (List.range l.length)):l.Perm rs:=by
 rw[qD (β:=γ) d h];refine List.Perm.trans (acX ?_) (p.map _).symm;refine aaU λi=>?_;rw[Zo];by_cases c:i<l.length
 ·simp[c]
 ·simp[c]
end cM
namespace L9
open PySem PySem.Spec PyProof.Rows L2
def dQ(H:Hp):List Addr->List (Str×Nat)->Prop:=Paired λu p=>H u=some (.tup [.str p.1,.int (p.2:Nat)])
theorem dQ.len:∀{us:List Addr} {ps:List (Str×Nat)},dQ H us ps->us.length=ps.length
 |_,_,.nil=>rfl
 |_,_,.cons _ t=>by rw[Zz,Zz,dQ.len t]
theorem dQ.get:∀{us:List Addr} {ps:List (Str×Nat)} {i:Nat} {u:Addr},dQ H us ps->us[i]?=some u->∃p,ps[i]?=some p/\H u=some (.tup [.str p.1,.int (p.2:Nat)])
 |_,_,0,_,.cons h _,e=>by cases e;exact⟨_,rfl,h⟩
 |_,_,i+1,_,.cons _ t,e=>by obtain⟨p,a,b⟩:=dQ.get (i:=i) t (by simpa using e);exact⟨p,by simpa using a,b⟩
def iu(a b:Str×Nat):Prop:=a.1.cps.toList<b.1.cps.toList\/(a.1=b.1/\a.2<b.2)
instance:DecidableRel iu:=λa b=>inferInstanceAs (Decidable (a.1.cps.toList<b.1.cps.toList\/(a.1=b.1/\a.2<b.2)))
theorem yX(a b:Str×Nat):iu a b\/a=b\/iu b a:=by
 unfold iu;by_cases e:a.1=b.1
 ·rcases abv a.2 b.2 with h|h|h
  ·exact .inl (.inr ⟨e,h⟩)
  ·exact .inr (.inl (acA e h))
  ·exact .inr (.inr (.inr ⟨e.symm,h⟩))
 ·by_cases l:a.1.cps.toList<b.1.cps.toList
  ·exact .inl (.inl l)
  ·rcases List.le_iff_lt_or_eq.mp (ad7.mp l) with h|h
   ·exact .inr (.inr (.inl h))
   ·exact absurd (qZ h).symm e
theorem C5(h:iu a b)(k:iu b c):iu a c:=by
 unfold iu at *;rcases h with h|h<;>rcases k with k|k
 ·exact .inl (afA h k)
 ·exact .inl (k.1▸h)
 ·exact .inl (h.1▸k)
 ·exact .inr ⟨h.1.trans k.1,by omega⟩
theorem MX(a:Str×Nat):¬ iu a a:=λh=>h.elim (λz=>ac3 _ z) λz=>ZX _ z.2
def MY(f:Addr->Str×Nat):PyProof.Rows.KeyKind where
 α:=Str×Nat
 blt a b:=decide (iu a b)
 irrefl a:=decide_eq_false (MX a)
 trans a b c h k:=decide_eq_true (C5 (of_decide_eq_true h) (of_decide_eq_true k))
 negTrans a b c h:=by
  rcases yX a b with z|z|z
  ·exact .inl (decide_eq_true z)
  ·exact .inr (z▸h)
  ·exact .inr (decide_eq_true (C5 z (of_decide_eq_true h)))
 total a b h k:=by
  rcases yX a b with z|z|z
  ·exact absurd z (of_decide_eq_false h)
  ·exact z
  ·exact absurd z (of_decide_eq_false k)
 keyOf v:=match v with|.ref a=>some (f a)|_=>none
 dflt:=(Str.empty,0)
def dc(us:List Addr)(ps:List (Str×Nat))(a:Addr):Str×Nat:=(((us.zip ps).find? λq=>decide (q.1=a)).map (·.2)).getD (Str.empty,0)
theorem wU(h:dQ H us ps)(ha:a∈us):H a=some (.tup [.str (dc us ps a).1,.int (dc us ps a).2]):=by
 induction h with
 |nil=>exact nomatch ha
 |@cons u p us ps hu t ih=>
  unfold dc;rw[abI,abf];by_cases e:u=a
  ·subst e;simp only[decide_true,aaV,adE];exact hu
  ·rw[show decide ((u,p).1=a)=false from decide_eq_false e];exact ih ((Zs.mp ha).resolve_left λz=>e z.symm)
theorem Jj(h:dQ H us ps):us.map (dc us ps)=ps:=by
 have len:=h.len;refine aaU λi=>?_;rw[Zo];cases e:us[i]? with
 |none=>rw[aao (by have:=aaE.mp e;omega)];rfl
 |some u=>
  obtain⟨p,ep,hp⟩:=h.get e;rw[ep]
  have:=wU h (Zr e)
  rw[hp] at this;simp only[ae6,HO.tup.injEq,aaY,V.int.injEq,V.str.injEq,and_true] at this;exact congrArg some (acA this.1.symm (by omega))
section
theorem C6(I:Inv X pins σ H s)(hp:dQ H us ps)(aP:us.length<64)(keep:∀b o,s.heap.get? b=some o->h1.get? b=some o)
  (q:∀l (vs:List Addr) (rs:List (Str×Nat)),H l=none->dQ H vs rs->rs.Perm ps->rs.Pairwise (λa b=>¬ iu b a)->Q (.ref l) (upd H l (.lst (vs.map V.ref)))) :
  wpAny (model X.prog X.w) X.A.in1 (newList (us.map Value.ref)>>=λl=>holding [l] (call (.builtin "list.sort") [l] [])>>=λ_=>ret l) (λfin s'=>∃r,fin=.done (.ret r)/\EP X pins σ Q r s') X.xe {s with heap:=h1,toks:=tk}:=by
 have get:∀{a:Addr},a∈us->∃t u,IsTup s.heap a #[.str (dc us ps a).1 t,.int (dc us ps a).2 u]:=λ{a} ha=>by obtain⟨u,v,⟨t,e1⟩,⟨t',e2⟩,h⟩:=yC I (wU hp ha);subst e1 e2;exact⟨t,t',h⟩
 have up:∀{a:Addr} {xs:Array Value} {g:Heap},IsTup s.heap a xs->(∀b o,h1.get? b=some o->g.get? b=some o)->IsTup g a xs:=λ⟨o,ho,r⟩ k=>⟨o,k _ _ (keep _ _ ho),r⟩
 refine wpAny_bind (wpAny_newList (wpAny_bind (wpAny_holding ?_)) (by rw[Zj];exact Zu (aag aP) (by decide)));refine wpAny_mono (tD (κ:=MY (dc us ps)) (f:=dc us ps) (prog:=X.prog) (w:=X.w) (s:=s) (h:=h1) (tk:=tk) (as:=us) (Q:=EP X pins σ Q) (λ_=>rfl) aP (λt kp two R r=>?_) (λt kp a ha b hb Q' E' k=>?_) λout n h2 o1 o2 o3 o4=>?_) (λ_ _ z=>wpAny_pure ⟨_,rfl,z⟩) λ_ _ z=>z
 ·have ty:∀vs:List Value,(∀v∈vs,∃i t,v=.str i t)->(vs.mapM typeOf:Sem (List Value))=pure (vs.map λ_=>Value.type "str"):=by
   intro vs;induction vs with
   |nil=>intro _;rfl
   |cons v vs ih =>intro h;obtain⟨i,t,rfl⟩:=h v (by simp);rw[ac4,ih λx hx=>h x (by simp[hx]),show typeOf (.str i t)=pure (.type "str") from rfl];rfl
  have hf:∀a∈us,∃p:Value×Value,(∃i t,p.1=.str i t)/\IsTup t.heap a #[p.1,p.2]:=λa ha=>by obtain⟨t1,t2,h⟩:=get ha;exact⟨(_,_),⟨_,_,rfl⟩,up h kp⟩
  classical
  let fst:Addr->Value:=λa=>if h:a∈us then (Classical.choose (hf a h)).1 else .none
  have fe:∀a (h:a∈us),fst a=(Classical.choose (hf a h)).1:=λa h=>dif_pos h;refine vZ (T:="str") (fst:=fst) (.inr rfl) (λa ha=>⟨(Classical.choose (hf a ha)).2,?_⟩) (λvs hv=>ty vs λv h=>?_) two r
  ·rw[fe a ha];exact(abr (hf a ha)).2
  ·obtain⟨a,ha,rfl⟩:=hv v h;rw[fe a ha];exact(abr (hf a ha)).1
 ·obtain⟨t1,t2,h1'⟩:=get ha;obtain⟨t3,t4,mS⟩:=get hb;refine Cs (up h1' kp) (up mS kp) (b1:=decide ((dc us ps a).1=(dc us ps b).1)) (b2:=decide (((dc us ps a).2:Int)=(dc us ps b).2)) (c1:=decide ((dc us ps a).1.cps.toList<(dc us ps b).1.cps.toList)) (c2:=decide (((dc us ps a).2:Int)<(dc us ps b).2)) (λ_ z=>wpAny_eqBool_str z) (λ_ z=>sX z) (λ_ z=>wpAny_eqBool_int z) (λ_ z=>wk z) ?_;have e:(if decide ((dc us ps a).1=(dc us ps b).1) then (if decide (((dc us ps a).2:Int)=(dc us ps b).2) then false else decide (((dc us ps a).2:Int)<(dc us ps b).2)) else decide ((dc us ps a).1.cps.toList<(dc us ps b).1.cps.toList))=(MY (dc us ps)).blt (dc us ps a) (dc us ps b):=by
   show _=decide (iu _ _)
   generalize dc us ps a=p;generalize dc us ps b=r;rw[aat,ZY (p:=iu p r)];unfold iu;by_cases c1:p.1=r.1
   ·rw[decide_eq_true c1,if_pos rfl];by_cases c2:(p.2:Int)=r.2
    ·rw[decide_eq_true c2,if_pos rfl];exact⟨λz=>(nomatch z),λz=>z.elim (λz=>absurd z (c1▸ac3 _)) λz=>by omega⟩
    ·rw[decide_eq_false c2,if_neg (by decide),ZY];exact⟨λz=>.inr ⟨c1,by omega⟩,λz=>z.elim (λz=>absurd z (c1▸ac3 _)) λz=>by omega⟩
   ·rw[decide_eq_false c1,if_neg (by decide),ZY];exact⟨.inl,λz=>z.resolve_right λz=>c1 z.1⟩
  rw[e];exact k
 ·have no:s.heap.get? h1.objs.size=none:=by
   cases e:s.heap.get? h1.objs.size with
   |none=>rfl
   |some o=>exact absurd (Zx (keep _ _ e)) (ZX _)
  have mz:H h1.objs.size=none:=by
   cases e:H h1.objs.size with
   |none=>rfl
   |some o =>obtain⟨u,eu⟩:=(I.aL _ _ e).there;rw[no] at eu;cases eu
  have at_:dQ H out (out.map (dc us ps)):=by
   have:∀l:List Addr,(∀a∈l,a∈us)->dQ H l (l.map (dc us ps)):=by
    intro l;induction l with
    |nil=>intro _;exact .nil
    |cons a l ih=>intro h;exact .cons (wU hp (h a (by simp))) (ih λb hb=>h b (by simp[hb]))
   exact this out λa ha=>o1.mem_iff.mp ha
  have fin:=q h1.objs.size out _ mz at_ ((o1.map _).trans (acX (Jj hp))) (aa0.mpr (adp (λ{a b} z=>of_decide_eq_false z) o2));refine⟨.ref h1.objs.size,_,I.ui (t':=tk) (o:=.lst (out.map V.ref)) (λb o e=>o3 _ _ (keep _ _ e)) no mz ⟨by rw[Zj,o1.length_eq];exact Zu (aag aP) (by decide),out.map Value.ref,n,?_,o4⟩,rfl,fin⟩
  have:∀l:List Addr,Vals (l.map V.ref) (l.map Value.ref):=λl=>by
   induction l with
   |nil=>exact .nil
   |cons x l ih=>exact .cons rfl ih
  exact this out
theorem qE:cG X (.builtin "sorted") (λxs H Q=>∃(p:Addr) (us:List Addr) (ps:List (Str×Nat)),xs=[.ref p]/\aq X.K H p (us.map V.ref)/\dQ H us ps/\ps.length<64/\∀l (vs:List Addr) (rs:List (Str×Nat)),H l=none->dQ H vs rs->rs.Perm ps->rs.Pairwise (λa b=>¬ iu b a)->Q (.ref l) (upd H l (.lst (vs.map V.ref)))):=by
 rintro pins s σ H xs us Q I r ⟨p,us,ps,rfl,hq,hp,aP,q⟩;obtain⟨u,rfl,rx⟩:=vals1 r;cases rx;obtain⟨its,rv,pl,_⟩:=I.list hq;have ei:=iq rv;have wm:us.length<64:=by rw[hp.len];exact aP
 refine aaX ac5 acT acU (args_sorted1 _) ?_;unfold Builtin.«sorted»;refine wpAny_bind (m:=checkCount "sorted" 1 1 _) (wpAny_pure (wpAny_bind ?_));obtain⟨o,ho,hc,n0,hd⟩:=pl.isList;refine ae7 p (.inl rfl) ho hc hd (λh1 keep=>?_) (by rw[ei];simp only[Zt,Zj];exact Zu (aag wm) (by decide));rw[ei];exact C6 (tk:=s.toks) I hp wm keep q
end
section
theorem C7:cG X (.builtin "len") (λxs H Q=>∃a kvs,xs=[V.ref a]/\H a=some (.dT kvs)/\Q (.int (kvs.length:Nat)) H):=by
 rintro pins s σ H xs us Q I r ⟨a,kvs,rfl,hp,q⟩;obtain⟨u,rfl,ru⟩:=vals1 r;cases ru;obtain⟨z,lo,ys,rel,o,es,ep,g1,g2,g3,g4,g5⟩:=(show bg X.prog X.w H s.heap a (.dT kvs) from I.aL a _ hp)
 have sz:es.size=kvs.length:=by rw[abL g4];exact(ZG rel).symm
 refine aaX kind_len plain_len entry_len (args_len1 _) (yF lo ⟨o,g1,g2,g3⟩ (by rw[sz];rw[acq] at z;omega) λt tk=>?_);rw[sz];exact⟨.int kvs.length,H,I.kept (t':=tk) λ_ _ z=>z,⟨t,rfl⟩,q⟩
end
end L9
namespace cM
open PySem PySem.Spec PyProof.Rows L2 L9
abbrev tR:Stmt:=top 47 -- QQ
theorem cW.two(R:cW n rows):rows.flatten.length=2*n:=by
 refine adV R.le ?_;have l:∀(ks:List Nat),(ks.flatMap λk=>[((k,0):En),(k,1)]).length=2*ks.length:=by
  intro ks;induction ks with
  |nil=>rfl
  |cons k ks ih=>rw[adq,ZA,ih,Zz];simp;omega
 have nd:∀(ks:List Nat),ks.Nodup->(ks.flatMap λk=>[((k,0):En),(k,1)]).Nodup:=by
  intro ks;induction ks with
  |nil=>intro _;exact .nil
  |cons k ks ih=>
   intro h;obtain⟨h1,h2⟩:=ZT.mp h;rw[adq];refine ZP.mpr ⟨by simp,ih h2,λa ha b hb e=>?_⟩;subst e;obtain⟨k',dP,hm⟩:=acH.mp hb;have e1:a.1=k:=by simp at ha;rcases ha with rfl|rfl<;>rfl
   have e2:a.1=k':=by simp at hm;rcases hm with rfl|rfl<;>rfl
   exact h1 (by rw[<-e1,e2];exact dP)
 have h:=kh (m:=rows.flatten) (nd (List.range n) abZ) λe he=>by
  obtain⟨k,hk,hm⟩:=acH.mp he;have lk:=aau.mp hk;refine(R.mem e).mpr ?_;simp at hm;rcases hm with rfl|rfl
  ·exact⟨lk,by show 0<2;decide⟩
  ·exact⟨lk,by show 1<2;decide⟩
 rw[l,aaG] at h;exact h
structure Wh(kvs:List (List Key×V))(zs:List Str)(rows:List (List En))(es:List En):Prop where
 keys:kvs.map (·.1)=es.map kE
 val:∀e∈es,∃(i:Nat) (z:Str) (r:List En),zs[i]?=some z/\rows[i]?=some r/\e∈r/\bD kvs (kE e)=some (.str z)
theorem Wh.none(b:Wh kvs zs rows es)(h:e∉es):bD kvs (kE e)=Option.none:=by
 cases q:bD kvs (kE e) with
 |none=>rfl
 |some v =>have m:=HV q;rw[b.keys] at m;obtain⟨e',i6,ee⟩:=ZD.mp m;exact absurd (ko ee▸i6) h
theorem Wh.put{kvs:List (List Key×V)}{zs:List Str}{rows:List (List En)}{es:List En}(b:Wh kvs zs rows es){e:En}{i:Nat}{z:Str}{r:List En}(h:e∉es)(hz:zs[i]?=some z)(hr:rows[i]?=some r)(he:e∈r):Wh (putK kvs (kE e) (.str z)) zs rows (es++[e]):=by
 have q:=b.none h;refine⟨by rw[iY _ q,ZU,b.keys,ZU];rfl,λx hx=>?_⟩;rw[uP];rcases Zv.mp hx with hx|hx
 ·obtain⟨i',z',r',x1,x2,x3,x4⟩:=b.val x hx;rw[if_neg (λz=>h ((ko (a:=x) (b:=e) z)▸hx))];exact⟨i',z',r',x1,x2,x3,x4⟩
 ·obtain rfl:x=e:=by simpa using hx
  rw[if_pos rfl];exact⟨i,z,r,hz,hr,he,rfl⟩
theorem Wh.len(b:Wh kvs zs rows es):kvs.length=es.length:=by have:=congrArg List.length b.keys;simpa using this
theorem C8(nd:zs.Nodup){rs:List (Str×Nat)}(p:rs.Perm ((List.range zs.length).map λk=>(zs.getD k "",k)))(w:rs.Pairwise λa b=>¬ iu b a):rs.map (·.1)=aY zs/\(rs.map (·.2)).Perm (List.range zs.length):=by
 have e1:((List.range zs.length).map λk=>(zs.getD k ("" : Str),k)).map (·.1)=zs:=by
  rw[aaC];refine aaU λi=>?_;rw[Zo];by_cases c:i<zs.length
  ·simp[c]
  ·simp[c]
 have e2:((List.range zs.length).map λk=>(zs.getD k ("" : Str),k)).map (·.2)=List.range zs.length:=by rw[aaC];exact List.map_id' _
 refine⟨pX ?_ ?_,?_⟩
 ·have:=p.map (·.1)
  rw[e1] at this;exact this
 ·refine aa0.mpr (w.imp λ{a b} h=>?_);by_cases c:fZ a.1 b.1=true
  ·exact c
  ·exact absurd (show iu b a from .inl (by unfold fZ at c;simpa using c)) h
 ·have:=p.map (·.2)
  rw[e2] at this;exact this
structure Dr(H:Hp)(q l t:Addr)(zs:List Str)(us:List Addr)(ps:List (Str×Str))(as:List Addr)(rows:List (List En)):Prop where
 hq:H q=some (.lst (zs.map V.str))
 hl:H l=some (.lst (us.map V.ref))
 hu:ba H us ps
 ht:H t=some (.lst (as.map V.ref))
 hr:bC H as rows
structure og(zs:List Str)(ps:List (Str×Str))(rows:List (List En)):Prop where
 good:pZ zs
 ins:jc zs ps
 aP:ps.length<=22
 all:dj ps (aY zs) rows
 tn:Tn ps.length rows
 Ft:qj zs ps
 z:ps.length=0->zs.length=1
 lim:ps.length<=zs.length+10
theorem wV(R:bC H as rows):∀{ks:List Nat} {xs:List Addr},Paired (λk a=>as[k]?=some a) ks xs->∃aV,Paired (λk r=>rows[k]?=some r) ks aV/\bC H xs aV
 |_,_,.nil=>⟨[],.nil,.nil⟩
 |_,_,.cons h t=>by obtain⟨rs,a,b⟩:=wV R t;obtain⟨r,us,er,ha,hp⟩:=R.get h;exact⟨r::rs,.cons er a,.cons ⟨us,ha,hp⟩ b⟩
theorem wW{zs:List Str}:∀{rs:List (Str×Nat)},(∀x∈rs,zs[x.2]?=some x.1)->Paired (λk z=>zs[k]?=some z) (rs.map (·.2)) (rs.map (·.1))
 |[],_=>.nil
 |x::rs,h=>.cons (h x (by simp)) (wW λy hy=>h y (by simp[hy]))
theorem dQ.same(h:dQ H us ps)(s:av H H'):dQ H' us ps:=Paired.gp h λt p e=>s _ _ e
theorem dQ.get:∀{us:List Addr} {ps:List (Str×Nat)} {i:Nat} {u:Addr},dQ H us ps->us[i]?=some u->∃p,ps[i]?=some p/\H u=some (.tup [.str p.1,.int (p.2:Nat)])
 |_,_,0,_,.cons h _,e=>by cases e;exact⟨_,rfl,h⟩
 |_,_,i+1,_,.cons _ t,e=>by obtain⟨p,a,b⟩:=dQ.get (i:=i) t (by simpa using e);exact⟨p,by simpa using a,b⟩
section
variable {P:Program}{w:World}{K:PySem.W.Frag}{mg:Str->Option Value}{base:Heap}
def MZ:Sp:=λvs H Q _=>∃(p:Addr) (most steps:Nat),vs=[.ref p,.int (most:Nat),.int (steps:Nat)]/\Row H p/\1<=most/\most<=12/\steps<=22 /\
 ∀(T q l t:Addr) (zs:List Str) (us:List Addr) (ps:List (Str×Str)) (as:List Addr) (rows:List (List En)) (H':Hp),H T=none->H' T=some (.tup [.ref q,.ref l,.ref t])->Dr H' q l t zs us ps as rows->og zs ps rows->Row H' p->cC p H H'->Q (.ref T) H'
abbrev Hs:List Str:=["_law_pot_here","_law_most","_law_steps","_law_turns_here","_law_names_here","_law_where","_law_name","_law_row","_law_end","_law_ties","_law_order"]
theorem lD:aQ Hs ["_law_pot_here","_law_most","_law_steps"] (ar tR):=⟨rfl,rfl,rfl,by decide +kernel,rfl,by decide +kernel,by decide +kernel⟩
theorem OS{f fU fN:Addr}{fd QR uZ:FuncData}(F:bx K "_law_flat" "_law_flat" tR f fd)(DU:Df K mg "_law_turns" C0 ["_law_pot_here","_law_most","_law_steps"] fU QR)(GU:aG P w K mg base aS 3 fU QR ["_law_pot_here","_law_most","_law_steps"] Mz)(DN:Df K mg "_law_names" jd ["_law_pot_here","_law_many"] fN uZ)(GN:aG P w K mg base aS 2 fN uZ ["_law_pot_here","_law_many"] yq)
  (hz:mg "zip" = none) (hE:mg "enumerate" = none) (T:cm mg):aG P w K mg base aS 4 f fd ["_law_pot_here","_law_most","_law_steps"] MZ:=by
 refine F.ok lD (λvs H Q E h=>?_) (λcdv A outer s H vs Q E hr h=>?_)
 ·obtain⟨p,most,steps,rfl,_⟩:=h;rfl
 ·obtain⟨p,most,steps,rfl,r,m1,Lp,MB,k⟩:=h;have hu:=fh hr;have h2:=hr.mono (j:=2) (by decide);refine⟨_,ao (aR (i:=3) lD.nd rfl (Or.inr rfl) (aJ GU hr rfl DU.bK DU.fn.kp DU.b .nil aK (aa (pv 0) (aa (pv 1) (aa (pv 2) af)))))
   (ao (aR (i:=4) lD.nd rfl (Or.inl rfl) (aJ GN h2 rfl DN.bK DN.fn.kp DN.b .nil aK (aa (pv 0) (aa (aA aN (by rfl) T.len ZW (aa (pv 3) af)) af))))
   (ao (aR (i:=5) lD.nd rfl (Or.inr rfl) kM)
   (ao (cH aaa rfl (Cq rfl hz (aa (pv 4) (aa (pv 3) af))) (cU rfl (aU (aE (i:=6) lD.nd rfl (Or.inl rfl)) (aU (aE (i:=7) lD.nd rfl (Or.inl rfl)) cv)))
    (au (cH aaa rfl (bo (pv 7)) (aE (i:=8) lD.nd rfl (Or.inl rfl))
     (au (m5 hu (pv 5) (pv 8) (pv 6) rfl)))))
   (ao (gQ (i:=9) ["_law_k"] [5] lD.nd rfl rfl rfl (bA (osc:=(ar tR).names) (N:=Hs) rfl rfl (by decide +kernel)) (bP (by decide)) (fX rfl T.range (aa (bc xG (aA C7 (by rfl) T.len ZW (aa (pv 5) af)) aD) af))
     (λ_ _ _=>aE (i:=0) (show(["_law_k","_law_where"]:List Str).Nodup by decide +kernel) rfl (Or.inl rfl)) (λ_ _ _=>bp)
     (λ_ _ _=>bE (aa (gO hu (pv 1) (bE (aa (pv 0) (aa aD af))) (λ_ _=>rfl)) (aa (gO hu (pv 1) (bE (aa (pv 0) (aa aD af))) (λ_ _=>rfl)) af))))
   (ao (aR (i:=10) lD.nd rfl (Or.inl rfl) (aA qE (by rfl) T.sorted abN (aa (dw ["_law_k","_law_name"] [] rfl (bA (osc:=(ar tR).names) (N:=Hs) rfl rfl (by decide +kernel)) (gC (K:=K) (k:=2) (by decide) (by decide)) (qX rfl hE (aa (pv 4) af))
     (λ_ _ _=>cU rfl (aU (aE (i:=0) (show(["_law_k","_law_name"]:List Str).Nodup by decide +kernel) rfl (Or.inl rfl)) (aU (aE (i:=1) (show(["_law_k","_law_name"]:List Str).Nodup by decide +kernel) rfl (Or.inl rfl)) cv))) (λ_ _ _=>bp)
     (λ_ _ _=>bE (aa (pv 1) (aa (pv 0) af)))) af)))
   (au (aT (bE (aa (pv 4) (aa (pv 9) (aa (dw ["_law_name","_law_k"] [3] rfl (bA (osc:=(ar tR).names) (N:=Hs) rfl rfl (by decide +kernel)) (gC (K:=K) (k:=2) (by decide) (by decide)) (bo (pv 10))
     (λ_ _ _=>cU rfl (aU (aE (i:=0) (show(["_law_name","_law_k","_law_turns_here"]:List Str).Nodup by decide +kernel) rfl (Or.inl rfl)) (aU (aE (i:=1) (show(["_law_name","_law_k","_law_turns_here"]:List Str).Nodup by decide +kernel) rfl (Or.inl rfl)) cv))) (λ_ _ _=>bp)
     (λ_ _ _=>bX (r:=Kf K) cJ (pv 2) (pv 1) (λ_ _=>rfl))) af))))))))))),?_⟩
  try rw[ck]
  refine⟨_,rfl,_,rfl,_,rfl,p,most,steps,rfl,r,m1,Lp,MB,λt as rows n H1 nt Yu S1 l1 l2 l3 l4 b1=>?_⟩;have la:as.length=rows.length:=ZG S1.rw;refine⟨_,rfl,_,rfl,t,_,rfl,.inl (aq.of S1.ht),p,_,rfl,by rw[Zj];omega,by rw[Zj];omega,S1.eQ,λq zs H2 gz lz nq g2 r2 b2=>?_⟩;rw[Zj] at lz;have Ht:zs.length=rows.length:=by omega
  have S2:=S1.but r2 b2;have b02:=b1.trans b2;have R:=S2.fR.bW;intro d nY;have s3:=aj (o:=.dT []) nY;have g3:=ai (H:=H2) (a:=d) (o:=.dT []);generalize upd H2 d (.dT [])=H3 at s3 g3⊢;have two:=R.two;refine⟨_,rfl,_,rfl,q,t,rfl,⟨_,aq.of (s3 _ _ g2)⟩,⟨_,aq.of (s3 _ _ S2.ht)⟩,?_⟩;refine IS (K:=K) (xs:=zs.map V.str) (ys:=as.map V.ref) (by rw[Zj,Zj];omega) (λi σ H4=>∃(v6 v7 v8:Option V) (kvs:List (List Key×V)),σ=[some (.ref p),some (.int (most:Nat)),some (.int (steps:Nat)),some (.ref t),some (.ref q),some (.ref d),v6,v7,v8,none,none]/\av H2 H4/\H4 d=some (.dT kvs)/\Wh kvs zs rows (rows.take i).flatten) ⟨_,_,_,[],rfl,s3,g3,rfl,λe he=>by simp at he⟩ ?_ ?_ ?_
  ·rintro i σ H4 _ ⟨v6,v7,v8,kvs,rfl,s4,_⟩;exact⟨aq.of (s4 _ _ g2),aq.of (s4 _ _ S2.ht)⟩
  ·rintro i x y σ H4 q4 hx hy ⟨v6,v7,v8,kvs,rfl,s4,g4,B⟩ nZ;rw[Zo] at hx hy;obtain⟨z,ez,rfl⟩:=Zp.mp hx;obtain⟨a,ea,rfl⟩:=Zp.mp hy;obtain⟨rr,us,er,ha,hp⟩:=S2.rw.get ea;have tk:(rows.take (i+1)).flatten=(rows.take i).flatten++rr:=by rw[ZO,er];simp
   have pre:((rows.take i).flatten++rr).Nodup:=by rw[<-tk];have nd:=R.nd;rw[eJ rows (i+1)] at nd;exact(ZP.mp nd).1
   have lu:us.length=rr.length:=hp.len;have wy:((rows.take i).flatten++rr).length<=60:=by rw[<-tk];rw[eJ rows (i+1),ZA] at two;omega
   rw[ZA] at wy;have s5:=s4.trans (aj (o:=.tup [.str z,.ref a]) nZ);have g5:=ai (H:=H4) (a:=q4) (o:=.tup [.str z,.ref a]);have d5:=(aj (o:=.tup [.str z,.ref a]) nZ) _ _ g4;generalize upd H4 q4 (.tup [.str z,.ref a])=H5 at s5 g5 d5⊢;refine⟨q4,_,rfl,aO.of g5,rfl,_,_,rfl,_,_,rfl,rfl,?_⟩;refine⟨_,rfl,a,rfl,⟨_,aq.of (s5 _ _ ha)⟩,?_⟩;refine dk (K:=K) (xs:=us.map V.ref) (λj σ H6=>∃(v8:Option V) (kvs6:List (List Key×V)),σ=[some (.ref p),some (.int (most:Nat)),some (.int (steps:Nat)),some (.ref t),some (.ref q),some (.ref d),some (.str z),some (.ref a),v8,none,none]/\av H2 H6/\H6 d=some (.dT kvs6)/\Wh kvs6 zs rows ((rows.take i).flatten++rr.take j)) ⟨_,kvs,rfl,s5,d5,by simpa using B⟩ ?_ ?_ ?_
   ·rintro j σ H6 _ ⟨v8,kvs6,rfl,s6,_⟩;exact aq.of (s6 _ _ ha)
   ·rintro j x σ H6 hx ⟨v8,kvs6,rfl,s6,g6,B6⟩;rw[Zo] at hx;obtain⟨ax,ex,rfl⟩:=Zp.mp hx;obtain⟨e,lP,CH⟩:=(hp.same s6).get ex;have CI:rr.take (j+1)=rr.take j++[e]:=by rw[ZO,lP];rfl
    have ix:e∉(rows.take i).flatten++rr.take j:=λhm=>by
     have e1:(rows.take i).flatten++rr=((rows.take i).flatten++rr.take j)++(e::rr.drop (j+1)):=by rw[ZV];congr 1;obtain⟨hj,e2⟩:=Zq.mp lP;rw[<-e2,aaD hj,aap]
     rw[e1] at pre;exact(ZP.mp pre).2.2 e hm e (by simp) rfl
    refine⟨_,rfl,_,rfl,_,rfl,d,_,rfl,jI.t (k:=kE e) g6 CH (Z2 (show kvs6.length<=60 by rw[B6.len,ZA,ZK];omega) (by decide)),?_⟩;have B7:=B6.put ix ez er (Zr lP);refine⟨_,_,rfl,av.bS s6 nY,ai,?_⟩;rw[CI,<-ZV];exact B7
   ·rintro σ H6 ⟨v8,kvs6,rfl,s6,g6,B6⟩;rw[Zj,lu,Z6,<-tk] at B6;exact⟨_,_,_,_,rfl,s6,g6,B6⟩
  ·rintro σ H4 ⟨v6,v7,v8,kvs,rfl,s4,g4,B⟩;rw[Zj,Ht,Z6] at B;have lk:kvs.length=2*n:=by rw[B.len,two]
   have R1:∀e:En,e.1<n->e.2<2->∃(i:Nat) (z:Str) (r:List En),zs[i]?=some z/\rows[i]?=some r/\e∈r/\bD kvs (kE e)=some (.str z):=λe h1 h2=>B.val e ((R.mem e).mpr ⟨h1,h2⟩);have half:((kvs.length:Nat):Int) / 2=((n:Nat):Int):=by rw[lk];omega
   refine⟨_,rfl,d,kvs,rfl,g4,_,_,rfl,rfl,⟨by decide,by decide⟩,?_⟩;refine⟨_,rfl,by rw[half];omega,by rw[half];omega,?_⟩;rw[half,aaT];refine uU (λi ys H5=>av H4 H5/\∃(us:List Addr) (ps:List (Str×Str)),ys=us.map V.ref/\ba H5 us ps/\ps.length=i/\∀(k:Nat) p,ps[k]?=some p->∀j,j<2->∃(i:Nat) (r:List En),zs[i]?=some (jr p j)/\rows[i]?=some r/\(k,j)∈r) ⟨av.refl _,[],[],rfl,.nil,rfl,λk p h=>by simp at h⟩ ?_ ?_ ?_
   ·rintro i ys H5 hi ⟨_,us,ps,rfl,hT,e,_⟩;rw[Zj,hT.len,e];exact Zu (show i<=22 by omega) (by decide)
   ·rintro i ys H5 Rr hi ⟨s5,us,ps,rfl,hT,e,M0⟩ kR;obtain⟨i0,z0,r0,a0,c0,d0,e0⟩:=R1 (i,0) hi (by show 0<2;decide);obtain⟨i1,z1,r1,a1,c1,d1,e1⟩:=R1 (i,1) hi (by show 1<2;decide);simp only[cD,bj,Z7];have ei:(0+(i:Int))=((i:Nat):Int):=by omega
    rw[ei];refine⟨_,rfl,_,rfl,(by show 2<=sizeLine;decide),λq1 CY=>?_⟩;have t1:=aj (o:=.tup (pV (i,0))) CY;refine⟨d,_,rfl,(show c7 _ d (.ref q1) (some (.str z0)) from e0▸c7.t (k:=kE (i,0)) (t1 _ _ (s5 _ _ g4)) ai),?_⟩;have s6:=s5.trans t1;have T6:=hT.same t1;show zG _ _ _ (upd H5 q1 (.tup (pV (i,0)))) _
    generalize upd H5 q1 (.tup (pV (i,0)))=H6 at s6 T6⊢;refine⟨_,rfl,_,rfl,(by show 2<=sizeLine;decide),λq2 sZ=>?_⟩;have t2:=aj (o:=.tup (pV (i,1))) sZ;refine⟨d,_,rfl,(show c7 _ d (.ref q2) (some (.str z1)) from e1▸c7.t (k:=kE (i,1)) (t2 _ _ (s6 _ _ g4)) ai),?_⟩;have s7:=s6.trans t2;have T7:=T6.same t2;refine⟨(by show 2<=sizeLine;decide),λu nu=>kR _ _ ⟨s7.trans (aj nu),us++[u],ps++[(z0,z1)],by simp,(T7.same (aj nu)).snoc ai,by simp[e],λkk pp hk j hj=>?_⟩⟩;by_cases c:kk<ps.length
    ·rw[ZZ c] at hk;exact M0 kk pp hk j hj
    ·rw[aal (by omega)] at hk;have ek:kk=i:=by
      have:=(Zq.mp hk).1
      simp at this;omega
     subst ek;rw[e,ace] at hk;obtain rfl:(z0,z1)=pp:=by simpa using hk
     rcases(show j=0\/j=1 by omega) with rfl|rfl
     ·exact⟨i0,r0,a0,c0,d0⟩
     ·exact⟨i1,r1,a1,c1,d1⟩
   ·rintro ys H5 ⟨s5,us,ps,rfl,hT,e,M0⟩ l nl;have s6:=aj (o:=.lst (us.map V.ref)) nl;have g6:=ai (H:=H5) (a:=l) (o:=.lst (us.map V.ref));have T6:=hT.same s6;generalize upd H5 l (.lst (us.map V.ref))=H6 at s6 g6 T6⊢;have s26:av H2 H6:=(s4.trans s5).trans s6;have Wz:=gz.aP;refine⟨_,rfl,q,rfl,⟨_,aq.of (s26 _ _ g2)⟩,?_⟩;refine Ip (K:=K) (xs:=zs.map V.str) (λi ys H7=>av H6 H7/\∃ws,ys=ws.map V.ref/\dQ H7 ws ((List.range i).map λk=>(zs.getD k "",k))) ⟨av.refl _,[],rfl,.nil⟩ ?_ ?_ ?_ ?_
    ·rintro i ys H7 hi ⟨_,ws,rfl,hw⟩;rw[Zj] at hi;rw[Zj,hw.len,Zj,aaG];exact Zu (show i<=12 by omega) (by decide)
    ·rintro i ys H7 _ ⟨s7,_⟩;exact aq.of (s7 _ _ (s26 _ _ g2))
    ·rintro i v ys H7 qn Rr hv ⟨s7,ws,rfl,hw⟩ WA kR;rw[Zo] at hv;obtain⟨z,ez,rfl⟩:=Zp.mp hv;have s8:=aj (o:=.tup [.int i,.str z]) WA;have g8:=ai (H:=H7) (a:=qn) (o:=.tup [.int i,.str z]);generalize upd H7 qn (.tup [.int i,.str z])=H8 at s8 g8⊢;refine⟨qn,_,rfl,aO.of g8,rfl,_,_,rfl,_,_,rfl,rfl,?_⟩;simp only[cD,Z7];refine⟨_,rfl,_,rfl,(by show 2<=sizeLine;decide),λu nu=>kR _ _ ⟨(s7.trans s8).trans (aj nu),ws++[u],by simp,?_⟩⟩;rw[aft,ZU];refine aa2 (dQ.same hw (s8.trans (aj nu))) ?_;rw[ai];have ed:zs.getD i ("" : Str)=z:=by rw[aa6,ez];rfl
     show some (HO.tup [V.str z,V.int ((i:Nat):Int)])=some (HO.tup [V.str (zs.getD i ("" : Str)),V.int ((i:Nat):Int)])
     rw[ed]
    ·rintro ys H7 ⟨s7,ws,rfl,hw⟩ D1 nD;rw[Zj] at hw;have s8:=aj (o:=.lst (ws.map V.ref)) nD;have g8:=ai (H:=H7) (a:=D1) (o:=.lst (ws.map V.ref));generalize upd H7 D1 (.lst (ws.map V.ref))=H8 at s8 g8⊢;refine⟨D1,ws,_,rfl,aq.of g8,dQ.same hw s8,by rw[Zj,aaG];omega,λl9 vs rs WB hv pm pw=>?_⟩;have s9:=aj (o:=.lst (vs.map V.ref)) WB;have g9:=ai (H:=H8) (a:=l9) (o:=.lst (vs.map V.ref));have v9:=dQ.same hv s9;generalize upd H8 l9 (.lst (vs.map V.ref))=H9 at s9 g9 v9⊢;have s69:av H6 H9:=(s7.trans s8).trans s9;have s29:=s26.trans s69;obtain⟨e1,e2⟩:=C8 gz.nd pm pw;have hx:∀x∈rs,zs[x.2]?=some x.1:=λx hx=>by
      obtain⟨k,hk,rfl⟩:=ZD.mp (pm.mem_iff.mp hx)
      have:=aau.mp hk
      simp[this]
     have Wt:rs.length=zs.length:=by rw[pm.length_eq,Zj,aaG]
     have WD:vs.length=rs.length:=hv.len;refine⟨_,rfl,_,rfl,_,rfl,l9,rfl,⟨_,aq.of g9⟩,cQ (K:=K) (xs:=vs.map V.ref) (λi ys gm=>av H9 gm/\∃xs,ys=xs.map V.ref/\Paired (λk a=>as[k]?=some a) ((rs.map (·.2)).take i) xs) ⟨av.refl _,[],rfl,.nil⟩ ?_ ?_ ?_ ?_⟩
     ·rintro i ys gm hi ⟨_,xs,rfl,hp⟩
      have:=ZG hp
      rw[ZK,Zj] at this;rw[Zj,<-this];exact Zu (show _<=12 by omega) (by decide)
     ·rintro i ys gm _ ⟨s10,_⟩;exact aq.of (s10 _ _ g9)
     ·rintro i v ys gm Rr hv' ⟨s10,xs,rfl,hp⟩ kR;rw[Zo] at hv';obtain⟨u,eu,rfl⟩:=Zp.mp hv';obtain⟨x,ex,WE⟩:=dQ.get v9 eu;have WG:=hx x (Zr ex);have lx:x.2<as.length:=by
       have:=(Zq.mp WG).1
       omega
      refine⟨u,_,rfl,aO.of (s10 _ _ WE),rfl,_,_,rfl,_,_,rfl,rfl,?_⟩;simp only[cD,Z7];refine⟨_,rfl,_,rfl,t,_,_,.ref (as[x.2]'lx),rfl,rfl,aq.of (s10 _ _ (s29 _ _ S2.ht)),cw (by simp[lx]),kR _ _ ⟨s10,xs++[as[x.2]'lx],by simp,?_⟩⟩;rw[ZO,Zo,ex];exact aa2 hp (by simp[lx])
     ·rintro ys gm ⟨s10,xs,rfl,hp⟩ D2 WH;rw[Zj,WD,aab (by rw[Zj];exact Zn _)] at hp;have s11:=aj (o:=.lst (xs.map V.ref)) WH;have QS:=ai (H:=gm) (a:=D2) (o:=.lst (xs.map V.ref));generalize upd gm D2 (.lst (xs.map V.ref))=mU at s11 QS⊢;refine⟨(by show 3<=sizeLine;decide),λTp nT=>?_⟩;have sT:=aj (o:=.tup [.ref q,.ref l,.ref D2]) nT;have gT:=ai (H:=mU) (a:=Tp) (o:=.tup [.ref q,.ref l,.ref D2]);have Fu:=s10.trans s11;have f2:H2 Tp=none:=(s29.trans Fu).free nT;have s2T:=(s29.trans Fu).trans sT;have M1:=(s69.trans Fu).trans sT;show Q (.ref Tp) (upd mU Tp (.tup [.ref q,.ref l,.ref D2]))
      generalize upd mU Tp (.tup [.ref q,.ref l,.ref D2])=Hg at sT gT s2T M1⊢;obtain⟨aV,o1,o2⟩:=wV S2.rw hp;have F:=S2.fR;subst e;have td:gW zs rows ps:=⟨Ht,gz.nd,M0⟩
      have nm:=wW hx;rw[e1] at nm;refine k Tp q l D2 zs us ps xs aV Hg (ir.but r2 b02 Tp f2) gT ⟨s2T _ _ g2,M1 _ _ g6,T6.same M1,sT _ _ QS,o2.same s2T⟩ ⟨gz,td.ins,by omega,td.order R nm o1,F.tn.perm (AA [] o1 (by rw[<-Ht];exact e2)),td.hangs F,λz0=>by rw[Ht,F.z z0];rfl,by omega⟩ (let ⟨x,y,e⟩:=r2;⟨x,y,s2T _ _ e⟩) λc o ec nc=>s2T _ _ (b02 c o ec nc)
end
end cM
namespace L2
open PySem PySem.Spec PyProof.Rows
theorem yY(h:∀t∈ts,t.length<=k):(listText ts).length<=ts.length*(k+2)+2:=by
 unfold listText;rw[aa1];have a:=rq ts 0 "[";have b:(ts.map (·.length)).sum<=ts.length*k:=by
  have:=Cu (l:=ts.map (·.length)) (k:=k) λx hx=>by obtain⟨y,hy,rfl⟩:=ZD.mp hx;exact h y hy
  rw[Zj] at this;exact this
 have c:("[" : Str).length=1:=by decide +kernel
 have d:("]" : Str).length=1:=by decide +kernel
 rw[c] at a;rw[d];have f:ts.length*(k+2)=ts.length*k+2*ts.length:=by rw[ae'];omega
 omega
theorem Jk(h:∀t∈ts,t.length<=k):(tupleText ts).length<=ts.length*(k+2)+3:=by
 unfold tupleText;rw[aa1,aa1];have a:=ad9 ", " ts;have b:(ts.map (·.length)).sum<=ts.length*k:=by
  have:=Cu (l:=ts.map (·.length)) (k:=k) λx hx=>by obtain⟨y,hy,rfl⟩:=ZD.mp hx;exact h y hy
  rw[Zj] at this;exact this
 have c:(", " : Str).length=2:=by decide +kernel
 have d:("(" : Str).length=1:=by decide +kernel
 have e:((if ts.length==1 then ",)" else ")" : String):Str).length<=2:=by split<;>decide +kernel
 rw[c] at a;rw[d];have f:ts.length*(k+2)=ts.length*k+2*ts.length:=by rw[ae'];omega
 omega
end L2
namespace L9
open PySem PySem.Spec PyProof.Rows L2
def dm(tup:Bool)(r:List (Nat×Nat)):PyData:=if tup then .tuple (r.map fG) else .list (r.map fG)
def Hu(K:PySem.W.Frag)(tup:Bool)(H:Hp)(u:Addr)(r:List (Nat×Nat)):Prop:=∃us:List Addr,(if tup then aO K H u (us.map V.ref) else aq K H u (us.map V.ref))/\aI H us r
def Small(rows:List (List (Nat×Nat))):Prop:=rows.length<=100/\∀r∈rows,r.length<=100/\∀p∈r,p.1<=1000/\p.2<=1000
theorem Fv(h:r.length<=100/\∀p∈r,p.1<=1000/\p.2<=1000):(dm tup r).showable=true/\(dm tup r).hasDict=false/\(dm tup r).depth<=2/\(dm tup r).shown.length<=2300:=by
 have S:=EY h.2 (Zu h.1 (by decide));have all:∀t∈PyData.shownAll (r.map fG),t.length<=20:=λt ht=>by
  have:∀(l:List (Nat×Nat)),(∀p∈l,p.1<=1000/\p.2<=1000)->∀t∈PyData.shownAll (l.map fG),t.length<=20:=by
   intro l;induction l with
   |nil=>intro _ t ht;simp[PyData.shownAll] at ht
   |cons p l ih=>
    intro hp t ht;rw[ZI,PyData.shownAll] at ht;rcases Zs.mp ht with rfl|ht
    ·exact(wg (hp p (by simp)).1 (hp p (by simp)).2).2.2.2
    ·exact ih (λq hq=>hp q (by simp[hq])) t ht
  exact this r h.2 t ht
 have len:(PyData.shownAll (r.map fG)).length=r.length:=by
  have:∀(l:List PyData),(PyData.shownAll l).length=l.length:=by
   intro l;induction l with
   |nil=>rfl
   |cons d l ih=>rw[PyData.shownAll,Zz,Zz,ih]
  rw[this,Zj]
 have dp:=S.dp;unfold dm;cases tup with
 |false=>
  simp only[ZR,aam];refine⟨by rw[PyData.showable,S.sh],by rw[PyData.hasDict,S.nd],by rw[PyData.depth];omega,?_⟩;rw[PyData.shown]
  have:=yY all
  rw[len] at this
  have:=h.1
  omega
 |true=>
  simp only[Z7];refine⟨by rw[PyData.showable,S.sh],by rw[PyData.hasDict,S.nd],by rw[PyData.depth];omega,?_⟩;rw[PyData.shown]
  have:=Jk all
  rw[len] at this
  have:=h.1
  omega
theorem C9(h:Small rows):PyData.showableAll (rows.map (dm tup))=true/\PyData.hasDictAll (rows.map (dm tup))=false/\PyData.depthAll (rows.map (dm tup))<=2/\(PyData.list (rows.map (dm tup))).shown.length<=sizeLine:=by
 have a:∀(l:List (List (Nat×Nat))),(∀r∈l,r.length<=100/\∀p∈r,p.1<=1000/\p.2<=1000)->PyData.showableAll (l.map (dm tup))=true/\PyData.hasDictAll (l.map (dm tup))=false/\PyData.depthAll (l.map (dm tup))<=2/\(PyData.shownAll (l.map (dm tup))).length=l.length/\∀t∈PyData.shownAll (l.map (dm tup)),t.length<=2300:=by
  intro l;induction l with
  |nil=>intro _;simp[PyData.showableAll,PyData.hasDictAll,PyData.depthAll,PyData.shownAll]
  |cons r l ih=>
   intro h;obtain⟨b1,b2,b3,b4,b5⟩:=ih λx hx=>h x (ZC _ hx);obtain⟨c1,c2,c3,c4⟩:=Fv (tup:=tup) (h r Zy);rw[ZI];refine⟨by rw[PyData.showableAll,b1,c1];rfl,by rw[PyData.hasDictAll,b2,c2];rfl,by rw[PyData.depthAll];omega,by rw[PyData.shownAll,Zz,Zz,b4],λt ht=>?_⟩;rw[PyData.shownAll] at ht;rcases Zs.mp ht with rfl|ht
   ·exact c4
   ·exact b5 t ht
 obtain⟨b1,b2,b3,b4,b5⟩:=a rows h.2;refine⟨b1,b2,b3,?_⟩;rw[PyData.shown]
 have:=yY b5
 rw[b4] at this
 have:=h.1
 exact Zu (by omega) (show 300000<=sizeLine by decide)
section
theorem qF(I:Inv X pins σ H s):∀{us:List Addr} {rows:List (List (Nat×Nat))} {vs:List Value},Paired (Hu X.K tup H) us rows->Vals (us.map V.ref) vs->∃as,ReadsAll s.heap vs (rows.map (dm tup)) as
 |[],_,_,.nil,.nil=>⟨_,.nil⟩
 |u::us,_,_,.cons h t,.cons r rs=>by
  obtain⟨ws,hq,hp⟩:=h;cases r;obtain⟨bs,rb⟩:=qF I t rs;rw[ZI];unfold dm;cases tup with
  |false =>simp only[ZR,aam] at hq⊢;obtain⟨its,rv,pl,_⟩:=I.list hq;obtain⟨o,ho,hc,n,hd⟩:=pl.isList;exact⟨_,.cons (.list ho hc hd (by simpa using lA I (we hp) rv)) rb⟩
  |true =>simp only[Z7] at hq⊢;obtain⟨its,rv,pl,_⟩:=I.tuple hq;obtain⟨o,ho,hc,n,hd⟩:=pl;exact⟨_,.cons (.tuple ho hc hd (by simpa using lA I (we hp) rv)) rb⟩
theorem cZ{K:PySem.W.Frag}(tup:Bool)(hg:X.A.guards=some [])(hu:X.A.units+64<cLine)(hK:X.K=K:=by rfl):cG X (.builtin "repr") (λxs H Q=>∃(a:Addr) (us:List Addr) (rows:List (List (Nat×Nat))),xs=[.ref a]/\aq K H a (us.map V.ref)/\Paired (Hu K tup H) us rows/\Small rows/\Q (.str (PyData.list (rows.map (dm tup))).shown) H):=by
 subst hK;rintro pins s σ H xs us Q I r ⟨a,vs,rows,rfl,hq,hp,hs,q⟩;obtain⟨u,rfl,ru⟩:=vals1 r;cases ru;obtain⟨its,rv,pl,_⟩:=I.list hq;obtain⟨o,ho,hc,n,hd⟩:=pl.isList;obtain⟨as,ra⟩:=qF I hp rv;obtain⟨h1,h2,h3,h4⟩:=C9 (tup:=tup) hs;have dp:(PyData.list (rows.map (dm tup))).depth<=3:=by rw[PyData.depth];omega
 exact repr_of_reads' (h₀:=s.heap) (d:=.list (rows.map (dm tup))) (.list ho hc hd (by simpa using ra)) (by rw[PyData.showable,h1]) (PyData.noDict_hsm (by rw[PyData.hasDict,h2])) hg (by omega) (λ_ _ e=>e) (λh' u tk hk=>⟨.str _,H,I.kept hk,⟨u,rfl⟩,q⟩) h4
end
end L9
namespace cM
open PySem PySem.Spec PyProof.Rows L2 L9
abbrev C':Stmt:=top 48 -- OT
structure Fm(K:PySem.W.Frag)(mg:Str->Option Value)(D fV fT fF:Addr)(fdV iD jE:FuncData):Prop where
 fc:FC K mg D
 wF:bx K "web" "Flat.web" Aw fV fdV
 wM:Meth K D "web" fV
 wB:Binds K fdV ["self"] []
 tF:bx K "turns" "Flat.turns" wR fT iD
 tM:Meth K D "turns" fT
 tB:Binds K iD ["self"] []
 aF:bx K "faces" "Flat.faces" Ax fF jE
 aM:Meth K D "faces" fF
 aB:Binds K jE ["self"] []
theorem Jl{K:PySem.W.Frag}{H:Hp}{p q:Addr}{us vs:List Addr}{ps:List (Str×Str)}(hp:aq K H p (us.map V.ref))(hq:aq K H q (vs.map V.ref))(hr:ba H us ps)(hs:ba H vs ps):Bm K H 1 (.ref p) (.ref q):=by refine⟨p,q,_,_,rfl,rfl,.inl ⟨hp,hq⟩,by rw[Zj,Zj,hr.len,hs.len],λi a b ha hb=>?_⟩;rw[Zo] at ha hb;obtain⟨x,ex,rfl⟩:=Zp.mp ha;obtain⟨y,ey,rfl⟩:=Zp.mp hb;obtain⟨e,e1,hx⟩:=hr.get ex;obtain⟨e',e2,hy⟩:=hs.get ey;obtain rfl:e=e':=ZH (e1.symm.trans e2);refine .inr ⟨x,y,_,_,rfl,rfl,.inr ⟨aO.of hx,aO.of hy⟩,rfl,λj c d hc hd=>?_⟩;rw[hc] at hd;cases hd;have m:c∈[V.str e.1,V.str e.2]:=Zr hc;simp only[Zs,aay,or_false] at m;rcases m with rfl|rfl<;>exact⟨rfl,rfl⟩
abbrev WI:List Str:=["_law_flat_here","_law_names_here","_law_ties","_law_due","_law_faces_here","_law_turns_here","_law_found","_law_row"]
theorem AB:aQ WI ["_law_flat_here","_law_names_here","_law_ties","_law_due","_law_faces_here"] (ar C'):=⟨rfl,rfl,rfl,by decide +kernel,rfl,by decide +kernel,by decide +kernel⟩
theorem Jm{K:PySem.W.Frag}{H:Hp}{p q:Addr}{zs:List Str}{n:Nat}(hp:aq K H p (zs.map V.str))(hq:aq K H q (zs.map V.str)):Bm K H n (.ref p) (.ref q):=
 ⟨p,q,_,_,rfl,rfl,.inl ⟨hp,hq⟩,rfl,λi a b ea eb=>by rw[ea] at eb;cases eb;obtain⟨z,_,rfl⟩:=ZD.mp (Zr ea);exact Al.txt⟩
theorem qG{K:PySem.W.Frag}{H:Hp}{as:List Addr}{rows:List (List En)}(h:bC H as rows):Paired (Hu K false H) as rows:=Paired.gp h λa r ⟨us,e,p⟩=>⟨us,aq.of e,p⟩
theorem Dc{K:PySem.W.Frag}{H:Hp}{as:List Addr}{rows:List (List En)}(h:dI H as rows):Paired (Hu K true H) as rows:=Paired.gp h λa r ⟨us,e,p⟩=>⟨us,aO.of e,p⟩
section
variable {P:Program}{w:World}{K:PySem.W.Frag}{mg:Str->Option Value}{base:Heap}{C D fP fS fV fT fF:Addr}{fdP dZ fdV iD jE:FuncData}
def M3(C D:Addr):Sp:=λvs H Q _=>∃(y x q l du fa:Addr) (ns:List Str) (ps:List (Str×Str)) (us ds ts:List Addr) (rows fs:List (List En)),vs=[.ref y,.ref q,.ref l,.ref du,.ref fa]/\cS D H y x rows fs/\bN C H x ns ps/\ns.length<=12/\H q=some (.lst (ns.map V.str))/\H l=some (.lst (us.map V.ref))/\ba H us ps/\H du=some (.lst (ds.map V.ref))/\bC H ds rows/\H fa=some (.lst (ts.map V.ref))/\dI H ts fs/\Small rows/\Small fs/\rows.length<=12/\ns.length+fs.length=ps.length+2/\∀H',av H H'->Q (.bl true) H'
theorem OU(F:bx K "_law_right" "_law_right" C' f fd)(M:Mt K mg C fP fS fdP dZ)(N:Fm K mg D fV fT fF fdV iD jE)(rp:mg "repr" = none)(T:cm mg):aG P w K mg base aS 2 f fd ["_law_flat_here","_law_names_here","_law_ties","_law_due","_law_faces_here"] (M3 C D):=by
 have GP:aG P w K mg base aS 1 fP fdP ["self"] (u7 C):=jC M.pF M.wc T;have GS:aG P w K mg base aS 1 fS dZ ["self"] (zL C):=qS M.sF M.wc T;have GV:aG P w K mg base aS 1 fV fdV ["self"] (Hl D):=MO N.wF N.fc;have GT:aG P w K mg base aS 1 fT iD ["self"] (Hn D):=MQ N.tF N.fc T;have GF:aG P w K mg base aS 1 fF jE ["self"] (Hm D):=MP N.aF N.fc T;refine F.ok AB (λvs H Q E h=>?_) (λcdv A outer s H vs Q E hr h=>?_)
 ·obtain⟨y,x,q,l,du,fa,ns,ps,us,ds,ts,rows,fs,rfl,_⟩:=h;rfl
 ·obtain⟨y,x,q,l,du,fa,ns,ps,us,ds,ts,rows,fs,rfl,hY,hW,Wr,hq,hl,hu,hd,dO,hf,lR,sm1,M4,QT,sum,k⟩:=h;have gd:=hr.gd;have un:=hr.units;refine⟨_,ao (bQ (PW.pt (fg (aZ (uX 0 (low 0 hr)) (bZ (bZ (pv 0) N.fc.cl N.wM GV hr N.wB .nil aK) M.wc.cl M.pM GP hr M.pB .nil aK) (aA jA (by rfl) T.sorted abN (aa (pv 1) af)) (bz _))
    (dM (aZ (uX 1 (low 1 hr)) (bZ (bZ (pv 0) N.fc.cl N.wM GV hr N.wB .nil aK) M.wc.cl M.sM GS hr M.sB .nil aK) (pv 2) (bz _))))) (au (aT dX)) bu)
   (ao (aR (i:=5) AB.nd rfl (Or.inl rfl) (bZ (pv 0) N.fc.cl N.tM GT hr N.tB .nil aK))
   (ao (aR (i:=6) AB.nd rfl (Or.inl rfl) (bZ (pv 0) N.fc.cl N.aM GF hr N.aB .nil aK))
   (ao (bQ (PW.pt (fg (aZ kI (aA (cZ (K:=K) false gd un) (by rfl) rp aa5 (aa (pv 5) af)) (aA (cZ (K:=K) false gd un) (by rfl) rp aa5 (aa (pv 3) af)) (bz _))
    (dM (aZ kI (aA (cZ (K:=K) true gd un) (by rfl) rp aa5 (aa (pv 6) af)) (aA (cZ (K:=K) true gd un) (by rfl) rp aa5 (aa (pv 4) af)) (bz _))))) (au (aT dX)) bu)
   (ao (cH aaa rfl (bo (pv 5)) (aE (i:=7) AB.nd rfl (Or.inl rfl))
    (au (bw (cP ZS aah aai cA (pv 7) (aa (bE (aa aD (aa aD af))) af)))))
   (ao (bw (cP ZS aah aai cA (pv 5) (aa (bV af) af)))
   (ao (bw (cP ZS aah aai cA (pv 6) (aa (bE af) af)))
   (au (aT (jS ua (bc c6 (aA aN (by rfl) T.len ZW (aa (pv 1) af)) (aA aN (by rfl) T.len ZW (aa (pv 4) af))) (bc c6 (aA aN (by rfl) T.len ZW (aa (pv 2) af)) aD) (bz _)))))))))),?_⟩
  try rw[ck]
  obtain⟨d1,f1,q1,r1⟩:=hY.eV "web";obtain⟨d2,f2,q2,r2⟩:=hW.eV "places";refine⟨_,rfl,y,d1,f1,rfl,q1,r1,y,x,rows,fs,rfl,hY,x,d2,f2,rfl,q2,r2,x,ns,ps,rfl,hW,λl1 C2=>?_⟩;have s1:=aj (o:=.lst ((aY ns).map V.str)) C2;have g1:=ai (H:=H) (a:=l1) (o:=.lst ((aY ns).map V.str));generalize upd H l1 (.lst ((aY ns).map V.str))=H1 at s1 g1⊢;refine⟨_,rfl,q,ns,rfl,aq.of (s1 _ _ hq),by omega,λl2 yK=>?_⟩;have s2:=aj (o:=.lst ((aY ns).map V.str)) yK;have g2:=ai (H:=H1) (a:=l2) (o:=.lst ((aY ns).map V.str));generalize upd H1 l2 (.lst ((aY ns).map V.str))=H2 at s2 g2⊢;have s02:=s1.trans s2;refine⟨Jm (aq.of (s2 _ _ g1)) (aq.of g2),_,rfl,?_⟩;have Y2:=hY.same s02;have W2:=hW.same s02;obtain⟨d3,f3,q3,r3⟩:=Y2.eV "web";obtain⟨d4,f4,q4,r4⟩:=W2.eV "ties";refine br ⟨_,rfl,y,d3,f3,rfl,q3,r3,y,x,rows,fs,rfl,Y2,x,d4,f4,rfl,q4,r4,x,ns,ps,rfl,W2,λl3 us3 WJ hu3=>?_⟩;have s3:=aj (o:=.lst (us3.map V.ref)) WJ;have g3:=ai (H:=H2) (a:=l3) (o:=.lst (us3.map V.ref));generalize upd H2 l3 (.lst (us3.map V.ref))=H3 at s3 g3⊢;have s03:=s02.trans s3;refine⟨_,rfl,Jl (aq.of g3) (aq.of (s03 _ _ hl)) (hu3.same s3) (hu.same s03),_,rfl,?_⟩;refine br ?_;have Y3:=hY.same s03;obtain⟨d5,f5,q5,r5⟩:=Y3.eV "turns";refine⟨_,rfl,y,d5,f5,rfl,q5,r5,y,x,rows,fs,rfl,Y3,QT,λl4 as H4 WK fr nm4 WL g4 h4 s4=>?_⟩;have Y4:=Y3.same s4;obtain⟨d6,f6,q6,r6⟩:=Y4.eV "faces";refine⟨_,rfl,y,d6,f6,rfl,q6,r6,y,x,rows,fs,rfl,Y4,λl5 ts5 tQ h5=>?_⟩;have s5:=aj (o:=.lst (ts5.map V.ref)) tQ;have g5:=ai (H:=H4) (a:=l5) (o:=.lst (ts5.map V.ref));generalize upd H4 l5 (.lst (ts5.map V.ref))=H5 at s5 g5⊢;have WM:=s4.trans s5;have s05:=s03.trans WM;have n4:H l4=none:=s03.free WK;have n5:H l5=none:=s03.free (s4.free tQ);have WN:l4≠l5:=aw g4 tQ;refine⟨_,rfl,l4,as,rows,rfl,aq.of (s5 _ _ g4),qG (h4.same s5),sm1,_,rfl,du,ds,rows,rfl,aq.of (s05 _ _ hd),qG (dO.same s05),sm1,rfl,_,rfl,?_⟩;rw[decide_eq_true rfl];refine br ⟨_,rfl,l5,ts5,fs,rfl,aq.of g5,Dc (h5.same s5),M4,_,rfl,fa,ts,fs,rfl,aq.of (s05 _ _ hf),Dc (lR.same s05),M4,rfl,_,rfl,?_⟩;rw[decide_eq_true rfl];refine br ⟨_,rfl,l4,rfl,⟨_,aq.of (s5 _ _ g4)⟩,?_⟩;refine dk (K:=K) (xs:=as.map V.ref) (λi σ H6=>∃v7:Option V,σ=[some (.ref y),some (.ref q),some (.ref l),some (.ref du),some (.ref fa),some (.ref l4),some (.ref l5),v7]/\av H H6/\H6 l4=some (.lst (as.map V.ref))/\(∃ws,H6 l5=some (.lst ws)/\ws.length<=100)/\∀a∈as,∃ws,H6 a=some (.lst ws)/\ws.length<=100+i) ⟨_,rfl,s05,s5 _ _ g4,⟨_,g5,by rw[Zj,ZG h5];exact M4.1⟩,λa ha=>?_⟩ ?_ ?_ ?_
  ·obtain⟨j,ej⟩:=aaz.mp ha;obtain⟨r,ws,er,e,p⟩:=(h4.same s5).get ej;exact⟨_,e,by rw[Zj,p.len];exact(sm1.2 r (Zr er)).1⟩
  ·rintro i σ H6 _ ⟨v7,rfl,s6,g6,_⟩;exact aq.of g6
  ·rintro i v σ H6 hv ⟨v7,rfl,s6,g6,⟨w5,M5,M6⟩,all⟩;have hi:i<12:=by
    have:=(Zq.mp hv).1
    rw[Zj,ZG h4] at this;omega
   rw[Zo] at hv;obtain⟨a,ea,rfl⟩:=Zp.mp hv;have ma:=Zr ea;obtain⟨ws,ha,lw⟩:=all a ma;refine⟨_,rfl,.inl ⟨rfl,_,aq.of ha⟩,(by show 2<=sizeLine;decide),λt nt=>?_⟩;have s7:=aj (o:=.tup [.int 0,.int 0]) nt;show ∃l xs y,_
   refine⟨a,ws,_,rfl,rfl,s7 _ _ ha,Z2 (show ws.length<=112 by omega) (by decide),?_⟩;generalize upd H6 t (.tup [.int 0,.int 0])=H7 at s7⊢;have WO:l4≠a:=λz=>nm4 (z▸ma);have WQ:H a=none:=s03.free (fr a ma);have WR:l5≠a:=λz=>by rw[z] at tQ;obtain⟨j,ej⟩:=aaz.mp ma;obtain⟨r,ws,er,e,p⟩:=h4.get ej;rw[e] at tQ;cases tQ
   refine⟨_,rfl,av.bS (s6.trans s7) WQ,by rw[ak WO];exact s7 _ _ g6,⟨w5,by rw[ak WR];exact s7 _ _ M5,M6⟩,λb hb=>?_⟩;by_cases c:b=a
   ·subst c;exact⟨_,ai,by rw[ZA,aaH];omega⟩
   ·obtain⟨w2,e2,l2⟩:=all b hb;exact⟨w2,by rw[ak c];exact s7 _ _ e2,by omega⟩
  ·rintro σ H6 ⟨v7,rfl,s6,g6,⟨w5,M5,M6⟩,_⟩;refine⟨_,rfl,.inl ⟨rfl,_,aq.of g6⟩,ZE _,λz nz=>?_⟩;have s7:=aj (o:=.lst []) nz;refine⟨l4,_,_,rfl,rfl,s7 _ _ g6,Z2 (show _<=12 by rw[Zj,ZG h4];exact QT) (by decide),?_⟩;have s8:=av.bS (o:=.lst (as.map V.ref++[V.ref z])) (s6.trans s7) n4;have g8:(upd (upd H6 z (.lst [])) l4 (.lst (as.map V.ref++[V.ref z]))) l5=some (.lst w5):=by rw[ak (Z0 WN)];exact s7 _ _ M5
   generalize upd (upd H6 z (.lst [])) l4 (.lst (as.map V.ref++[V.ref z]))=H8 at s8 g8⊢;refine⟨_,rfl,.inl ⟨rfl,_,aq.of g8⟩,ZE _,λz2 WS=>?_⟩;have s9:=aj (o:=.tup []) WS;refine⟨l5,_,_,rfl,rfl,s9 _ _ g8,Z2 M6 (by decide),?_⟩;have s10:=av.bS (o:=.lst (w5++[V.ref z2])) (s8.trans s9) n5;generalize upd (upd H8 z2 (.tup [])) l5 (.lst (w5++[V.ref z2]))=H9 at s10⊢;refine⟨_,rfl,q,_,rfl,.inl (aq.of (s10 _ _ hq)),_,rfl,fa,_,rfl,.inl (aq.of (s10 _ _ hf)),_,_,rfl,rfl,_,rfl,l,_,rfl,.inl (aq.of (s10 _ _ hl)),_,_,rfl,rfl,rfl,?_⟩;rw[decide_eq_true (show V.int (((((ns.map V.str).length:Nat)):Int)+(((ts.map V.ref).length:Nat):Int))=V.int ((((us.map V.ref).length:Nat):Int)+2) by rw[Zj,Zj,Zj,ZG lR,hu.len];congr 1;omega)];exact k _ s10
end
theorem cO.refl:∀(rs:List (List En)),cO rs rs
 |[]=>trivial
 |r::rs=>⟨⟨.refl _,λ_ _=>aeU⟩,cO.refl rs⟩
theorem cO.trans:∀{a b c:List (List En)},cO a b->cO b c->cO a c
 |[],[],[],_,_=>trivial
 |_::_,_::_,_::_,h,k=>⟨h.1.trans k.1,cO.trans h.2 k.2⟩
theorem cO.snoc:∀{a b:List (List En)} {r r':List En},cO a b->iH r r'->cO (a++[r]) (b++[r'])
 |[],[],_,_,_,k=>⟨k,trivial⟩
 |_::_,_::_,_,_,h,k=>⟨h.1,cO.snoc h.2 k⟩
theorem Dd:∀{rows hr due aV:List (List En)},(∀r∈rows,r.Nodup)->cO rows hr->n9 rows due->n9 hr aV->due=aV
 |_,_,_,_,_,_,.nil,.nil=>rfl
 |_,_,_,_,nd,s,.cons a b,.cons c d=>by rw[RL.uniq (nd _ (by simp)) a c s.1,Dd (λr hr=>nd r (by simp[hr])) s.2 b d]
theorem tS(T:Tn n rows)(s:cO rows hr)(d:n9 rows due)(A:qC n hr aV fs)(f0:n=0->fL=[[]])(fn:0<n->jo rows.flatten (Ph rows) fL):due=aV/\fL=fs:=by
 refine⟨Dd (λr hr=>cc T.bW.nd r hr) s d A.rl,?_⟩;by_cases c:n=0
 ·rw[f0 c,A.f0 c]
 ·have s':=s.trans A.rl.sim;exact ES (qm A.tn.bW.nd) ((fn (by omega)).to (λe=>s'.perm.mem_iff) λu v _ h=>(s'.ph u v).mp h) (A.fn (by omega))
theorem lE(R:cW n rows)(n22:n<=22)(l:rows.length<=100):Small rows:=⟨l,λr hr=>by
 have sub:∀e∈r,e∈rows.flatten:=λe he=>ZL.mpr ⟨r,hr,he⟩;refine⟨?_,λp hp=>?_⟩
 ·have:=kh (cc R.nd r hr) sub
  have:=R.two
  omega
 ·have:=(R.mem p).mp (sub p hp)
  omega⟩
theorem rG(R:cW n rows)(n22:n<=22)(hr:r∈rows):r.length<=60:=by
 have:=kh (cc R.nd r hr) λe he=>ZL.mpr ⟨r,hr,he⟩
 have:=R.two
 omega
theorem yZ(R:cW n rows)(n22:n<=22)(F:jo rows.flatten (Ph rows) fs):fs.length<=44/\∀f∈fs,f.length<=44/\∀e∈f,e∈rows.flatten:=by
 have l:=kh F.dec.nd λe he=>(F.dec.mem e).mp he
 have:=jq F.dec.ne
 have:=R.two
 refine⟨by omega,λf hf=>⟨?_,λe he=>(F.dec.mem e).mp (ZL.mpr ⟨f,hf,he⟩)⟩⟩
 have:=kh (cc F.dec.nd f hf) λe he=>ZL.mpr ⟨f,hf,he⟩
 omega
theorem qC.small(A:qC n hr rows fs)(n22:n<=22):Small fs:=by
 by_cases c:n=0
 ·rw[A.f0 c];exact⟨by decide,λr hr=>by rw[ZJ.mp hr];exact⟨by decide,λ_ z=>nomatch z⟩⟩
 ·obtain⟨a,b⟩:=yZ A.tn.bW n22 (A.fn (by omega));refine⟨by omega,λr hr=>⟨?_,λp hp=>?_⟩⟩
  ·have:=(b r hr).1
   omega
  ·have:=(A.tn.bW.mem p).mp ((b r hr).2 p hp)
   omega
theorem qC.sum(A:qC n hr rows fs)(e:rows.length=m)(z:n=0->m=1):m+fs.length=n+2:=by
 by_cases c:n=0
 ·rw[A.f0 c,c,z c];rfl
 ·have:=A.tn.cnt fs (by omega) (A.fn (by omega)).dec
  omega
theorem ku.perm(h:ku z ps r)(p:r.Perm r'):ku z ps r':=⟨p.nodup_iff.mp h.1,λe=>p.mem_iff.symm.trans (h.2 e)⟩
theorem dj.sim:∀{zs:List Str} {rows aV:List (List En)},dj ps zs rows->cO rows aV->dj ps zs aV
 |_,_,[],.nil,_=>.nil
 |_,_,_::_,.cons h t,s=>.cons (h.perm s.1.1) (dj.sim t s.2)
theorem dj.rev:∀{zs:List Str} {rows:List (List En)},dj ps zs rows->dj ps zs (rows.map List.reverse)
 |_,_,.nil=>.nil
 |_,_,.cons h t=>.cons (h.perm (ado _).symm) (dj.rev t)
theorem y0:∀{us:List Addr} {ps:List En},aI H us ps->aI H us.reverse ps.reverse
 |_,_,.nil=>.nil
 |_,_,.cons h t=>by rw[acp,acp];exact gV (y0 t) (.cons h .nil)
def rH(H H':Hp):Prop:=∀c o,H c=some o->(∀zs,o≠.lst zs)->H' c=some o
theorem rH.tup{H H':Hp}(k:rH H H'):∀t xs,H t=some (.tup xs)->H' t=some (.tup xs):=λt xs e=>k t _ e λ_ z=>nomatch z
theorem cS.keep(h:cS D H y x rows fs)(k:rH H H'):cS D H' y x rows fs:=
 let ⟨dy,kt,kf,as,ts,h1,h2,h3,h4,h5⟩:=h
 ⟨dy,kt,kf,as,ts,k _ _ h1 (λ_ z=>nomatch z),k.tup _ _ h2,h3.mono k.tup,k.tup _ _ h4,h5.mono k.tup⟩
theorem bN.keep(h:bN C H x ns ps)(k:rH H H'):bN C H' x ns ps:=
 let ⟨dx,kp,kt,ts,h1,h2,h3,h4⟩:=h
 ⟨dx,kp,kt,ts,k _ _ h1 (λ_ z=>nomatch z),k.tup _ _ h2,k.tup _ _ h3,h4.mono k.tup⟩
section
variable {K:PySem.W.Frag}
theorem oh(ht:H t=some (.lst (as.map V.ref)))(hR:bC H as rows)(l12:rows.length<=100)(aP:∀r∈rows,r.length<=60)
  (he:∀(a:Addr) (H:Hp) (Q:VK),E9 [.ref a] H Q E->te [some (.ref a)] H Q)
  (k:∀(D:Addr) (ds:List Addr) (due:List (List En)) (H':Hp),H D=none->H' D=some (.lst (ds.map V.ref))->bC H' ds due->n9 rows due->av H H'->Q (.ref D) H'):dE [x] [] (bj 0) cD te σ Q (lF K t) H:=by
 have la:as.length=rows.length:=ZG hR;refine cQ (K:=K) (xs:=as.map V.ref) (λi ys H2=>av H H2/\∃ds due,ys=ds.map V.ref/\bC H2 ds due/\n9 (rows.take i) due) ⟨av.refl _,[],[],rfl,.nil,.nil⟩ ?_ ?_ ?_ ?_
 ·rintro i ys H2 hi ⟨_,ds,due,rfl,h1,h2⟩;have e1:=ZG h1;have e2:=ZG h2;rw[ZK] at e2;rw[Zj];exact Zu (show _<=100 by omega) (by decide)
 ·rintro i ys H2 _ ⟨s2,_⟩;exact aq.of (s2 _ _ ht)
 ·rintro i v ys H2 R hv ⟨s2,ds,due,rfl,h1,h2⟩ kR;rw[Zo] at hv;obtain⟨a,ea,rfl⟩:=Zp.mp hv;obtain⟨r,us,er,ha,hp⟩:=(hR.same s2).get ea;simp only[cD,bj,Z7];refine he a H2 _ ⟨a,us,r,rfl,ha,hp,aP r (Zr er),λq vs r' H3 nq g3 h3 rl s3=>kR _ _ ⟨s2.trans s3,ds++[q],due++[r'],by simp,(h1.same s3).snoc ⟨vs,g3,h3⟩,?_⟩⟩;rw[ZO,er];exact aa2 h2 rl
 ·rintro ys H2 ⟨s2,ds,due,rfl,h1,h2⟩ D nD;rw[Zj,la,Z6] at h2;exact k D ds due _ (s2.free nD) ai (h1.same (aj nD)) h2 (s2.trans (aj nD))
theorem tT(ht:H t=some (.lst (as.map V.ref)))(hR:bC H as fs)(l12:fs.length<=100)
  (he:∀(a:Addr) (H:Hp) (Q:VK),kc K [.ref a] H Q->te [some (.ref a)] H Q)
  (k:∀(D:Addr) (ts:List Addr) (H':Hp),H D=none->H' D=some (.lst (ts.map V.ref))->dI H' ts fs->av H H'->Q (.ref D) H'):dE [x] [] (bj 0) cD te σ Q (lF K t) H:=by
 have la:as.length=fs.length:=ZG hR;refine cQ (K:=K) (xs:=as.map V.ref) (λi ys H2=>av H H2/\∃ts,ys=ts.map V.ref/\dI H2 ts (fs.take i)) ⟨av.refl _,[],rfl,.nil⟩ ?_ ?_ ?_ ?_
 ·rintro i ys H2 hi ⟨_,ts,rfl,h1⟩;have e1:=ZG h1;rw[ZK] at e1;rw[Zj];exact Zu (show _<=100 by omega) (by decide)
 ·rintro i ys H2 _ ⟨s2,_⟩;exact aq.of (s2 _ _ ht)
 ·rintro i v ys H2 R hv ⟨s2,ts,rfl,h1⟩ kR;rw[Zo] at hv;obtain⟨a,ea,rfl⟩:=Zp.mp hv;obtain⟨r,us,er,ha,hp⟩:=(hR.same s2).get ea;simp only[cD,bj,Z7];refine he a H2 _ ⟨a,_,rfl,.inl ⟨aq.of ha,λq nq=>kR _ _ ⟨s2.trans (aj nq),ts++[q],by simp,?_⟩⟩⟩;rw[ZO,er];exact aa2 (h1.same (aj nq)) ⟨us,ai,hp.same (aj nq)⟩
 ·rintro ys H2 ⟨s2,ts,rfl,h1⟩ D nD;rw[Zj,la,Z6] at h1;exact k D ts _ (s2.free nD) ai (h1.same (aj nD)) (s2.trans (aj nD))
theorem De(ht:H t=some (.lst (as.map V.ref)))(hR:bC H as rows)(l12:rows.length<=100)
  (he:∀(a:Addr) (xs:List V) (H:Hp) (Q:VK),aq K H a xs->(∀p,H p=none->Q (.ref p) (upd H p (.lst xs.reverse)))->te [some (.ref a)] H Q)
  (k:∀(D:Addr) (ts:List Addr) (H':Hp),H D=none->H' D=some (.lst (ts.map V.ref))->bC H' ts (rows.map List.reverse)->av H H'->Q (.ref D) H'):dE [x] [] (bj 0) cD te σ Q (lF K t) H:=by
 have la:as.length=rows.length:=ZG hR;refine cQ (K:=K) (xs:=as.map V.ref) (λi ys H2=>av H H2/\∃ts,ys=ts.map V.ref/\bC H2 ts ((rows.map List.reverse).take i)) ⟨av.refl _,[],rfl,.nil⟩ ?_ ?_ ?_ ?_
 ·rintro i ys H2 hi ⟨_,ts,rfl,h1⟩;have e1:=ZG h1;rw[ZK,Zj] at e1;rw[Zj];exact Zu (show _<=100 by omega) (by decide)
 ·rintro i ys H2 _ ⟨s2,_⟩;exact aq.of (s2 _ _ ht)
 ·rintro i v ys H2 R hv ⟨s2,ts,rfl,h1⟩ kR;rw[Zo] at hv;obtain⟨a,ea,rfl⟩:=Zp.mp hv;obtain⟨r,us,er,ha,hp⟩:=(hR.same s2).get ea;simp only[cD,bj,Z7];refine he a _ H2 _ (aq.of ha) λq nq=>kR _ _ ⟨s2.trans (aj nq),ts++[q],by simp,?_⟩;rw[ZO,Zo,er];exact bC.snoc (h1.same (aj nq)) ⟨us.reverse,by rw[ai,List.map_reverse],y0 (hp.same (aj nq))⟩
 ·rintro ys H2 ⟨s2,ts,rfl,h1⟩ D nD;rw[Zj,la,aab (by rw[Zj];exact Zn _)] at h1;exact k D ts _ (s2.free nD) ai (h1.same (aj nD)) (s2.trans (aj nD))
end
theorem Fw{K:PySem.W.Frag}{X:Cx}{e st:Expr}{te:TE}{t3:TO}{p2 pos:Pos}(he:PE X e te)(hs:PO X (some st) t3)(hK:X.K=K:=by rfl)(ji:∀a b,∃ops,subscripted (.Slice none none (some st) p2) false a b=operate ops (getItem a b):=by intro a b;exact⟨_,rfl⟩):PE X (.Subscript e (.Slice none none (some st) p2) pos) (GX K te t3):=by subst hK;exact IQ he hs ji
def Kp(H H':Hp):Prop:=∀c o,H c=some o->(∀x y,o≠.lst [.int x,.int y])->H' c=some o
theorem Kp.of(b:cC p H H')(r:Row H p):Kp H H':=λc o e n=>b c o e λz=>by subst z;obtain⟨x,y,e'⟩:=r;rw[e'] at e;cases e;exact n x y rfl
theorem iQ(us:List Addr)(x y:Int):HO.lst (us.map V.ref)≠.lst [.int x,.int y]:=λz=>by
 cases us with
 |nil=>cases z
 |cons u us=>cases z
theorem Jn(us:List Str)(x y:Int):HO.lst (us.map V.str)≠.lst [.int x,.int y]:=λz=>by
 cases us with
 |nil=>cases z
 |cons u us=>cases z
theorem Kp.tup{H H':Hp}(k:Kp H H'):∀t xs,H t=some (.tup xs)->H' t=some (.tup xs):=λt xs e=>k t _ e λ_ _ z=>nomatch z
theorem bC.kp(h:bC H as rows)(k:Kp H H'):bC H' as rows:=Paired.gp h λa r ⟨us,e,p⟩=>⟨us,k _ _ e (iQ us),p.mono k.tup⟩
structure Dt(H:Hp)(q l t du fa:Addr)(zs:List Str)(us:List Addr)(ps:List (Str×Str))(as:List Addr)(rows:List (List En))(ds:List Addr)(due:List (List En))(ts:List Addr)(fL:List (List En)):Prop where
 hq:H q=some (.lst (zs.map V.str))
 hl:H l=some (.lst (us.map V.ref))
 hu:ba H us ps
 ht:H t=some (.lst (as.map V.ref))
 hr:bC H as rows
 hd:H du=some (.lst (ds.map V.ref))
 dO:bC H ds due
 hf:H fa=some (.lst (ts.map V.ref))
 lR:dI H ts fL
section
theorem Dt.kp(d:Dt H q l t du fa zs us ps as rows ds due ts fL)(k:Kp H H'):Dt H' q l t du fa zs us ps as rows ds due ts fL:=
 ⟨k _ _ d.hq (Jn _),k _ _ d.hl (iQ _),d.hu.mono k.tup,k _ _ d.ht (iQ _),d.hr.kp k,k _ _ d.hd (iQ _),d.dO.kp k,k _ _ d.hf (iQ _),d.lR.mono k.tup⟩
theorem Dt.same(d:Dt H q l t du fa zs us ps as rows ds due ts fL)(s:av H H'):Dt H' q l t du fa zs us ps as rows ds due ts fL:=d.kp λc o e _=>s c o e
end
section
variable {P:Program}{w:World}{K:PySem.W.Frag}{mg:Str->Option Value}{base:Heap}{C D:Addr}
theorem made{Q:Hp->Prop}(nx:H x=none)(ndx:H dx=none)(L:Lists H a b ns ps ts)(k:∀H',bN C H' x ns ps->av H H'->Q H') :
  u6 C [.ref x,.ref a,.ref b] (upd (upd H dx (.own x)) x (.ins C dx [])) (λv H2=>v=.a8/\Q H2) R:=by
 have sx:av H (upd (upd H dx (.own x)) x (.ins C dx [])):=av.bS (aj ndx) nx;exact⟨x,a,b,ns,ps,ts,rfl,⟨dx,ai⟩,L.same sx,λH7 W7 b7=>⟨rfl,k H7 W7 (av.but sx b7 nx)⟩⟩
theorem Hv{Q:Hp->Prop}(ny:H y=none)(ndy:H dy=none)(hW:bN C H x ns ps)(M:og ns ps rows)(ht:H t=some (.lst (as.map V.ref)))(hR:bC H as rows)
  (k:∀aV fs H',qC ps.length rows aV fs->cS D H' y x aV fs->av H H'->Q H') :
  Ay C D [.ref y,.ref x,.ref t] (upd (upd H dy (.own y)) y (.ins D dy [])) (λv H2=>v=.a8/\Q H2) R:=by
 have sx:av H (upd (upd H dy (.own y)) y (.ins D dy [])):=av.bS (aj ndy) ny;have aP:=M.aP;exact⟨y,x,t,ns,ps,as,rows,rfl,⟨dy,ai⟩,hW.same sx,⟨M.good,M.ins,by omega⟩,M.Ft,sx _ _ ht,hR.same sx,M.all,M.tn,M.z,M.lim,λaV fs H7 A Y b7=>⟨rfl,k aV fs H7 A Y (av.but sx b7 ny)⟩⟩
theorem og.sim(M:og zs ps rows)(s:cO rows aV):og zs ps aV:=⟨M.good,M.ins,M.aP,M.all.sim s,M.tn.sim s,M.Ft,M.z,M.lim⟩
theorem og.rev(M:og zs ps rows):og zs ps (rows.map List.reverse):=⟨M.good,M.ins,M.aP,M.all.rev,M.tn.rev,M.Ft,M.z,M.lim⟩
theorem og.len(M:og zs ps rows):rows.length=zs.length:=by rw[<-ZG M.all,gg]
theorem qC.len(A:qC n hr rows fs):rows.length=hr.length:=(ZG A.rl).symm
structure Tells(P:Program)(w:World)(K:PySem.W.Frag)(mg:Str->Option Value)(base:Heap)(C D fP fS wX fV fT fF wY y3 y4 y6 y7 y8 y9:Addr)(fdP dZ oY fdV iD jE oZ rJ rK rL rM rN rO:FuncData):Prop where
 m:Mt K mg C fP fS fdP dZ
 WT:Mk K C wX
 bi:Binds K oY ["self","places","ties"] []
 gi:aG P w K mg base aS 4 wX oY ["self","places","ties"] (u6 C)
 fm:Fm K mg D fV fT fF fdV iD jE
 QU:Mk K D wY
 QV:Binds K oZ ["self","web","turns"] []
 WU:aG P w K mg base aS 5 wY oZ ["self","web","turns"] (Ay C D)
 po:Df K mg "_law_pot" va ["_law_script","_law_k"] y3 rJ
 WV:aG P w K mg base aS 1 y3 rJ ["_law_script","_law_k"] (Gg (K:=K))
 tk:Df K mg "_law_take" iG ["_law_pot_here","_law_many"] y4 rK
 WW:aG P w K mg base aS 1 y4 rK ["_law_pot_here","_law_many"] j0
 ft:Df K mg "_law_flat" tR ["_law_pot_here","_law_most","_law_steps"] y6 rL
 WX:aG P w K mg base aS 4 y6 rL ["_law_pot_here","_law_most","_law_steps"] MZ
 rd:Df K mg "_law_round" CQ ["_law_row"] y7 rM
 WY:aG P w K mg base aS 1 y7 rM ["_law_row"] E9
 lf:Df K mg "_law_faces" tO ["_law_turns_here"] y8 rN
 WZ:aG P w K mg base aS 1 y8 rN ["_law_turns_here"] Aq
 ri:Df K mg "_law_right" C' ["_law_flat_here","_law_names_here","_law_ties","_law_due","_law_faces_here"] y9 rO
 W0:aG P w K mg base aS 2 y9 rO ["_law_flat_here","_law_names_here","_law_ties","_law_due","_law_faces_here"] (M3 C D)
 rp:mg "repr" = none
def qH(K:PySem.W.Frag):Sp:=λvs H Q _=>∃(a:Addr) (ns:List Int),vs=[.ref a]/\aq K H a (ns.map V.int)/\ns.length<=63/\∀H',Q (.bl true) H'
abbrev nL:List Str:=["_law_script","_law_k","_law_pot_here","_law_names_here","_law_ties","_law_rows","_law_due","_law_faces_here","_law_handed","_law_row","_law_at","_law_kept","_law_web","_law_flat_here","_law_back","_law_turned_back","_law_turn"]
theorem gL:aQ nL ["_law_script"] (ar kW):=⟨rfl,rfl,rfl,by decide +kernel,rfl,by decide +kernel,by decide +kernel⟩
variable {fP fS wX fV fT fF wY y3 y4 y6 y7 y8 y9:Addr}{fdP dZ oY fdV iD jE oZ rJ rK rL rM rN rO:FuncData}
theorem M7{f:Addr}{fd:FuncData}(F:bx K "law" "law" kW f fd)(B:Tells P w K mg base C D fP fS wX fV fT fF wY y3 y4 y6 y7 y8 y9 fdP dZ oY fdV iD jE oZ rJ rK rL rM rN rO)(T:cm mg):aG P w K mg base aS 7 f fd ["_law_script"] (qH K):=by
 have W3:=B.WV;have W4:=B.WW;have W5:=B.WX;have QW:=B.WY;have QX:=B.WZ;have QY:=B.W0;have GI:=B.gi;have QZ:=B.WU;have M8:(["_law_row"]:List Str).Nodup:=by decide +kernel
 have Q0:(["_law_face"]:List Str).Nodup:=by decide +kernel
 refine F.ok gL (λvs H Q E h=>?_) (λcdv A outer s H vs Q E hr h=>?_)
 ·obtain⟨a,ns,rfl,_⟩:=h;rfl
 ·obtain⟨a,ns,rfl,hS,hlen,k⟩:=h;have h1:=hr.mono (j:=1) (by decide);have h2:=hr.mono (j:=2) (by decide);have h4:=hr.mono (j:=4) (by decide);have h5:=hr.mono (j:=5) (by decide);have gd:=hr.gd;have un:=hr.units;refine⟨_,ao (cH aaa rfl (fX rfl T.range (aa (aA (rW rfl) (by rfl) T.max boot_max (aa aD (aa (aA (AS rfl) (by rfl) T.min af7 (aa (aA aN (by rfl) T.len ZW (aa (pv 0) af)) (aa aD af))) af))) af)) (aE (i:=1) gL.nd rfl (Or.inl rfl))
    (ao (aR (i:=2) gL.nd rfl (Or.inl rfl) (aJ W3 h1 rfl B.po.bK B.po.fn.kp B.po.b .nil aK (aa (pv 0) (aa (pv 1) af))))
    (ao (pC (aJ W5 h4 rfl B.ft.bK B.ft.fn.kp B.ft.b .nil aK (aa (pv 2) (aa aD (aa aD af)))) (cU rfl (aU (aE (i:=3) gL.nd rfl (Or.inl rfl)) (aU (aE (i:=4) gL.nd rfl (Or.inl rfl)) (aU (aE (i:=5) gL.nd rfl (Or.inl rfl)) cv)))))
    (ao (gQ (i:=6) ["_law_row"] [] gL.nd rfl rfl rfl (bA (osc:=(ar kW).names) (N:=nL) rfl rfl (by decide +kernel)) (bP (by decide)) (bo (pv 5)) (λ_ _ _=>aE (i:=0) (show(["_law_row"]:List Str).Nodup from M8) rfl (Or.inl rfl)) (λ_ _ _=>bp)
     (λ_ _ _=>aJ QW h1 rfl B.rd.bK B.rd.fn.kp B.rd.b .nil aK (aa (pv 0) af)))
    (ao (gQ (i:=7) ["_law_face"] [] gL.nd rfl rfl rfl (bA (osc:=(ar kW).names) (N:=nL) rfl rfl (by decide +kernel)) (bP (by decide)) (bo (aJ QX h1 rfl B.lf.bK B.lf.fn.kp B.lf.b .nil aK (aa (pv 5) af))) (λ_ _ _=>aE (i:=0) (show(["_law_face"]:List Str).Nodup from Q0) rfl (Or.inl rfl)) (λ_ _ _=>bp)
     (λ_ _ _=>bR (r:=kc K) bY (by rfl) T.tuple aan (aa (pv 0) af)))
    (ao (aR (i:=8) gL.nd rfl (Or.inl rfl) (bV af))
    (ao (cH aaa rfl (bo (pv 5)) (aE (i:=9) gL.nd rfl (Or.inl rfl))
     (ao (aR (i:=10) gL.nd rfl (Or.inl rfl) (aJ W4 h1 rfl B.tk.bK B.tk.fn.kp B.tk.b .nil aK (aa (pv 2) (aa (bc c6 (aA aN (by rfl) T.len ZW (aa (pv 9) af)) aD) af))))
     (au (bw (cP ZS aah aai cA (pv 8) (aa (bc pP (eB iI (pv 9) (eM (pv 10)) fY) (eB iI (pv 9) fY (eM (pv 10)))) af))))))
    (ao (aR (i:=11) gL.nd rfl (Or.inl rfl) (aA (cZ (K:=K) false gd un) (by rfl) B.rp aa5 (aa (pv 8) af)))
    (ao (aR (i:=12) gL.nd rfl (Or.inl rfl) (qL B.WT GI h5 rfl B.m.wc.Ge B.bi .nil aK (aa (bR dB (by rfl) T.list aaw (aa (pv 3) af)) (aa (bR dB (by rfl) T.list aaw (aa (pv 4) af)) af))))
    (ao (aR (i:=13) gL.nd rfl (Or.inl rfl) (qL B.QU QZ hr rfl B.fm.fc.Ge B.QV .nil aK (aa (pv 12) (aa (pv 8) af))))
    (ao (gQ (i:=14) ["_law_row"] [] gL.nd rfl rfl rfl (bA (osc:=(ar kW).names) (N:=nL) rfl rfl (by decide +kernel)) (bP (by decide)) (bo (pv 5)) (λ_ _ _=>aE (i:=0) (show(["_law_row"]:List Str).Nodup from M8) rfl (Or.inl rfl)) (λ_ _ _=>bp)
     (λ_ _ _=>Fw (K:=K) (pv 0) (eM (NV JW aD))))
    (ao (gQ (i:=15) ["_law_row"] [] gL.nd rfl rfl rfl (bA (osc:=(ar kW).names) (N:=nL) rfl rfl (by decide +kernel)) (bP (by decide)) (bo (pv 14)) (λ_ _ _=>aE (i:=0) (show(["_law_row"]:List Str).Nodup from M8) rfl (Or.inl rfl)) (λ_ _ _=>bp)
     (λ_ _ _=>aJ QW h1 rfl B.rd.bK B.rd.fn.kp B.rd.b .nil aK (aa (pv 0) af)))
    (ao (bQ (aZ kI (aA (cZ (K:=K) false gd un) (by rfl) B.rp aa5 (aa (pv 8) af)) (pv 11) (bz _)) (au (aT dX)) bu)
    (ao (bQ (cq (di (aJ QY h2 rfl B.ri.bK B.ri.fn.kp B.ri.b .nil aK (aa (qL B.QU QZ hr rfl B.fm.fc.Ge B.QV .nil aK (aa (pv 12) (aa (pv 14) af))) (aa (pv 3) (aa (pv 4) (aa (pv 15) (aa
      (dw ["_law_face"] [] rfl (bA (osc:=(ar kW).names) (N:=nL) rfl rfl (by decide +kernel)) (bP (by decide)) (bo (aJ QX h1 rfl B.lf.bK B.lf.fn.kp B.lf.b .nil aK (aa (pv 14) af))) (λ_ _ _=>aE (i:=0) (show(["_law_face"]:List Str).Nodup from Q0) rfl (Or.inl rfl)) (λ_ _ _=>bp)
       (λ_ _ _=>bR (r:=kc K) bY (by rfl) T.tuple aan (aa (pv 0) af))) af)))))) (λ_=>rfl))) (au (aT dX)) bu)
    (ao (cH aaa rfl (bo (pv 8)) (aE (i:=9) gL.nd rfl (Or.inl rfl))
     (au (bw (uL ZS adN adO uN (pv 9)))))
    (ao (bw (uL ZS adN adO uN (pv 8)))
    (au (cH aaa rfl (fX rfl T.range (aa aD af)) (aE (i:=16) gL.nd rfl (Or.inl rfl))
     (au (bQ (cq (di (aJ QY h2 rfl B.ri.bK B.ri.fn.kp B.ri.b .nil aK (aa (pv 13) (aa (pv 3) (aa (pv 4) (aa (pv 6) (aa (pv 7) af)))))) (λ_=>rfl))) (au (aT dX)) bu))))))))))))))))))))
   (au (aT dX)),?_⟩
  try rw[ck]
  refine⟨_,rfl,a,_,rfl,.inl hS,_,_,rfl,_,_,rfl,_,rfl,?_,?_,?_⟩
  ·rw[Zj];split<;>(try split)<;>omega
  ·rw[Zj];split<;>(try split)<;>omega
  refine jx (λi σ H1=>(∃v1 v2 v3 v4 v5 v6 v7 v8 v9 v10 v11 M9 M' Na Nb tU,σ=[some (V.ref a),v1,v2,v3,v4,v5,v6,v7,v8,v9,v10,v11,M9,M',Na,Nb,tU])/\av H H1) ⟨⟨_,_,_,_,_,_,_,_,_,_,_,_,_,_,_,_,rfl⟩,av.refl _⟩ ?_ ?_;rotate_left
  ·rintro σ H1 _;exact k _
  rintro i σ H1 hi ⟨⟨v1,v2,v3,v4,v5,v6,v7,v8,v9,v10,v11,M9,M',Na,Nb,tU,rfl⟩,s1⟩;refine⟨_,rfl,_,rfl,a,ns,0+i,by simp,s1.seq hS,hlen,λp H2 np SR W6=>?_⟩;have Q1:H p=none:=s1.free np;refine⟨_,rfl,p,12,22,rfl,SR,by decide,by decide,by decide,λTp q l t zs us ps as rows H3 nT gT D3 M SS b3=>?_⟩;have s3:av H H3:=av.but (s1.trans W6) b3 Q1;have lr:=M.len;have Wz:=M.good.aP;have oi:=M.aP;have R:=M.tn.bW;refine⟨Tp,_,rfl,aO.of gT,rfl,_,_,rfl,_,_,rfl,_,_,rfl,rfl,?_⟩;refine⟨_,rfl,t,rfl,⟨_,aq.of D3.ht⟩,oh (E:=E0) D3.ht D3.hr (by omega) (λr hr=>rG R oi hr) (λa H Q h=>⟨_,rfl,h⟩) λdu ds due H4 WL g4 h4 W8 s4=>?_⟩;refine⟨_,rfl,t,as,ps.length,rows,rfl,s4 _ _ D3.ht,D3.hr.same s4,R,by rw[R.two];omega,λfl Yv fL H5 tQ g5 h5 s5 f0 fn=>?_⟩;have OV:fL.length<=100:=by
   by_cases c:ps.length=0
   ·rw[f0 c];decide
   ·have:=(yZ R oi (fn (by omega))).1
    omega
  refine⟨fl,rfl,⟨_,aq.of g5⟩,tT g5 h5 OV (λa H Q h=>⟨_,rfl,h⟩) λfa ts H6 Yw g6 h6 s6=>?_⟩;have Nc:=s5.trans s6;have wZ:=s4.trans Nc;have D6:Dt H6 q l t du fa zs us ps as rows ds due ts fL:=⟨wZ _ _ D3.hq,wZ _ _ D3.hl,D3.hu.same wZ,wZ _ _ D3.ht,D3.hr.same wZ,Nc _ _ g4,h4.same Nc,g6,h6⟩
  have rP:Row H6 p:=let ⟨x,y,e⟩:=SS;⟨x,y,wZ _ _ e⟩
  have S6:av H H6:=s3.trans wZ;refine⟨ZE _,λhd Dg=>?_⟩;have s7:=aj (o:=.lst []) Dg;have g7:=ai (H:=H6) (a:=hd) (o:=.lst []);generalize upd H6 hd (.lst [])=H7 at s7 g7⊢;have SU:Row H7 p:=let ⟨x,y,e⟩:=rP;⟨x,y,s7 _ _ e⟩
  have Q2:hd≠p:=λz=>by obtain⟨x,y,e⟩:=rP;rw[z,e] at Dg;cases Dg
  have la:as.length=rows.length:=ZG D6.hr;refine⟨_,rfl,t,rfl,⟨_,aq.of (s7 _ _ D6.ht)⟩,?_⟩;refine dk (K:=K) (xs:=as.map V.ref) (λj σ H8=>∃(v9 v10:Option V) (hs:List Addr) (hr:List (List En)),σ=[some (V.ref a),some (V.int (0+(i:Int))),some (V.ref p),some (V.ref q),some (V.ref l),some (V.ref t),some (V.ref du),some (V.ref fa),some (V.ref hd),v9,v10,v11,M9,M',Na,Nb,tU]/\cC p H6 H8/\Row H8 p/\H8 hd=some (.lst (hs.map V.ref))/\bC H8 hs hr/\cO (rows.take j) hr/\(∀h∈hs,H6 h=none)/\hd∉hs)
   ⟨_,_,[],[],rfl,λc o e _=>s7 _ _ e,SU,g7,.nil,trivial,(λ_ z=>nomatch z),(λz=>nomatch z)⟩ ?_ ?_ ?_
  ·rintro j σ H8 _ ⟨v9,v10,hs,hr,rfl,b8,_⟩;exact aq.of ((D6.kp (Kp.of b8 rP)).ht)
  ·rintro j v σ H8 hv ⟨v9,v10,hs,hr,rfl,b8,Fx,g8,h8,sm,fr,nm⟩;rw[Zo] at hv;obtain⟨c,ec,rfl⟩:=Zp.mp hv;have D8:=D6.kp (Kp.of b8 rP);obtain⟨r,ws,er,hc,hp⟩:=D8.hr.get ec;have lw:ws.length=r.length:=hp.len;have Yx:=rG R oi (Zr er);have jl:j<rows.length:=(Zq.mp er).1;refine⟨_,rfl,_,rfl,c,_,rfl,.inl (aq.of hc),_,_,rfl,rfl,p,_,rfl,Fx,by omega,by rw[Zj];omega,λd H9 d0 d1 Nd b9=>?_⟩;obtain⟨dn,rfl⟩:=aas d0;rw[Zj] at d1;have b69:=b8.trans b9;have k89:=Kp.of b9 Fx;have g9:=b9 _ _ g8 Q2;refine⟨_,rfl,.inl ⟨rfl,_,aq.of g9⟩,nB (n:=9) (m:=10) (i:=dn) (us:=ws) rfl rfl (k89 _ _ hc (iQ _)) (by omega) (by omega) λe gm ne s10 W9=>?_⟩;have lh:hs.length<=12:=by have e1:hs.length=hr.length:=ZG h8;have e2:=sm.len;rw[ZK] at e2;omega
   have Nf:=s10 _ _ g9;refine⟨hd,_,_,rfl,rfl,Nf,Z2 (show _<=12 by rw[Zj];exact lh) (by decide),?_⟩;have n6:H6 e=none:=b69.none ne λz=>by obtain⟨x,y,q⟩:=Nd;rw[z,q] at ne;cases ne
   have Q3:e≠hd:=λz=>by rw[z,g9] at ne;cases ne
   have pr:=gV (fK dn ((hp.mono k89.tup).same s10)) (fQ dn ((hp.mono k89.tup).same s10));have kt:∀t xs,gm t=some (.tup xs)->(upd gm hd (.lst (hs.map V.ref++[V.ref e]))) t=some (.tup xs):=λt xs z=>by rw[ak (cg z Nf λz=>nomatch z)];exact z
   have ol:∀c o,gm c=some o->c≠hd->(upd gm hd (.lst (hs.map V.ref++[V.ref e]))) c=some o:=λc o z n=>by rw[ak n];exact z
   refine⟨_,_,hs++[e],hr++[r.drop dn++r.take dn],rfl,λc o z n=>ol c o (s10 _ _ (b69 c o z n)) λw=>(by rw[w,Dg] at z;cases z),?_,by rw[ai,ZU];rfl,?_,?_,?_,?_⟩
   ·obtain⟨x,y,z⟩:=Nd;exact⟨x,y,ol _ _ (s10 _ _ z) (Z0 Q2)⟩
   ·refine bC.snoc (kr ((h8.kp k89).same s10) (λx hx (z:x=hd)=>nm (z▸hx)) kt ol) ⟨_,ol _ _ W9 Q3,pr.mono kt⟩
   ·rw[ZO,er];exact sm.snoc (tx r dn)
   ·intro h hm;rcases Zv.mp hm with z|z
    ·exact fr h z
    ·rw[ZJ.mp z];exact n6
   ·intro hm;rcases Zv.mp hm with z|z
    ·exact nm z
    ·exact Q3 (ZJ.mp z).symm
  ·rintro σ H8 ⟨v9,v10,hs,hr,rfl,b8,Fx,g8,h8,sm,fr,nm⟩;rw[Zj,la,Z6] at sm;have D8:=D6.kp (Kp.of b8 rP);have Mh:=M.sim sm;have Dh:Small hr:=lE Mh.tn.bW oi (by rw[Mh.len];omega);refine⟨_,rfl,hd,hs,hr,rfl,aq.of g8,qG h8,Dh,?_⟩;refine⟨_,rfl,q,_,rfl,.inl (aq.of D8.hq),λn1 W'=>?_⟩;have t1:=aj (o:=.lst (zs.map V.str)) W';have e1:=ai (H:=H8) (a:=n1) (o:=.lst (zs.map V.str));generalize upd H8 n1 (.lst (zs.map V.str))=H9 at t1 e1⊢;refine⟨_,rfl,l,_,rfl,.inl (aq.of (t1 _ _ D8.hl)),λn2 Xa=>?_⟩;have t2:=aj (o:=.lst (us.map V.ref)) Xa;have e2:=ai (H:=H9) (a:=n2) (o:=.lst (us.map V.ref));generalize upd H9 n2 (.lst (us.map V.ref))=gm at t2 e2⊢;have KA:=t1.trans t2;intro x dx nx ndx _;refine made nx ndx (⟨t2 _ _ e1,e2,D8.hu.same KA,M.good,M.ins,by omega⟩:Lists gm n1 n2 zs ps us) λmU Q4 t3=>?_;have t13:=KA.trans t3;refine⟨_,rfl,_,rfl,?_⟩;intro y dy ny ndy _;refine Hv ny ndy Q4 Mh (t13 _ _ g8) (h8.same t13) λX2 Yy Hg A1 Y1 t4=>?_;have t14:=t13.trans t4;obtain⟨rfl,rfl⟩:=tS M.tn sm W8 A1 f0 fn;have Xb:due.length=zs.length:=by rw[A1.len,Mh.len]
   refine⟨_,rfl,t,rfl,⟨_,aq.of (t14 _ _ D8.ht)⟩,De (t14 _ _ D8.ht) (D8.hr.same t14) (by omega) (λa xs H Q hs k=>⟨_,rfl,_,rfl,_,rfl,a,xs,rfl,rfl,hs,k⟩) λbk bs Yz nb Hw h13 t5=>?_⟩;have Mb:=M.rev;have lb:=Mb.len;refine⟨_,rfl,bk,rfl,⟨_,aq.of Hw⟩,oh (E:=E0) Hw h13 (by omega) (λr hr=>rG Mb.tn.bW oi hr) (λa H Q h=>⟨_,rfl,h⟩) λtb Xc Ng YA YB Xd h14 SV t6=>?_⟩;have t46:=t14.trans (t5.trans t6);refine⟨_,rfl,hd,hs,hr,rfl,aq.of (t46 _ _ g8),qG (h8.same t46),Dh,_,rfl,rfl,_,rfl,?_⟩;rw[decide_eq_true rfl];refine br ?_;refine⟨_,rfl,_,rfl,?_⟩;intro y2 YC Xe SW _;have Nh:=Q4.same (t4.trans (t5.trans t6));refine Hv Xe SW Nh Mb (t6 _ _ Hw) (h13.same t6) λX3 YD YE A2 Y2 t7=>?_;refine⟨_,rfl,_,rfl,_,rfl,_,rfl,bk,bs,ps.length,_,rfl,(t6.trans t7) _ _ Hw,h13.same (t6.trans t7),Mb.tn.bW,by rw[Mb.tn.bW.two];omega,λXf X9 Q5 YF X' Q6 h16 t8 Xg Xh=>?_⟩;obtain⟨rfl,rfl⟩:=tS Mb.tn (cO.refl _) SV A2 Xg Xh;have lB:Q5.length<=100:=(A2.small oi).1;refine⟨Xf,rfl,⟨_,aq.of Q6⟩,tT Q6 h16 lB (λa H Q h=>⟨_,rfl,h⟩) λfb Xi YG YH Xj h17 t9=>?_⟩;have t79:=t7.trans (t8.trans t9);have Xk:=t8.trans t9;have Hx:=t46.trans t79;have Xl:Ng.length=zs.length:=by rw[A2.len,lb]
   refine⟨y2,x,q,l,tb,fb,zs,ps,us,Xc,Xi,Ng,Q5,rfl,Y2.same Xk,Nh.same t79,by omega,Hx _ _ D8.hq,Hx _ _ D8.hl,D8.hu.same Hx,t79 _ _ Xd,h14.same t79,Xj,h17,lE A2.tn.bW oi (by omega),A2.small oi,by omega,A2.sum Xl M.z,λNi Nj=>⟨_,rfl,?_⟩⟩;refine br ?_;have t410:=Hx.trans Nj;have Xm:=Y1.same ((t5.trans t6).trans (t79.trans Nj));have Xn:=Nh.same (t79.trans Nj);have Xo:cC p H6 Ni:=λc o e n=>t410 _ _ (b8 c o e n);refine⟨_,rfl,hd,rfl,⟨_,aq.of (t410 _ _ g8)⟩,?_⟩;refine dk (K:=K) (xs:=hs.map V.ref) (λj σ oj=>∃v9:Option V,σ=[some (V.ref a),some (V.int (0+(i:Int))),some (V.ref p),some (V.ref q),some (V.ref l),some (V.ref t),some (V.ref du),some (V.ref fa),some (V.ref hd),v9,v10,some (.str (PyData.list (hr.map (dm false))).shown),some (V.ref x),some (V.ref y),some (V.ref bk),some (V.ref tb),tU]/\cC p H6 oj/\rH Ni oj/\oj hd=some (.lst (hs.map V.ref))/\∀h∈hs,∃ws,oj h=some (.lst ws))
    ⟨_,rfl,Xo,(λc o e _=>e),t410 _ _ g8,λh hm=>?_⟩ ?_ ?_ ?_
   ·obtain⟨j,ej⟩:=aaz.mp hm;obtain⟨r,ws,er,e,_⟩:=(h8.same t410).get ej;exact⟨_,e⟩
   ·rintro j σ oj _ ⟨v9,rfl,_,_,w4,_⟩;exact aq.of w4
   ·rintro j v σ oj hv ⟨v9,rfl,Nk,Nl,w4,all⟩;rw[Zo] at hv;obtain⟨c,ec,rfl⟩:=Zp.mp hv;have mc:=Zr ec;obtain⟨ws,hc⟩:=all c mc;refine⟨_,rfl,.inl ⟨rfl,_,aq.of hc⟩,c,ws,rfl,rfl,hc,?_⟩;refine⟨_,rfl,λb o e n=>?_,λb o e n=>?_,?_,λh hm=>?_⟩
    ·rw[ak (λz=>by rw[z,fr c mc] at e;cases e)];exact Nk b o e n
    ·have e':=Nl b o e n;rw[ak (λz=>by rw[z,hc] at e';cases e';exact n _ rfl)];exact e'
    ·rw[ak (λ(z:hd=c)=>nm (z▸mc))];exact w4
    ·by_cases z:h=c
     ·rw[z];exact⟨_,ai⟩
     ·rw[ak z];exact all h hm
   ·rintro σ oj ⟨v9,rfl,Nk,Nl,w4,_⟩;refine⟨_,rfl,.inl ⟨rfl,_,aq.of w4⟩,hd,_,rfl,rfl,w4,?_⟩;have Nm:cC p H6 (upd oj hd (.lst [])):=λb o e n=>by rw[ak (λz=>by rw[z,Dg] at e;cases e)];exact Nk b o e n
    have Nn:rH Ni (upd oj hd (.lst [])):=λb o e n=>by have e':=Nl b o e n;rw[ak (λz=>by rw[z,w4] at e';cases e';exact n _ rfl)];exact e'
    generalize upd oj hd (.lst [])=Xp at Nm Nn⊢;have Xq:=D6.kp (Kp.of Nm rP);have Xr:=Xm.keep Nn;have Xs:=Xn.keep Nn;refine⟨_,rfl,by decide,by decide,?_⟩;refine jx (λj σ Np=>(∃tU,σ=[some (V.ref a),some (V.int (0+(i:Int))),some (V.ref p),some (V.ref q),some (V.ref l),some (V.ref t),some (V.ref du),some (V.ref fa),some (V.ref hd),v9,v10,some (.str (PyData.list (hr.map (dm false))).shown),some (V.ref x),some (V.ref y),some (V.ref bk),some (V.ref tb),tU])/\av Xp Np) ⟨⟨_,rfl⟩,av.refl _⟩ ?_ ?_
    ·rintro j σ Np _ ⟨⟨tU,rfl⟩,za⟩;have w6:=Xq.same za;refine⟨_,rfl,_,rfl,_,rfl,_,rfl,_,rfl,y,x,q,l,du,fa,zs,ps,us,ds,ts,due,fL,rfl,Xr.same za,Xs.same za,by omega,w6.hq,w6.hl,w6.hu,w6.hd,w6.dO,w6.hf,w6.lR,lE A1.tn.bW oi (by omega),A1.small oi,by omega,A1.sum Xb M.z,λYI Xt=>⟨_,rfl,?_⟩⟩;exact br ⟨⟨_,rfl⟩,za.trans Xt⟩
    ·rintro σ Np ⟨⟨tU,rfl⟩,za⟩;exact⟨⟨_,_,_,_,_,_,_,_,_,_,_,_,_,_,_,_,rfl⟩,(av.but S6 Nm Q1).trans za⟩
end
section
variable {P:Program}{w:World}{K:PySem.W.Frag}{mg:Str->Option Value}{base:Heap}
variable {C D fP fS fM wX fN fA Xu f1 f2 fW fL yk yl Cb Cc fH fE Xv Xw Xx Xy Xz XA XB XC fV fT fF wY y3 y4 XD y7 y8 XE XF XG XH y6 y9 f:Addr}{fdP dZ fdM oY uZ lL SX KG KH wO kg rh rm vU vV yP yV SY S0 Ta Tb Tc Td Te Tf fdV iD jE oZ rJ rK Tg rM rN Th Ti Tj To rL rO fd:FuncData}
theorem Jo(F:bx K "law" "law" kW f fd)(FI:bx K "__init__" "Web.__init__" pY wX oY)(XI:Mk K C wX)(bI:Binds K oY ["self","places","ties"] [])(M:Mt K mg C fP fS fdP dZ)(MM:Mn K C fM fdM)(FF:bx K "__init__" "Flat.__init__" wQ wY oZ)(XJ:Mk K D wY)(bF:Binds K oZ ["self","web","turns"] [])(FM:Fm K mg D fV fT fF fdV iD jE)
  (DN:Df K mg "is_name" kU ["thing"] fN uZ) (DW:Df K mg "is_whole" ja ["thing"] fW wO) (DA:Df K mg "is_among" jb ["places","thing"] fA lL) (XM:Df K mg "is_tie" qR ["places","thing"] Xu SX) (D1:Df K mg "check_places" m6 ["places"] f1 KG) (D2:Df K mg "check_ties" m7 ["places","ties"] f2 KH)
  (DL:Df K mg "leads" jh ["places","ties"] fL kg) (XN:Df K mg "spread" iK ["steps","start"] yk rh) (XO:Df K mg "turned_pairs" gU ["ties"] yl rm) (yn:Df K mg "pieces_among" vT ["web","among"] Cb vU) (yo:Df K mg "pieces" j9 ["web"] Cc vV) (DH:Df K mg "hangs" mP ["web"] fH yP)
  (DE:Df K mg "ends_at" wL ["web","place"] fE yV) (XQ:Df K mg "is_end" yU ["web","thing"] Xv SY) (XR:Df K mg "are_ends_at" rE ["web","place","things"] Xw S0) (Q7:Df K mg "are_turns" rF ["web","things"] Xx Ta) (XS:Df K mg "from_least" yJ ["ends"] Xy Tb) (XT:Df K mg "ends_behind" CF ["turns"] Xz Tc) (XU:Df K mg "face_from" CG ["behind","first"] XA Td) (Q8:Df K mg "faces_of" yH ["turns"] XB Te) (Q9:Df K mg "check_sums" C3 ["web","faces"] XC Tf)
  (Ra:Df K mg "_law_pot" va ["_law_script","_law_k"] y3 rJ) (Hy:Df K mg "_law_take" iG ["_law_pot_here","_law_many"] y4 rK) (Rb:Df K mg "_law_names" jd ["_law_pot_here","_law_many"] XD Tg) (Rc:Df K mg "_law_round" CQ ["_law_row"] y7 rM) (Nq:Df K mg "_law_faces" tO ["_law_turns_here"] y8 rN) (XW:Df K mg "_law_put_in" yL ["_law_turns_here","_law_end","_law_new"] XE Th) (XX:Df K mg "_law_hung" CV ["_law_pot_here","_law_turns_here","_law_k"] XF Ti) (XY:Df K mg "_law_across" yO ["_law_pot_here","_law_turns_here","_law_k"] XG Tj) (Rf:Df K mg "_law_turns" C0 ["_law_pot_here","_law_most","_law_steps"] XH To) (Rg:Df K mg "_law_flat" tR ["_law_pot_here","_law_most","_law_steps"] y6 rL)
  (Rh:Df K mg "_law_right" C' ["_law_flat_here","_law_names_here","_law_ties","_law_due","_law_faces_here"] y9 rO)
  (ab:mg "abs" = none) (en:mg "enumerate" = none) (rp:mg "repr" = none) (zp:mg "zip" = none) (an:mg "any" = none) (hF:∃t,mg "FACE_NAMES" = some (.str "abcdefghijkl" t)) (T:cm mg):aG P w K mg base aS 7 f fd ["_law_script"] (qH K):=
 M7 F ⟨M,XI,bI,Ij FI M.wc DN DA XM D1 D2 T,FM,XJ,bF,MT FF FM.fc DH (EJ DH.fn yo (Ce yo.fn yn M DL XN XO T) T) Q7 (ML Q7.fn M MM DW DE XQ XR en zp T) XS Q8 (Ow Q8.fn XT XU zp T) Q9 (OR Q9.fn M MM hF T) T,
  Ra,KO Ra.fn T ab,Hy,j6 Hy.fn T,Rg,OS Rg.fn Rf (OH Rf.fn Hy Nq XW XX XY en an T) Rb (EK Rb.fn Hy T) zp en T,Rc,Oz Rc.fn T,Nq,Ar Nq.fn en an T,Rh,OU Rh.fn M FM rp T,rp⟩ T
end
open PySem PySem.Spec PyProof.Rows L2
def FA(K:PySem.W.Frag)(x q:Str)(sS:Stmt)(f:Addr):Prop:=∃fd,bx K x q sS f fd
def DA(K:PySem.W.Frag)(x:Str)(sS:Stmt)(f:Addr):Prop:=PySem.W.nsIn K mainGlobals x=some (some (.ref f))/\FA K x x sS f
def MA(K:PySem.W.Frag)(C:Addr)(x q:Str)(sS:Stmt)(f:Addr):Prop:=PySem.W.findIn K (.ref C) x=some (some (.ref f))/\PySem.W.isFn K (.ref f)=true/\FA K x q sS f
def BO(x q:Str)(sS:Stmt)(ps:List Str):Prop:=∀(kV doc pm:Value) (an:Option Addr) (cdv ct:Value) (us:List Value),us.length=ps.length->bindArgs (PySem.W.fnOf x q (dg sS) (cY sS) (ar sS) .none kV doc pm an cdv ct) ⟨us,[]⟩=pure (ps.zip us)
theorem Ri(h:∀(kV doc pm:Value) (an:Option Addr) (cdv ct u0:Value),bindArgs (PySem.W.fnOf x q (dg sS) (cY sS) (ar sS) .none kV doc pm an cdv ct) ⟨[u0],[]⟩=pure [(p0,u0)]):BO x q sS [p0]:=λkV doc pm an cdv ct us hl=>match us,hl with | [u0],_=>h kV doc pm an cdv ct u0
theorem Rj(h:∀(kV doc pm:Value) (an:Option Addr) (cdv ct u0 u1:Value),bindArgs (PySem.W.fnOf x q (dg sS) (cY sS) (ar sS) .none kV doc pm an cdv ct) ⟨[u0,u1],[]⟩=pure [(p0,u0),(p1,u1)]):BO x q sS [p0,p1]:=λkV doc pm an cdv ct us hl=>match us,hl with | [u0,u1],_=>h kV doc pm an cdv ct u0 u1
theorem Rk(h:∀(kV doc pm:Value) (an:Option Addr) (cdv ct u0 u1 u2:Value),bindArgs (PySem.W.fnOf x q (dg sS) (cY sS) (ar sS) .none kV doc pm an cdv ct) ⟨[u0,u1,u2],[]⟩=pure [(p0,u0),(p1,u1),(p2,u2)]):BO x q sS [p0,p1,p2]:=λkV doc pm an cdv ct us hl=>match us,hl with | [u0,u1,u2],_=>h kV doc pm an cdv ct u0 u1 u2
theorem Rl(h:∀(kV doc pm:Value) (an:Option Addr) (cdv ct u0 u1 u2 u3:Value),bindArgs (PySem.W.fnOf x q (dg sS) (cY sS) (ar sS) .none kV doc pm an cdv ct) ⟨[u0,u1,u2,u3],[]⟩=pure [(p0,u0),(p1,u1),(p2,u2),(p3,u3)]):BO x q sS [p0,p1,p2,p3]:=λkV doc pm an cdv ct us hl=>match us,hl with | [u0,u1,u2,u3],_=>h kV doc pm an cdv ct u0 u1 u2 u3
theorem Rm(h:∀(kV doc pm:Value) (an:Option Addr) (cdv ct u0 u1 u2 u3 u4:Value),bindArgs (PySem.W.fnOf x q (dg sS) (cY sS) (ar sS) .none kV doc pm an cdv ct) ⟨[u0,u1,u2,u3,u4],[]⟩=pure [(p0,u0),(p1,u1),(p2,u2),(p3,u3),(p4,u4)]):BO x q sS [p0,p1,p2,p3,p4]:=λkV doc pm an cdv ct us hl=>match us,hl with | [u0,u1,u2,u3,u4],_=>h kV doc pm an cdv ct u0 u1 u2 u3 u4
theorem da{K:PySem.W.Frag}(a:PySem.W.nsIn K mainGlobals x=some (some (.ref f)))(l:K.lookup f=some ⟨oc,od,.func (PySem.W.fnOf x x (dg sS) (cY sS) (ar sS) .none kY doc pm an cdv ct),osl⟩)(c:PySem.W.codeIn K cdv x=true)(k:PySem.W.keepIn K (.ref f)=true):DA K x sS f:=⟨a,_,Bb l c k⟩
theorem ma{K:PySem.W.Frag}(a:PySem.W.findIn K (.ref C) x=some (some (.ref f)))(i:PySem.W.isFn K (.ref f)=true)(l:K.lookup f=some ⟨oc,od,.func (PySem.W.fnOf x q (dg sS) (cY sS) (ar sS) .none kY doc pm an cdv ct),osl⟩)(c:PySem.W.codeIn K cdv q=true)(k:PySem.W.keepIn K (.ref f)=true):MA K C x q sS f:=⟨a,i,_,Bb l c k⟩
theorem DA.d{K:PySem.W.Frag}(ps:List Str)(a:DA K x sS f)(X:K.In h)(G:h.Ns mainGlobals mg)(b:BO x x sS ps:=by first|exact Ri λ_ _ _ _ _ _ _=>rfl|exact Rj λ_ _ _ _ _ _ _ _=>rfl|exact Rk λ_ _ _ _ _ _ _ _ _=>rfl|exact Rl λ_ _ _ _ _ _ _ _ _ _=>rfl|exact Rm λ_ _ _ _ _ _ _ _ _ _ _=>rfl):∃fd,Df K mg x sS ps f fd:=
 let ⟨fd,F⟩:=a.2
 ⟨fd,F,abu X G a.1,F.binds b⟩
theorem MA.m{K:PySem.W.Frag}(ps:List Str)(a:MA K C x q sS f)(b:BO x q sS ps:=by first|exact Ri λ_ _ _ _ _ _ _=>rfl|exact Rj λ_ _ _ _ _ _ _ _=>rfl|exact Rk λ_ _ _ _ _ _ _ _ _=>rfl|exact Rl λ_ _ _ _ _ _ _ _ _ _=>rfl|exact Rm λ_ _ _ _ _ _ _ _ _ _ _=>rfl):∃fd,bx K x q sS f fd/\Binds K fd ps []/\Meth K C x f:=
 let ⟨fd,F⟩:=a.2.2
 ⟨fd,F,F.binds b,a.1,a.2.1,F.kp⟩
theorem all_mk{l:PySem.W.OpenLaw}{w:World}{K:PySem.W.Frag}{h:Heap}{mg:Str->Option Value}{fa:Addr}(X:K.In h)(G:h.Ns mainGlobals mg)(hfa:mg "law" = some (.ref fa))
  (aC:W.nsIn K mainGlobals "Web" = some (some (.ref C)))
  (h1:MA K C "__init__" "Web.__init__" pY f1)
  (h2:MA K C "places" "Web.places" m9 f2)
  (h3:MA K C "many" "Web.many" ug f3)
  (h4:MA K C "ties" "Web.ties" uh f4)
  (pgC:W.plainGet K C Str.empty=true)
  (hdC:W.hasDictIn K C=true)
  (poC:W.plainOver K C=true)
  (saC:W.findIn K (.ref C) "__setattr__" = some (some (.builtin "object.__setattr__")))
  (mkC:W.makesIn K C=true)
  (kcC:W.keepIn K (.ref C)=true)
  (nAC0:W.findIn K (.ref C) "kept_places" = some none)
  (nAC1:W.findIn K (.ref C) "kept_ties" = some none)
  (acF:W.nsIn K mainGlobals "Flat" = some (some (.ref cF)))
  (h5:MA K cF "__init__" "Flat.__init__" wQ f5)
  (h6:MA K cF "web" "Flat.web" Aw f6)
  (h7:MA K cF "turns" "Flat.turns" wR f7)
  (h8:MA K cF "faces" "Flat.faces" Ax f8)
  (pgcF:W.plainGet K cF Str.empty=true)
  (hdcF:W.hasDictIn K cF=true)
  (pocF:W.plainOver K cF=true)
  (sacF:W.findIn K (.ref cF) "__setattr__" = some (some (.builtin "object.__setattr__")))
  (mkcF:W.makesIn K cF=true)
  (kccF:W.keepIn K (.ref cF)=true)
  (nAcF0:W.findIn K (.ref cF) "kept_web" = some none)
  (nAcF1:W.findIn K (.ref cF) "kept_turns" = some none)
  (nAcF2:W.findIn K (.ref cF) "kept_faces" = some none)
  (h9:DA K "is_name" kU f9)
  (h10:DA K "is_whole" ja YJ)
  (h11:DA K "check_places" m6 YK)
  (h12:DA K "is_among" jb YL)
  (h13:DA K "is_tie" qR YM)
  (h14:DA K "check_ties" m7 YN)
  (h15:DA K "leads" jh YO)
  (h16:DA K "spread" iK YQ)
  (h17:DA K "turned_pairs" gU YR)
  (h18:DA K "pieces_among" vT YS)
  (h19:DA K "pieces" j9 YT)
  (h20:DA K "hangs" mP YU)
  (h21:DA K "ends_at" wL YV)
  (h22:DA K "is_end" yU YW)
  (h23:DA K "are_ends_at" rE YX)
  (h24:DA K "are_turns" rF YY)
  (h25:DA K "from_least" yJ YZ)
  (h26:DA K "ends_behind" CF Y0)
  (h27:DA K "face_from" CG Y5)
  (h28:DA K "faces_of" yH Y6)
  (h29:DA K "check_sums" C3 Y7)
  (h30:DA K "_law_pot" va MU)
  (h31:DA K "_law_take" iG Y8)
  (h32:DA K "_law_names" jd Y9)
  (h33:DA K "_law_round" CQ Y')
  (h34:DA K "_law_faces" tO Za)
  (h35:DA K "_law_put_in" yL Zb)
  (h36:DA K "_law_hung" CV Zc)
  (h37:DA K "_law_across" yO Zd)
  (h38:DA K "_law_turns" C0 Ze)
  (h39:DA K "_law_flat" tR Zf)
  (h40:DA K "_law_right" C' Zg)
  (h41:DA K "law" kW Zh)
  (g_divmod:W.nsIn K mainGlobals "divmod" = some none)
  (g_len:W.nsIn K mainGlobals "len" = some none)
  (g_all:W.nsIn K mainGlobals "all" = some none)
  (g_isinstance:W.nsIn K mainGlobals "isinstance" = some none)
  (g_str:W.nsIn K mainGlobals "str" = some none)
  (g_range:W.nsIn K mainGlobals "range" = some none)
  (g_max:W.nsIn K mainGlobals "max" = some none)
  (g_min:W.nsIn K mainGlobals "min" = some none)
  (g_bool:W.nsIn K mainGlobals "bool" = some none)
  (g_list:W.nsIn K mainGlobals "list" = some none)
  (g_int:W.nsIn K mainGlobals "int" = some none)
  (g_tuple:W.nsIn K mainGlobals "tuple" = some none)
  (g_set:W.nsIn K mainGlobals "set" = some none)
  (g_sorted:W.nsIn K mainGlobals "sorted" = some none)
  (g_abs:W.nsIn K mainGlobals "abs" = some none)
  (g_enumerate:W.nsIn K mainGlobals "enumerate" = some none)
  (g_repr:W.nsIn K mainGlobals "repr" = some none)
  (g_zip:W.nsIn K mainGlobals "zip" = some none)
  (g_any:W.nsIn K mainGlobals "any" = some none)
  (g_LONGEST:W.nsIn K mainGlobals "LONGEST" = some (some (.int 8 Rn)))
  (g_MOST_PLACES:W.nsIn K mainGlobals "MOST_PLACES" = some (some (.int 12 JC)))
  (g_MOST_TIES:W.nsIn K mainGlobals "MOST_TIES" = some (some (.int 30 NN)))
  (gFN:W.nsIn K mainGlobals "FACE_NAMES" = some (some (.str "abcdefghijkl" Zi)))
  : ∃fd:FuncData,(∀(s:Shared) (v:Value),BindsTo s fd ⟨[v],[]⟩ [("_law_script",v)])/\∀base:Heap,K.In base->base.Ns mainGlobals mg->aG l.prog w K mg base aS 7 fa fd ["_law_script"] (qH K):=by
 have e:=hfa.symm.trans (abu X G h41.1);cases e;obtain⟨_,Hz⟩:=h41.2;have xa:=(h1.m ["self","places","ties"]).choose_spec;have Nr:=xa.1;have Nt:=xa.2.1;have TR:=xa.2.2;have o9:=(h2.m ["self"]).choose_spec;have Fy:=o9.1;have Fz:=o9.2.1;have Di:=o9.2.2;have xb:=(h3.m ["self"]).choose_spec;have Nu:=xb.1;have Nv:=xb.2.1;have Jp:=xb.2.2;have xc:=(h4.m ["self"]).choose_spec;have Nw:=xc.1;have Ny:=xc.2.1;have Jq:=xc.2.2;have W:WC K mg C:=⟨⟨pgC,hdC,poC,saC⟩,nAC0,nAC1,abu X G aC⟩
 have XZ:Mk K C f1:=⟨mkC,h1.1,h1.2.1,kcC⟩
 have rQ:=(h5.m ["self","web","turns"]).choose_spec;have Jr:=rQ.1;have Js:=rQ.2.1;have Tq:=rQ.2.2;have xh:=(h6.m ["self"]).choose_spec;have Nz:=xh.1;have NA:=xh.2.1;have Jt:=xh.2.2;have pd:=(h7.m ["self"]).choose_spec;have FD:=pd.1;have FE:=pd.2.1;have Dj:=pd.2.2;have pq:=(h8.m ["self"]).choose_spec;have FG:=pq.1;have FH:=pq.2.1;have Dk:=pq.2.2;have WF:FC K mg cF:=⟨⟨pgcF,hdcF,pocF,sacF⟩,nAcF0,nAcF1,nAcF2,abu X G acF⟩
 have Tr:Mk K cF f5:=⟨mkcF,h5.1,h5.2.1,kccF⟩
 have NB:=(h9.d ["thing"] X G).choose_spec;have Ju:=(h10.d ["thing"] X G).choose_spec;have NC:=(h11.d ["places"] X G).choose_spec;have Jv:=(h12.d ["places","thing"] X G).choose_spec;have OW:=(h13.d ["places","thing"] X G).choose_spec;have ND:=(h14.d ["places","ties"] X G).choose_spec;have Jx:=(h15.d ["places","ties"] X G).choose_spec;have FJ:=(h16.d ["steps","start"] X G).choose_spec;have FK:=(h17.d ["ties"] X G).choose_spec;have Ts:=(h18.d ["web","among"] X G).choose_spec;have FN:=(h19.d ["web"] X G).choose_spec;have Jy:=(h20.d ["web"] X G).choose_spec;have Tt:=(h21.d ["web","place"] X G).choose_spec;have Tu:=(h22.d ["web","thing"] X G).choose_spec;have OX:=(h23.d ["web","place","things"] X G).choose_spec;have OY:=(h24.d ["web","things"] X G).choose_spec;have Tv:=(h25.d ["ends"] X G).choose_spec;have Tw:=(h26.d ["turns"] X G).choose_spec;have Tx:=(h27.d ["behind","first"] X G).choose_spec;have Tz:=(h28.d ["turns"] X G).choose_spec;have TB:=(h29.d ["web","faces"] X G).choose_spec;have OZ:=(h30.d ["_law_script","_law_k"] X G).choose_spec;have NF:=(h31.d ["_law_pot_here","_law_many"] X G).choose_spec;have Jz:=(h32.d ["_law_pot_here","_law_many"] X G).choose_spec;have TC:=(h33.d ["_law_row"] X G).choose_spec;have TF:=(h34.d ["_law_turns_here"] X G).choose_spec;have TH:=(h35.d ["_law_turns_here","_law_end","_law_new"] X G).choose_spec;have TJ:=(h36.d ["_law_pot_here","_law_turns_here","_law_k"] X G).choose_spec;have TK:=(h37.d ["_law_pot_here","_law_turns_here","_law_k"] X G).choose_spec;have TL:=(h38.d ["_law_pot_here","_law_most","_law_steps"] X G).choose_spec;have TM:=(h39.d ["_law_pot_here","_law_most","_law_steps"] X G).choose_spec;have TN:=(h40.d ["_law_flat_here","_law_names_here","_law_ties","_law_due","_law_faces_here"] X G).choose_spec;have FO:=Z5 X G g_divmod;have O1:=Z5 X G g_len;have O2:=Z5 X G g_all;have xi:=Z5 X G g_isinstance;have O3:=Z5 X G g_str;have JA:=Z5 X G g_range;have O4:=Z5 X G g_max;have O5:=Z5 X G g_min;have NG:=Z5 X G g_bool;have NH:=Z5 X G g_list;have O6:=Z5 X G g_int;have JB:=Z5 X G g_tuple;have O7:=Z5 X G g_set;have FP:=Z5 X G g_sorted;have O8:=Z5 X G g_abs;have xB:=Z5 X G g_enumerate;have NI:=Z5 X G g_repr;have O9:=Z5 X G g_zip;have Pa:=Z5 X G g_any;have Dl:=abu X G g_LONGEST;have tZ:=abu X G g_MOST_PLACES;have xC:=abu X G g_MOST_TIES;have T:cm mg:=⟨FO,O1,O2,xi,O3,JA,O4,O5,NG,NH,O6,JB,O7,FP,⟨_,Dl⟩,⟨_,tZ⟩,⟨_,xC⟩⟩
 have M:=Mt.mk W Fy Di Fz Nw Jq Ny;have MM:=Mn.mk Nu Jp Nv;have FM:=Fm.mk WF Nz Jt NA FD Dj FE FG Dk FH;refine⟨_,λs v=>?_,λbase _ _=>Jo Hz Nr XZ Nt M MM Jr Tr Js FM NB Ju Jv OW NC ND Jx FJ FK Ts FN Jy Tt Tu OX OY Tv Tw Tx Tz TB OZ NF Jz TC TF TH TJ TK TL TM TN O8 xB NI O9 Pa ⟨_,abu X G gFN⟩ T⟩;obtain⟨oc,od,kV,doc,pm,an,cdv,ct,osl,rfl,lk,hcd⟩:=Hz.ex;exact .of_eq rfl
theorem walk{l:PySem.W.OpenLaw}{q:Program}{loose:List Str}{XP:(Str->Option Value)->Heap->Prop}{YP:World->Heap->Prop}{d:DefRec}{K:Params->PySem.W.Frag}(hn:l.most=some 63)(hdf:d.params.defaults=[])
  (hY:∀(w:World) (h:Heap),YP w h->(K w.params).In h)
  (F:∀(w:World) (mg:Str->Option Value) (fa:Addr) (h:Heap),(K w.params).In h->h.Ns mainGlobals mg->mg d.name=some (.ref fa) ->
   ∃fd:FuncData,(∀(s:Shared) (u:Value),BindsTo s fd ⟨[u],[]⟩ [("_law_script",u)])/\∀base:Heap,(K w.params).In base->base.Ns mainGlobals mg->aG l.prog w (K w.params) mg base aS 7 fa fd ["_law_script"] (qH (K w.params))) :
  PySem.W.WalkO q loose XP YP l.row.toRowW d [] (λf vs=>PySem.call f vs):=
 L2.HN (n:=63) (k:=7) (x:="_law_script") (CX:=λ_=>aS) (sp:=λw=>qH (K w.params)) hn (by decide) hdf ⟨rfl,by decide,by decide,rfl⟩ hY F (λ_ _ a ns hl _ hS=>⟨a,ns,rfl,hS,hl,λ_=>rfl⟩) λ_ _ _ _ _ z=>z
end cM
namespace PySem.W.Fast
def tw799399513780328132:Unit:=()
def tw2100513107318380516:Unit:=()
def tw16671721667671706352:Unit:=()
def tw3822540565628512201:Unit:=()
def tw3017271820083458464:Unit:=()
def tw7793917431092687789:Unit:=()
def tw8903981556344225895:Unit:=()
def tw3129309662313215719:Unit:=()
def tw1516462645617200422:Unit:=()
def tw17017966806219609347:Unit:=()
def tw15398434241032095440:Unit:=()
def tw10128347148525851089:Unit:=()
def tw14438583326178548723:Unit:=()
def tw16887468297632239204:Unit:=()
def tw8758950170904055887:Unit:=()
def tw9191372745037891185:Unit:=()
def tw12547543637512582584:Unit:=()
def tw2498836505354776773:Unit:=()
def tw11267690888496044241:Unit:=()
def tw1373983492533227134:Unit:=()
def tw18276577647392429512:Unit:=()
def tw5353359744751575364:Unit:=()
def tw835624231006562006:Unit:=()
def tw3957373166566693028:Unit:=()
def tw4484066071615096383:Unit:=()
def tw1921401345263309135:Unit:=()
def tw14255335497492557241:Unit:=()
def tw6692512400632177618:Unit:=()
def tw3685494690306792442:Unit:=()
def tw2226349186889540522:Unit:=()
def tw17227666344459487224:Unit:=()
def tw10005999638213088741:Unit:=()
def tw15334877880309625265:Unit:=()
def tw906803299541290588:Unit:=()
def tw13757471216883774463:Unit:=()
def tw16169962908231669616:Unit:=()
def tw16784761325709564645:Unit:=()
def tw2132338492193128805:Unit:=()
def tw5968668434337769217:Unit:=()
def tw10939966349413453899:Unit:=()
def tw17903758151275123234:Unit:=()
def tw5929910434924194329:Unit:=()
def tw18146652115877085696:Unit:=()
def tw10166043982555342202:Unit:=()
def tw15681393171348207508:Unit:=()
def tw11242893902286879146:Unit:=()
def tw11763623127501180249:Unit:=()
def tw1198913912999893089:Unit:=()
def tw9874654680802475897:Unit:=()
def tw8914908664388029385:Unit:=()
def tw17466742848043105886:Unit:=()
def tw11497891837460183854:Unit:=()
def tw8759994963947079886:Unit:=()
def tw2471453472788589064:Unit:=()
def tw17607464606499231713:Unit:=()
def tw5049440292547818697:Unit:=()
def tw8891584990262952399:Unit:=()
def tw17385174971481686220:Unit:=()
def tw5141326217329259356:Unit:=()
def tw16432849626718608818:Unit:=()
def tw15815180127307708107:Unit:=()
def tw17070953798107179998:Unit:=()
def tw2252368257964091639:Unit:=()
def tw2116950497091871737:Unit:=()
def tw17122972004875350832:Unit:=()
def tw921309482871222393:Unit:=()
def tw7134873521933076536:Unit:=()
def tw6892302829139553498:Unit:=()
def tw9960057368208972622:Unit:=()
def tw17450369948700176317:Unit:=()
def tw10583386600414560464:Unit:=()
def tw6433843252055748378:Unit:=()
def tw17368706257253610405:Unit:=()
def tw1501991793360826725:Unit:=()
def tw3679140701946468473:Unit:=()
def tw5846141910690376957:Unit:=()
def tw3019785944715632440:Unit:=()
def tw6849244416468023135:Unit:=()
def tw11182749502024894912:Unit:=()
def tw4102117643219356460:Unit:=()
def tw17266996852675093339:Unit:=()
def tw15143821431402132165:Unit:=()
def tw8851680968797134105:Unit:=()
def tw12755146989464505520:Unit:=()
def tw13743655524010589476:Unit:=()
def tw16812018848944766149:Unit:=()
def tw14983745644099499632:Unit:=()
def tw17671394350824139343:Unit:=()
def tw3058828690550719347:Unit:=()
def tw9363733337455853643:Unit:=()
def tw15231265458776015485:Unit:=()
def tw10339515842633573242:Unit:=()
def tw14001417469964069319:Unit:=()
def tw15415114688974010409:Unit:=()
def tw12896975246548754050:Unit:=()
def tw15042139617713532785:Unit:=()
def tw5992576823800871857:Unit:=()
def tw17153395409880319254:Unit:=()
def tw2438454589745205121:Unit:=()
def tw1703245149305698231:Unit:=()
def tw14061087916741807980:Unit:=()
def tw1664034401160277880:Unit:=()
def tw924774613658398818:Unit:=()
def tw8391422582771864959:Unit:=()
def tw10907678969629462521:Unit:=()
def tw13990673353220323343:Unit:=()
def tw6076038638122458394:Unit:=()
def tw2006988904287790192:Unit:=()
def tw7631065397322255994:Unit:=()
def tw5593157866217977234:Unit:=()
def tw4401217429065588159:Unit:=()
def tw17675808227732683188:Unit:=()
def tw10936185844639488774:Unit:=()
def tw5664915555032294074:Unit:=()
def tw4538264455644026107:Unit:=()
def tw5949885451115673103:Unit:=()
def tw8328406726767747486:Unit:=()
def tw3915971992220033876:Unit:=()
end PySem.W.Fast
open PySem PySem.W PyProof.Rows
set_option maxRecDepth 100000 in
set_option maxHeartbeats 0 in
theorem PySem.Challenge.cw_cutmeet_k71_flats_told_holds : PySem.Challenge.rw_cutmeet_k71_flats_told.Holds := by
  w_on; o_law; k_head; (case hw => w_witness2)
  k_fill
  refine cM.walk (l := PySem.Challenge.rw_cutmeet_k71_flats_told) rfl rfl (λw h Y => PySem.W.kIn_of Y) ?F
  case F=>
    intro w mg fa h KX G Ba;refine' cM.all_mk KX G Ba ?_ ?_ ?_ ?_ ?_ ?_ ?_ ?_ ?_ ?_ ?_ ?_ ?_ ?_ ?_ ?_ ?_ ?_ ?_ ?_ ?_ ?_ ?_ ?_ ?_ ?_ ?_ ?_ ?_ ?_ ?_ ?_ ?_ ?_ ?_ ?_ ?_ ?_ ?_ ?_ ?_ ?_ ?_ ?_ ?_ ?_ ?_ ?_ ?_ ?_ ?_ ?_ ?_ ?_ ?_ ?_ ?_ ?_ ?_ ?_ ?_ ?_ ?_ ?_ ?_ ?_ ?_ ?_ ?_ ?_ ?_ ?_ ?_ ?_ ?_ ?_ ?_ ?_ ?_ ?_ ?_ ?_ ?_
    all_goals try (refine' cM.da ?_ ?_ ?_ ?_)
    all_goals try (refine' cM.ma ?_ ?_ ?_ ?_ ?_)
    all_goals try k_is
