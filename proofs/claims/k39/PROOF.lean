import PyProof.Rows.All
import Wide.All
import OpenK.AllK
import Wide.FinOn
import Lean
import PyProof.EqAt
import PyProof.EqKinds
import PyProof.TupleCall
import PyProof.NeKinds
import KE.KDictSum
import PyProof.DictCompW
import PyProof.Rows.FactsN_abs
import PyProof.DictIter
import PyProof.EnumFor
import PyProof.EnumMake
import PyProof.EnumStmt
import PyProof.Rows.SortShellK
import PyProof.Rows.SortStr
import PyProof.DictKinds
import PyProof.TupleKey
import PyProof.StrLawsRepr
import PyProof.ZipIter
import PyProof.Rows.ZipGen
import PyProof.StrLawsTight
import PySem.Challenge.RW_cutmeet_k39_crossing_by_names
set_option Elab.async false
set_option linter.all false
set_option maxRecDepth 100000
open List renaming length_map->aak,getElem?_eq_getElem->aam,mem_append_right->aan,getElem?_map->aaq,size_toArray->aas,mem_of_getElem?->aat,mem_cons_self->aau,mem_cons->aav,mem_cons_of_mem->aaw,mem_singleton->aaA,mem_append->aaD,take_of_length_le->aaF,getElem?_eq_some_iff->aaH,take_add_one->aaI,mem_append_left->aaL,length_append->aaM,mem_map->aaN,map_cons->aaQ,length_take->aaR,mem_filter->aaU,map_append->aaY,length_cons->aa0,nodup_cons->aa6,getElem_of_mem->aa7,length_filter_le->aa',lookup_cons->aba,getElem_mem->abd,getElem?_append_left->abf,pairwise_iff_getElem->abj,mem_range->abl,getElem?_append_right->abn,exists_mem_of_ne_nil->abp,append_nil->abr,filter_append->abt,filter_cons->abv,all_eq_true->abE,length_replicate->abI,countP_eq_length_filter->abN,getElem?_replicate->abO,length_pos_of_mem->abR,getD_eq_getElem?_getD->abS,length_singleton->abT,getElem?_eq_none->abU,foldl_cons->abV,getElem_toArray->abW,length_eq_zero_iff->ab1,length_pos_iff->ab2,not_mem_nil->ab3,any_cons->ab9,any_eq_false->aca,nodup_append->acd,length_range->ace,getElem?_set_ne->acf,replicate_succ'->acg,nodup_nil->aci,all_map->acj,countP_cons->ack,replicate_succ->acm,find?_cons->aco,pairwise_cons->acp,eq_nil_of_length_eq_zero->acq,append_assoc->acr,map_map->acv,nodup_range->acy,all_cons->acA,mem_map_of_mem->acF,of_mem_zip->acG,length_nil->acH,length_erase_of_mem->acJ,flatten_cons->acO,filter_congr->acP,range_succ_eq_map->acQ,sum_cons->acU,take_length->acW,length_eq_countP_add_countP->acY,eraseIdxIfInBounds_toArray->ac2,any_map->ac7,filterMap_cons->adb,map_eq_nil_iff->adf,forIn_nil->adg,mem_filterMap->adh,perm_ext_iff_of_nodup->adn,length_eraseIdx_of_lt->ado,foldl_append->ads,mem_or_eq_of_mem_set->adA,map_nil->adD,any_eq_true->adG,filterMap_cons_some->adI,eraseIdx_cons_succ->adJ,forIn_cons->adP,range_succ->adS,filter_nil->adT,countP_nil->adU,getElem?_set_self->adZ,filter_eq_nil_iff->ad7,getElem?_toArray->aeg,mem_erase_of_ne->aen,pairwise_append->aep,mem_of_mem_take->aeq,map_congr_left->aeu,map_set->aeJ,ext_getElem?->aeU,getElem_take->aeW,mapM_toArray->aeY,pairwise_map->aeZ,not_lt->ae3,getElem_inj->ae4,le_antisymm->ae8,isEmpty_nil->ae',mem_flatMap->afa,length_set->aff,zipIdx_nil->afo,lt_irrefl->afp,take_zero->afq
open Nat renaming le_refl->aal,le_trans->aap,ne_of_lt->aaG,lt_of_lt_of_le->aaT,zero_le->aaZ,lt_irrefl->aa8,le_of_lt->abe,lt_succ_self->abg,le_succ->abu,lt_succ_of_lt->abx,min_le_right->abF,lt_of_le_of_lt->abJ,lt_succ_iff_lt_or_eq->abY,zero_add->ab4,not_lt_zero->ab7,lt_trichotomy->acb,mul_le_mul->acx,lt_or_ge->acK,le_add_right->acZ,ne_of_gt->ac3,mod_lt->ac',add_sub_cancel->adj,le_succ_of_le->adw,not_lt->adx,succ_le_succ->adB,mul_comm->adC,le_of_not_lt->adE,succ_pos->adH,min_eq_left->adW,le_of_eq->aey,succ_mul->aeC,lt_trans->aeD,eq_zero_or_pos->aeI,lt_of_le_of_ne->aeL,le_of_lt_succ->aeX,max_eq_right->afb,le_antisymm->afm,zero_lt_one->afn,add_zero->afV,sub_zero->afW
open PySem.Heap renaming get?_push_of_some->aao,lt_size->aay,get?_push_size->aaC,size_push->abk,get?_update_other->abq,get?_update_self->aby
open Option renaming map_eq_some_iff->aar,toList_some->abL,map_some->ac5,isSome_map->aeQ,getD_none->ae6
open PySem renaming boot_len->aax,mem_of_lookup->abb,wpAny_Call_Name_kw->abB,wpAny_passesOwn->ab6,plainId_quiet->acB,isSubtype_type->acN,codeAny_loop->ac6,codeAny_of_tree->ac8,codeAny_call_builtin->ac9,wpAny_callSpecial?_slot->adM,wpAny_ite_split->adR,sizeLine_eq->ad0,codeAny_compStart_list->ad5,wpAny_isTrue_Compare1->ad9,exec_Assign_Name_used->ad',builtinLookup_eq_fast->aef,wpAny_call->aek,wpAny_pyIter_tuple->aex,seqIndex_neg->aeB,wpAny_assign_Name->aeM,wpAny_pyIter_slot->aeT,seqIndex_of->ae0,wpAny_execs_cons->ae5,wpAny_forIn_list->afc,wpAny_Name->afd,typeLookup_type->afl,evalPart_none->afu,call_list_seq->afv,eval_ListComp->afw,wpAny_notedAt->afx
open Bool renaming false_eq_true->aaB,false_ne_true->aaK,and_eq_true->abh,not_eq_true'->abG,eq_iff_iff->abH,true_and->ab',and_false->acu,not_true->acD,false_and->acM,not_false->aej,or_eq_false_iff->aeo,or_false->aer,eq_false_iff->aeS,or_eq_true->afk
open Array renaming getElem?_eq_getElem->aaE,length_toList->aaV,getElem?_toList->aa9,getElem?_eq_some_iff->acC,toList_push->adt,toList_inj->adF,size_map->aei,forIn_toList->aeK
open PySem.F renaming plainAttrs_list->aaJ,slot_list_append->aaO,type_list_append->aaP,called_set->ab5,typeCall_set_1->acR,entry_set_init->acS,sub_list_frozenset->adl,plain_extend_loop->ady,entry_list_sort->adK,plain_list_iadd->adN,slot_list_sort->ad6,slot_list_pop->aec,type_list_pop->aed,plain_set_new->aee,slot_set_iter->aeh,sub_list_set->aem,entry_list_pop->ae7,slot_int_rmul->afh
open Option.some renaming inj->aaS
open PySem.PassesOwn renaming never->aaW
open Ne renaming symm->aaX
open PyProof.Rows renaming boot_list->aa1,boot_tuple->aa5,boot_isinstance->abm,callWith_type1->abA,pairsOf_size->acL,boot_sorted->acT,boot_all->acV,boot_str->ac0,boot_set->ac1,callWith_builtin1->ac4,KK_mirror_equal->adV,get?_update_seq->adX,subscriptTail_builtinR->ad2,boot_int->aea,boot_abs->aeb,plain_sorted->aeG,entry_sorted->aeH,kind_sorted->ae2,Subscript_->afe,units_in1->afs,Compare_chain->aft,boot_bool->af0
open PySem.W renaming mg_none_of->aa2,kia_one->abz,mg_of->acE,plainGet_of->ade,cellsFrom_some->ad1,callWith_K->aeA,kitx_list->aeN,kitx_dict->aeO,sum_set->afr
open Int renaming eq_ofNat_of_zero_le->abo,toNat_natCast->ab0,emod_lt_of_pos->adi,emod_nonneg->adQ
open PySem.Heap.SameBut renaming update->abw,refl->adq
open PySem.Obj renaming data_mapFields->abK,isFreed_of_fields->acw,cls_mapFields->adu
open PySem.Around renaming under_plainId->abM
open PyProof.Rows.F renaming plain_set_update_loop->abP,entry_set_update_loop->acn
open PySem.EqBoolInt renaming of_rcne->abQ
open PyProof.Rows.KeyOrd renaming kle_refl->abX,kle_of_not_klt->ab8,kle_of_klt->acs,kle_trans->acX,kle_antisymm->aet
open Classical renaming byContradiction->ach
open PySem.Paired renaming length->acz,snoc->ad4
open PySem.Calls renaming call_function_entry->acI,Name_function_global->adk,callWith_builtin->ad3,spliced_cons->aez,spliced_nil->aeP
open PySem.Value renaming isStrOf_shape->ada
open PySem.SeqAt.RcNeAt renaming lists_lengths->adm,tuples->aes,lists->aeF
open PySem.BindsTo renaming of_eq->adp
open Decidable renaming byContradiction->adz,not_not->agi
open PySem.SeqAt renaming eq_list_lengthsAt->adL,eq_tupleAt->ae9,in_listAt->afg,eq_listAt->afj
open PySem.SeqAt.EqAt renaming same->adO,int_str->aev,str_int->aew,of_refs->aeE,none_bool->af2,bool_none->af3,bool_bool->af4,none_int->af5,none_str->af6,bool_int->af7,bool_str->af8,int_none->af9,int_bool->af',str_none->aga,str_bool->agb,int_int->agf,str_str->agg
open Sum.inr renaming inj->adY
open PySem.SetTable renaming insertAt_perm->ad8
open PySem.Walks renaming list->ael
open PySem.SeqAt.RcAt renaming tuples->aeR,lists->agk
open Function renaming comp_def->aeV
open PySem.AutoListH renaming list___mul___list_int_3->ae1
open PySem.Heap.DictOf renaming new->afi
open PySem.EqNone renaming eq_none_none->afy,eq_none_bool->afz,eq_bool_none->afA,ne_none_none->afD,ne_none_bool->afE,ne_bool_none->afF,eq_none_int->afI,eq_none_str->afJ,eq_int_none->afK,eq_str_none->afM,ne_none_int->afO,ne_none_str->afP,ne_int_none->afQ,ne_str_none->afS
open PySem.EqMixed renaming eq_bool_str->afB,eq_str_bool->afC,ne_bool_str->afG,ne_str_bool->afH,eq_int_str->afL,eq_str_int->afN,ne_int_str->afR,ne_str_int->afT
open PySem.Str.mk renaming injEq->afU
open Eq renaming trans->afX
open List.Pairwise renaming imp_of_mem->afY
open PySem.Moved renaming trans->afZ
open List.Perm renaming append_left->af1
open PyProof.Rows.IsTup renaming new->agc
open PySem.W.Looks renaming here->agd
open PySem.Heap.IsSliceOf renaming new->age
open PySem.Within renaming cons->agh
open PySem.IsL renaming update->agj
open Array.Perm renaming refl->agl
open List.cons renaming injEq->agm
def aaz:=@decide_eq_false
def aa3:=@if_false
def aa4:=@if_true
def abi:=@decide_eq_true_eq
def abC:=@decide_eq_true_iff
def abD:=@decide_eq_false_iff_not
def abZ:=@of_decide_eq_true
namespace L2
open PySem PySem.Spec PyProof.Rows
abbrev Key:=Sum Int Str
def lR:Key->Value->Bool
 |.inl k,v=>Value.isInt k v
 |.inr x,v=>Value.isStrOf x v
def TV(w:World):Key->Int
 |.inl k=>hashInt k
 |.inr x=>hashStr w x
theorem cM:∀{k:Key} {v:Value},lR k v=true->(∃i t,k=Sum.inl i/\v=Value.int i t)\/(∃x t,k=Sum.inr x/\v=Value.str x t)
 |.inl i,v,h=>by obtain⟨t,e⟩:=Value.isInt_shape (k:=i) (v:=v) h;exact .inl ⟨i,t,rfl,e⟩
 |.inr x,v,h=>by obtain⟨t,e⟩:=ada (x:=x) (v:=v) h;exact .inr ⟨x,t,rfl,e⟩
theorem BK(i:Int)(t:Tok):lR (.inl i) (.int i t)=true:=by simp[lR,Value.isInt]
theorem BL(x:Str)(t:Tok):lR (.inr x) (.str x t)=true:=by simp[lR,Value.isStrOf]
theorem KS(a b:Int):decide ((Sum.inl a:Key)=Sum.inl b)=(a==b):=by
 by_cases e:a=b
 ·subst e;simp
 ·have h:¬ (Sum.inl a:Key)=Sum.inl b:=λq=>e (Sum.inl.inj q);rw[aaz h];exact(beq_eq_false_iff_ne.mpr e).symm
theorem KU(a b:Str):decide ((Sum.inr a:Key)=Sum.inr b)=decide (a=b):=by
 by_cases e:a=b
 ·subst e;simp
 ·have h:¬ (Sum.inr a:Key)=Sum.inr b:=λq=>e (adY q);rw[aaz h,aaz e]
theorem KW(a:Int)(b:Str):decide ((Sum.inl a:Key)=Sum.inr b)=false:=aaz (λq=>nomatch q)
theorem KY(a:Str)(b:Int):decide ((Sum.inr a:Key)=Sum.inl b)=false:=aaz (λq=>nomatch q)
def bT(prog:Program)(w:World):PySem.KeyKind prog w Key where
 is:=lR
 hash:=TV w
 inj:=λv a b ha hb=>by
  rcases cM ha with⟨i,t,rfl,rfl⟩|⟨x,t,rfl,rfl⟩
  ·rcases cM hb with⟨j,u,rfl,e⟩|⟨y,u,rfl,e⟩
   ·injection e with e1 _;rw[e1]
   ·exact nomatch e
  ·rcases cM hb with⟨j,u,rfl,e⟩|⟨y,u,rfl,e⟩
   ·exact nomatch e
   ·injection e with e1 _;rw[e1]
 byValue:=λk v h=>by rcases cM h with⟨i,t,rfl,rfl⟩|⟨x,t,rfl,rfl⟩<;>rfl
 pyHash:=λhv h=>by
  rcases cM hv with⟨i,t,rfl,rfl⟩|⟨x,t,rfl,rfl⟩
  ·exact wpAny_pyHash_int h
  ·exact wpAny_pyHash_str h
 eqBool:=λhu hv h=>by
  rcases cM hu with⟨i,t,rfl,rfl⟩|⟨x,t,rfl,rfl⟩
  ·rcases cM hv with⟨j,u,rfl,rfl⟩|⟨y,u,rfl,rfl⟩
   ·rw[KS] at h;exact wpAny_eqBool_int h
   ·rw[KW] at h;exact aev i t y u _ _ _ _ h
  ·rcases cM hv with⟨j,u,rfl,rfl⟩|⟨y,u,rfl,rfl⟩
   ·rw[KY] at h;exact aew x t j u _ _ _ _ h
   ·rw[KU] at h;exact wpAny_eqBool_str h
 «strs»:=λk x t v h=>by
  rcases cM h with⟨i,u,rfl,e⟩|⟨y,u,rfl,e⟩
  ·exact nomatch e
  ·injection e with e1 _;subst e1;cases v<;>rfl
theorem yf(prog:Program)(w:World)(i:Int)(t:Tok):(bT prog w).is (.inl i) (.int i t)=true:=BK i t
theorem yg(prog:Program)(w:World)(x:Str)(t:Tok):(bT prog w).is (.inr x) (.str x t)=true:=BL x t
inductive V where
 |bz|bl (b:Bool)|int (i:Int)|str (x:Str)|j8 (b:Array UInt8)|qm (b:UInt64)|ref (a:Addr)|ty (n:String)
 deriving DecidableEq
def RelV:V->Value->Prop
 |.bz,u=>u=Value.none
 |.bl b,u=>u=Value.bool b
 |.int i,u=>∃t,u=Value.int i t
 |.str x,u=>∃t,u=Value.str x t
 |.j8 b,u=>∃t,u=Value.bytes b t
 |.qm b,u=>∃t,u=Value.float b t
 |.ref a,u=>u=Value.ref a
 |.ty n,u=>u=Value.type n
abbrev Vals:List V->List Value->Prop:=Paired RelV
theorem Vals.length{xs:List V}{us:List Value}(r:Vals xs us):xs.length=us.length:=acz r
theorem Vals.get:∀{xs:List V} {us:List Value} {i:Nat} {x:V},Vals xs us->xs[i]?=some x->∃u,us[i]?=some u/\RelV x u
 |_,_,_,_,.nil,e=>by simp at e
 |_,_,0,_,.cons r _,e=>by simp at e;subst e;exact⟨_,rfl,r⟩
 |_,_,i+1,x,.cons _ t,e=>by obtain⟨u,h1,h2⟩:=Vals.get (i:=i) (x:=x) t (by simpa using e);exact⟨u,by simpa using h1,h2⟩
theorem Vals.set{x:V}{u:Value}(r:RelV x u):∀{xs:List V} {us:List Value} (i:Nat),Vals xs us->Vals (xs.set i x) (us.set i u)
 |_,_,_,.nil=>.nil
 |_,_,0,.cons _ t=>.cons r t
 |_,_,i+1,.cons q t=>.cons q (Vals.set r i t)
theorem Vals.append:∀{xs ys:List V} {us ws:List Value},Vals xs us->Vals ys ws->Vals (xs++ys) (us++ws)
 |_,_,_,_,.nil,s=>s
 |_,_,_,_,.cons r t,s=>.cons r (Vals.append t s)
theorem Vals.take:∀{xs:List V} {us:List Value} (n:Nat),Vals xs us->Vals (xs.take n) (us.take n)
 |_,_,0,_=>.nil
 |_,_,_+1,.nil=>.nil
 |_,_,n+1,.cons r t=>.cons r (Vals.take n t)
theorem Vals.drop:∀{xs:List V} {us:List Value} (n:Nat),Vals xs us->Vals (xs.drop n) (us.drop n)
 |_,_,0,r=>r
 |_,_,_+1,.nil=>.nil
 |_,_,n+1,.cons _ t=>Vals.drop n t
def gM:Option V->Option Value->Prop
 |some v,some u=>RelV v u
 |none,none=>True
 |_,_=>False
def KV{κ:Type}:List (κ×V)->List (κ×Value)->Prop:=Paired λ(p:κ×V) (q:κ×Value)=>p.1=q.1/\RelV p.2 q.2
def kV:Key->V
 |.inl i=>.int i
 |.inr x=>.str x
inductive HO where
  |lst (xs:List V)
  |tup (xs:List V)
  |dK (kvs:List (Key×V))|dT (kvs:List (List Key×V))
  |set (S:Int->Bool) (n:Nat)
  |ins (C dx:Addr) (fs:List (Str×V))
  |own (x:Addr)
  |xd (fs:List (Str×V))
  |met (f x:Addr)
  |GU (lo hi:Int)
  |i3 (o:Obj) (u:HO)
  |tN (ps:Array Value)
  |ext (φ:Heap->Prop)
abbrev Hp:=Addr->Option HO
def upd(H:Hp)(a:Addr)(o:HO):Hp:=λb=>if b=a then some o else H b
theorem af{H:Hp}{a:Addr}{o:HO}:upd H a o a=some o:=by unfold upd;rw[if_pos rfl]
theorem aq{H:Hp}{a b:Addr}{o:HO}(h:b≠a):upd H a o b=H b:=by unfold upd;rw[if_neg h]
theorem I8{H:Hp}{a:Addr}{o u:HO}:upd (upd H a o) a u=upd H a u:=by funext b;unfold upd;split<;>rfl
theorem cF{H:Hp}{a b:Addr}{o u:HO}(h:H a=some o)(h':H b=some u)(d:o≠u):a≠b:=by intro e;subst e;rw[h] at h';exact d (aaS h')
theorem aw{H:Hp}{a b:Addr}{o:HO}(h:H a=some o)(h':H b=none):a≠b:=by intro e;subst e;rw[h] at h';cases h'
section
variable (P:Program)(w:World)
def bD(H:Hp)(h:Heap)(a:Addr):HO->Prop
 |.lst xs=>xs.length<=sizeLine/\∃(its:List Value) (n:Nat),Vals xs its/\h.get? a=some {cls:=.type "list",data:=.seq its.toArray n}
 |.tup xs=>xs.length<=sizeLine/\∃its:List Value,Vals xs its/\IsTup h a its.toArray
 |.dK kvs=>kvs.length<=sizeLine/\(a==sysModules)=false/\∃vs,KV kvs vs/\h.DictOf (bT P w) a vs
 |.dT kvs=>kvs.length<=sizeLine/\(a==sysModules)=false/\∃xs:List (List Key×Addr×Value),
   Paired (λ(p:List Key×V) (q:List Key×Addr×Value)=>p.1=q.1/\H q.2.1=some (.tup (p.1.map kV))/\RelV p.2 q.2.2) kvs xs /\
   ∃o es ep,h.get? a=some o/\o.ExactDict/\o.data=.dict es ep/\es.toList=xs.map (entryOfKey (tupleKind (bT P w)))/\(xs.map (·.1)).Nodup
 |.set S n=>h.SetOf (intKind P w) a S n
 |.ins C dx fs=>H dx=some (.own a)/\fs.length<=1000/\dx≠a/\h.get? a=some (PySem.W.instObj C dx) /\
   ∃mA,h.Ns1 dx mA/\(∀f,gM (fs.lookup f) (mA f))/\PySem.Within mA (fs.map (·.1))
 |.own _=>∃o,h.get? a=some o
 |.xd fs=>∃mA,h.Ns1 a mA/\∀f,gM (fs.lookup f) (mA f)
 |.GU lo hi=>∃t u v,h.get? a=some {cls:=.type "range",data:=.fields #[.int lo t,.int hi u,.int 1 v]}
 |.i3 o u=>h.get? a=some o/\bD H h a u
 |.tN ps=>h.get? a=some {cls:=.none,data:=.fields ps}
 |.met f x=>h.get? a=some (PySem.W.methodObj (.ref f) (.ref x))
 |.ext φ=>φ h/\(∃o,h.get? a=some o)/\∀h1 h2:Heap,φ h1->(∀o,h1.get? a=some o->h2.get? a=some o)->φ h2
def dP(H:Hp)(h:Heap):Prop:=∀a o,H a=some o->bD P w H h a o
end
section
variable {P:Program}{w:World}{H H':Hp}{h h':Heap}{a:Addr}{o:HO}
theorem bD.lt(x:bD P w H h a o):a<h.objs.size:=by
 cases o with
 |lst xs=>obtain⟨_,_,_,_,e⟩:=x;exact aay e
 |tup xs=>obtain⟨_,_,_,p⟩:=x;exact p.lt
 |dK kvs=>obtain⟨_,_,_,_,o,_,_,e,_⟩:=x;exact aay e
 |dT kvs=>obtain⟨_,_,_,_,o,_,_,e,_⟩:=x;exact aay e
 |set S n=>obtain⟨o,_,_,_,e,_⟩:=x;exact aay e
 |ins C dx fs=>obtain⟨_,_,_,e,_⟩:=x;exact aay e
 |own y=>obtain⟨_,e⟩:=x;exact aay e
 |xd fs=>obtain⟨_,⟨_,_,_,e,_⟩,_⟩:=x;exact aay e
 |GU lo hi=>obtain⟨_,_,_,e⟩:=x;exact aay e
 |i3 ob u=>obtain⟨e,_⟩:=x;exact aay e
 |tN ps=>exact aay (show h.get? a=some _ from x)
 |met f y=>exact aay (show h.get? a=some _ from x)
 |ext φ=>obtain⟨_,⟨_,e⟩,_⟩:=x;exact aay e
theorem Paired.rK{α β:Type}{F G:α->β->Prop}:∀{l₁:List α} {l₂:List β},Paired F l₁ l₂->(∀a b,F a b->G a b)->Paired G l₁ l₂
 |_,_,.nil,_=>.nil
 |_,_,.cons r t,f=>.cons (f _ _ r) (Paired.rK t f)
theorem bD.kC(x:bD P w H h a o)(k:∀b u,(b=a\/H b=some (.own a))->h.get? b=some u->h'.get? b=some u)
  (ho:∀b,H b=some (.own a)->H' b=some (.own a)) (ht:∀b xs,H b=some (.tup xs)->H' b=some (.tup xs)):bD P w H' h' a o:=by
 induction o with
 |lst xs=>obtain⟨z,its,n,r,e⟩:=x;exact⟨z,its,n,r,k _ _ (.inl rfl) e⟩
 |tup xs=>obtain⟨z,its,r,ob,e,c⟩:=x;exact⟨z,its,r,ob,k _ _ (.inl rfl) e,c⟩
 |dK kvs=>obtain⟨z,y,vs,r,ob,es,ep,e,c⟩:=x;exact⟨z,y,vs,r,ob,es,ep,k _ _ (.inl rfl) e,c⟩
 |dT kvs =>obtain⟨z,y,xs,r,ob,es,ep,e,c⟩:=x;exact⟨z,y,xs,Paired.rK r λp q z=>⟨z.1,ht _ _ z.2.1,z.2.2⟩,ob,es,ep,k _ _ (.inl rfl) e,c⟩
 |set S n=>obtain⟨ob,es,ep,t,e,c⟩:=x;exact⟨ob,es,ep,t,k _ _ (.inl rfl) e,c⟩
 |ins C dx fs =>obtain⟨d,z,ne,e,mA,⟨od,es,ep,e2,c⟩,r⟩:=x;exact⟨ho _ d,z,ne,k _ _ (.inl rfl) e,mA,⟨od,es,ep,k _ _ (.inr d) e2,c⟩,r⟩
 |own y=>obtain⟨ob,e⟩:=x;exact⟨ob,k _ _ (.inl rfl) e⟩
 |xd fs=>obtain⟨mA,⟨od,es,ep,e,c⟩,r⟩:=x;exact⟨mA,⟨od,es,ep,k _ _ (.inl rfl) e,c⟩,r⟩
 |GU lo hi=>obtain⟨t,u,v,e⟩:=x;exact⟨t,u,v,k _ _ (.inl rfl) e⟩
 |i3 ob u ih=>obtain⟨e,q⟩:=x;exact⟨k _ _ (.inl rfl) e,ih q⟩
 |tN ps=>
  have e:h.get? a=some {cls:=.none,data:=.fields ps}:=x;show h'.get? a=some {cls:=.none,data:=.fields ps}
  exact k a _ (.inl rfl) e
 |met f y=>
  have e:h.get? a=some (PySem.W.methodObj (.ref f) (.ref y)):=x;show h'.get? a=some (PySem.W.methodObj (.ref f) (.ref y))
  exact k a _ (.inl rfl) e
 |ext φ=>obtain⟨p,⟨o,e⟩,st⟩:=x;exact⟨st _ _ p λo q=>k _ _ (.inl rfl) q,⟨o,k _ _ (.inl rfl) e⟩,st⟩
theorem dP.lt(x:dP P w H h)(e:H a=some o):a<h.objs.size:=(x a o e).lt
theorem dP.fresh(x:dP P w H h)(e:h.objs.size<=a):H a=none:=by
 cases q:H a with
 |none=>rfl
 |some u=>exact absurd (aaT (x.lt q) e) (aa8 _)
theorem dP.kept(x:dP P w H h)(k:∀b u,h.get? b=some u->h'.get? b=some u):dP P w H h':=λa o e =>(x a o e).kC (λb u _ q=>k b u q) (λ_ q=>q) λ_ _ q=>q
theorem dP.laid(x:dP P w H h)(k:∀b u,h.get? b=some u->h'.get? b=some u)(hp:h.objs.size<=a)(new:bD P w (upd H a o) h' a o):dP P w (upd H a o) h':=λb u e=>by
 have hn:=x.fresh hp;by_cases hb:b=a
 ·subst hb;rw[af] at e;cases e;exact new
 ·rw[aq hb] at e;exact(x b u e).kC (λc v _ q=>k c v q) (λc q=>by rw[aq (aw q hn)];exact q) λc xs q=>by rw[aq (aw q hn)];exact q
end
def Rd(H:Hp)(a:Addr)(u:HO):Prop:=H a=some u\/∃o,H a=some (.i3 o u)
theorem Rd.ok{P:Program}{w:World}{H:Hp}{h:Heap}{a:Addr}{u:HO}(r:Rd H a u)(x:dP P w H h):bD P w H h a u:=by
 rcases r with r|⟨o,r⟩
 ·exact x a u r
 ·obtain⟨_,q⟩:=x a _ r;exact q
def BM:Option HO->Prop
 |some (.lst _)=>True
 |some (.dK _)=>True
 |some (.dT _)=>True
 |some (.set _ _)=>True
 |some (.ins _ _ _)=>True
 |some (.ext _)=>True
 |_=>False
section
variable {P:Program}{w:World}{H:Hp}{h h':Heap}{x e:Addr}{o':HO}
theorem dP.write(ok:dP P w H h)(mu:BM (H x))(he:e=x\/H e=some (.own x))(k:∀b u,b≠e->h.get? b=some u->h'.get? b=some u)(heo:∃u,h'.get? e=some u)
  (new:bD P w (upd H x o') h' x o'):dP P w (upd H x o') h':=λb u q=>by
 have nown:∀c y,H c=some (.own y)->c≠x:=λc y r z=>by subst z;rw[r] at mu;exact mu
 have ntup:∀c xs,H c=some (.tup xs)->c≠x:=λc xs r z=>by subst z;rw[r] at mu;exact mu
 by_cases hb:b=x
 ·subst hb;rw[af] at q;cases q;exact new
 ·rw[aq hb] at q;by_cases hbe:b=e
  ·have q':H b=some (.own x):=by
    rcases he with z|z
    ·exact absurd (hbe.trans z) hb
    ·rw[hbe];exact z
   rw[q] at q';cases q';obtain⟨v,hv⟩:=heo;exact⟨v,by rw[hbe];exact hv⟩
  ·refine(ok b u q).kC (λc v hc r=>k c v ?_ r) (λc r=>by rw[aq (nown c b r)];exact r) λc xs r=>by rw[aq (ntup c xs r)];exact r
   rcases hc with rfl|hc
   ·exact hbe
   ·rintro rfl;rcases he with z|z
    ·exact nown c b hc z
    ·rw[hc] at z;cases z;exact hb rfl
end
structure Un(fs ex:List Addr)(H H':Hp)(h h':Heap):Prop where
 keep:∀b o,h.get? b=some o->H b=none->b∉fs->b∉ex->h'.get? b=some o
 slot:∀b o,h.get? b=some o->H b=none->b∈fs->b∉ex->∃sl,h'.get? b=some {o with slots:=sl}
 free:∀b o,h.get? b=some o->H b=none->b∉ex->H' b=none
 there:∀b o,h.get? b=some o->b∉ex->∃o',h'.get? b=some o'
 lS:∀b xs,H b=some (.tup xs)->H' b=some (.tup xs)
 kD:∀b o u,H b=some (.i3 o u)->H' b=some (.i3 o u)
 lU:∀b ps,H b=some (.tN ps)->∃more,H' b=some (.tN (ps++more))
section
variable {fs Wj ex ex':List Addr}{H H1 H2:Hp}{h h1 h2 h':Heap}{a x e:Addr}{o:HO}
theorem Un.any(u:Un fs ex H H1 h h1){b:Addr}{ob:Obj}(q:h.get? b=some ob)(n:H b=none)(hx:b∉ex):∃sl,h1.get? b=some {ob with slots:=sl}:=by
 by_cases hb:b∈fs
 ·exact u.slot b ob q n hb hx
 ·exact⟨ob.slots,u.keep b ob q n hb hx⟩
theorem Un.kept(k:∀b u,h.get? b=some u->h'.get? b=some u):Un fs ex H H h h':=
 ⟨λb ob q _ _ _=>k b ob q,λb ob q _ _ _=>⟨ob.slots,k b ob q⟩,λ_ _ _ n _=>n,λb ob q _=>⟨ob,k b ob q⟩,λ_ _ q=>q,λ_ _ _ q=>q,λ_ ps q=>⟨#[],by rw[q];simp⟩⟩
theorem Un.refl:Un fs ex H H h h:=Un.kept λ_ _ q=>q
theorem Un.laid(k:∀b u,h.get? b=some u->h'.get? b=some u)(hp:h.objs.size<=a)(hn:H a=none):Un fs ex H (upd H a o) h h' where
 keep:=λb u q _ _ _=>k b u q
 slot:=λb u q _ _ _=>⟨u.slots,k b u q⟩
 free:=λb u q n _=>by rw[aq (aaG (aaT (aay q) hp))];exact n
 there:=λb u q _=>⟨u,k b u q⟩
 lS:=λb xs q=>by rw[aq (aw q hn)];exact q
 kD:=λb u xs q=>by rw[aq (aw q hn)];exact q
 lU:=λb ps q=>⟨#[],by rw[aq (aw q hn),q];simp⟩
theorem Un.write(mu:BM (H x))(he:e=x\/H e=some (.own x))(k:∀b u,b≠e->h.get? b=some u->h'.get? b=some u)(heo:∃u,h'.get? e=some u):Un fs ex H (upd H x o) h h':=by
 have hx:∀b,H b=none->b≠x:=λb n z=>by subst z;rw[n] at mu;exact mu
 have hb:∀b,H b=none->b≠e:=λb n z=>by
  subst z;rcases he with r|r
  ·exact hx b n r
  ·rw[n] at r;cases r
 have hm:∀b u,H b=some u->¬ BM (some u)->b≠x:=λb u q nm z=>by subst z;rw[q] at mu;exact nm mu
 refine⟨λb u q n _ _=>k b u (hb b n) q,λb u q n _ _=>⟨u.slots,k b u (hb b n) q⟩,λb u q n _=>by rw[aq (hx b n)];exact n,λb u q _=>?_,
  λb xs q=>by rw[aq (hm b _ q λz=>z)];exact q,λb u xs q=>by rw[aq (hm b _ q λz=>z)];exact q,λb ps q=>⟨#[],by rw[aq (hm b _ q λz=>z),q];simp⟩⟩
 by_cases hbe:b=e
 ·subst hbe;exact heo
 ·exact⟨u,k b u hbe q⟩
end
def GV(h:Heap)(H:Hp):List Addr:=(List.range h.objs.size).filter λa=>(H a).isSome
def lV(h:Heap)(H:Hp):Heap:=PySem.W.hideAll h (GV h H)
theorem BN(h:Heap)(H:Hp):(lV h H).objs.size=h.objs.size:=PySem.W.hideAll_size _ _
theorem ED{h:Heap}{H:Hp}{b:Addr}{o:Obj}(e:h.get? b=some o)(n:H b=none):(lV h H).get? b=some o:=
 PySem.W.hideAll_get _ e λhm=>by have q:(H b).isSome=true:=(aaU.mp hm).2;rw[n] at q;simp at q
theorem I9{h:Heap}{H:Hp}{b:Addr}{o:Obj}(e:(lV h H).get? b=some o):h.get? b=some o/\H b=none:=by
 have e':h.get? b=some o:=PySem.W.of_hideAll (GV h H) e;refine⟨e',?_⟩;cases q:H b with
 |none=>rfl
 |some x =>have hm:b∈GV h H:=aaU.mpr ⟨abl.mpr (aay e'),by simp[q]⟩;have z:(lV h H).get? b=none:=PySem.W.hideAll_none (GV h H) hm;rw[z] at e;cases e
def Ja(g h:Heap)(L:Addr):List (Addr×Obj):=(List.range h.objs.size).filterMap λa=>if a=L\/(g.get? a).isSome=true then none else (h.get? a).map λo=>(a,o)
def rest(g h:Heap)(L d:Addr):List (Addr×Obj):=(Ja g h L).filter λp=>decide (p.1≠d)
structure Mod(K:PySem.W.Frag)(mg:Str->Option Value)(base:Heap):Prop where
 BP:K.In base
 glob:base.Ns mainGlobals mg
 blt:∃mb,base.Ns builtinsNs mb/\∀x:Str,x≠"__name__" -> mb x=bootBuiltins x
 nolimit:base.NoLimit
structure Cx where
 prog:Program
 w:World
 K:PySem.W.Frag
 mg:Str->Option Value
 base:Heap
 A:Around
 N:List Str
 s₀:Shared
 H₀:Hp
 env:Env
 outer:List Env
 stack:List Env
 ex:List Addr
 fn:Str->Bool
 calm:Bool
 pn:List (Addr×Obj)
 xe:Value->Shared->Prop
def m7(l:List Env):List Addr:=l.filterMap (·.frame)
abbrev Cx.fs(X:Cx):List Addr:=m7 X.outer
def KZ(sc:Scope)(x:Str):Prop:=sc.names.lookup x=some .local\/sc.names.lookup x=some .cell\/sc.names.lookup x=some .free
def Loc(sc:Scope)(x:Str):Prop:=sc.names.lookup x=some .local\/sc.names.lookup x=some .cell
def Look(env:Env)(h:Heap)(m:Str->Option Value)(x:Str)(u:Value):Prop:=
 (env.kindOf x=some .local/\m x=some u)\/((env.kindOf x=some .cell\/env.kindOf x=some .free)/\∃c,env.cells.lookup x=some c/\h.IsCell c (some u))
structure Cx.Ok(X:Cx):Prop where
 mod:Mod X.K X.mg X.base
 kind:X.env.scope.kind=.function
 glob:X.env.globals=mainGlobals
 blt:X.env.builtins=builtinsNs
 above:X.s₀.heap.objs.size<=X.env.locals
 inj:∀x y c,X.env.cells.lookup x=some c->X.env.cells.lookup y=some c->x=y
 has:∀x,(X.env.kindOf x=some .cell\/X.env.kindOf x=some .free)->∃c,X.env.cells.lookup x=some c
 BQ:∀x c,X.fn x=true->X.env.cells.lookup x=some c->X.s₀.heap.objs.size<=c
 hd:X.calm=true->X.A.handled=none
 frames:X.A.frames=some X.stack
 GY:X.stack=X.outer\/(X.stack=X.env::X.outer/\X.env.frame=some X.env.locals)
 yB:∀b∈X.ex,b≠X.env.locals/\∀x c,X.env.cells.lookup x=some c->c≠b
 bs:∀b o,X.base.get? b=some o->X.s₀.heap.get? b=some o/\X.H₀ b=none
 qo:X.base.objs.size<=X.s₀.heap.objs.size
 vp:∀b o,X.base.get? b=some o->b∉X.ex
 Ah:∀b∈X.ex,b∉X.fs
 jj:X.s₀.heap.FunFrames X.base X.outer
 vq:∀b∈X.fs,X.H₀ b=none
structure Inv(X:Cx)(pins:List (Addr×Obj))(σ:List (Option V))(H:Hp)(s:Shared):Prop where
 ok:X.Ok
 os:s.os=X.s₀.os
 bare:AllBare s.gens
 base:Un X.fs X.ex X.H₀ H X.s₀.heap s.heap
 loc:∃m,s.heap.Ns X.env.locals m/\∀(i:Nat) (x:Str) (v:V),X.N[i]?=some x->σ[i]?=some (some v)->KZ X.env.scope x->∃u,RelV v u/\Look X.env s.heap m x u
 cell:∀x c,X.env.cells.lookup x=some c->∃v,s.heap.IsCell c v
 free:H X.env.locals=none
 g0:∀x c,X.env.cells.lookup x=some c->H c=none
 pin:∀p∈X.pn++pins,s.heap.get? p.1=some p.2/\H p.1=none/\p.1≠X.env.locals/\p.1∉X.fs/\∀v,p.2.data≠.cell v
 aR:dP X.prog X.w H s.heap
 len:σ.length=X.N.length
section
variable {X:Cx}{pins:List (Addr×Obj)}{σ:List (Option V)}{H H':Hp}{s:Shared}{h':Heap}
theorem Cx.Ok.TX(ok:X.Ok){b:Addr}{o:Obj}(e:X.base.get? b=some o):b∉X.fs:=λhb=>by
 have:=(ok.jj.mem hb).1
 rw[e] at this;cases this
theorem Inv.bs(I:Inv X pins σ H s):∀b o,X.base.get? b=some o->s.heap.get? b=some o/\H b=none:=λb o e =>⟨I.base.keep b o (I.ok.bs b o e).1 (I.ok.bs b o e).2 (I.ok.TX e) (I.ok.vp b o e),I.base.free b o (I.ok.bs b o e).1 (I.ok.bs b o e).2 (I.ok.vp b o e)⟩
theorem Inv.bk(I:Inv X pins σ H s):∀b o,X.base.get? b=some o->s.heap.get? b=some o:=λb o e=>(I.bs b o e).1
theorem Inv.mod(I:Inv X pins σ H s):Mod X.K X.mg X.base:=I.ok.mod
theorem Inv.eQ(I:Inv X pins σ H s):X.K.In s.heap:=I.ok.mod.BP.keeps I.bk
theorem Inv.lt(I:Inv X pins σ H s):X.env.locals<s.heap.objs.size:=let ⟨_,hn,_⟩:=I.loc;hn.lt
theorem Inv.sz(I:Inv X pins σ H s):X.s₀.heap.objs.size<=s.heap.objs.size:=aap I.ok.above (abe I.lt)
theorem Inv.vt(I:Inv X pins σ H s){a:Addr}(h:s.heap.objs.size<=a):a∉X.fs:=λhb=>by obtain⟨_,o,ho,_⟩:=I.ok.jj.mem hb;exact absurd (aaT (aay ho) (aap I.sz h)) (aa8 _)
theorem Inv.vv(I:Inv X pins σ H s):∀x c,X.env.cells.lookup x=some c->c≠X.env.locals:=λx c e z=>by obtain⟨v,o,ho,hd⟩:=I.cell x c e;obtain⟨m,⟨o',es,ep,ho',K0,_⟩,_⟩:=I.loc;rw[z,ho'] at ho;cases ho;rw[K0] at hd;cases hd
theorem Inv.jj(I:Inv X pins σ H s):s.heap.FunFrames X.base X.outer:=by
 have all:∀(l:List Env),(∀b∈m7 l,b∈X.fs)->X.s₀.heap.FunFrames X.base l->s.heap.FunFrames X.base l:=by
  intro l;induction l with
  |nil=>intro _ _;trivial
  |cons env r ih =>rintro hs ⟨hk,⟨L,o,hf,hn,ho,hd⟩,hr⟩;have hL:L∈X.fs:=hs L (by unfold m7;rw[adb,hf];exact aau);obtain⟨sl,e⟩:=I.base.slot L o ho (I.ok.vq L hL) hL λz=>I.ok.Ah L z hL;exact⟨hk,⟨L,_,hf,hn,e,hd⟩,ih (λb hb=>hs b (by unfold m7;rw[adb,hf];exact aaw _ hb)) hr⟩
 exact all X.outer (λ_ hb=>hb) I.ok.jj
theorem Inv.stack(I:Inv X pins σ H s):s.heap.FunFrames X.base X.stack:=by
 rcases I.ok.GY with e|⟨e,hf⟩
 ·rw[e];exact I.jj
 ·rw[e];obtain⟨m,hn,_⟩:=I.loc;refine .cons (by rw[I.ok.kind];decide) hf hn ?_ I.jj;exact Heap.get?_none_of_le (aap I.ok.qo I.ok.above)
theorem Inv.fZ(I:Inv X pins σ H s):∀b∈m7 X.stack,b∈X.env.locals::X.fs:=λb hb=>by
 rcases I.ok.GY with e|⟨e,hf⟩
 ·rw[e] at hb;exact aaw _ hb
 ·rw[e] at hb;unfold m7 at hb;rw[adb,hf] at hb;exact hb
theorem Inv.yC(I:Inv X pins σ H s):∀b∈m7 X.stack,H b=none:=λb hb=>by
 rcases aav.mp (I.fZ b hb) with e|hb
 ·rw[e];exact I.free
 ·obtain⟨_,o,ho,_⟩:=I.ok.jj.mem hb;exact I.base.free b o ho (I.ok.vq b hb) λz=>I.ok.Ah b z hb
theorem Inv.step{g':Array GenState}{t':Nat}{d':Drawn}{ch:List Addr}(I:Inv X pins σ H s)
  (hch:∀b∈ch,(b∈X.ex\/X.s₀.heap.objs.size<=b)/\b≠X.env.locals/\(∀x c,X.env.cells.lookup x=some c->c≠b)/\∀p∈X.pn++pins,p.1≠b)
  (keep:∀b o,b≠X.env.locals->b∉X.fs->b∉ch->s.heap.get? b=some o->H b=none->h'.get? b=some o)
  (slot:∀b o,b≠X.env.locals->b∈X.fs->b∉ch->s.heap.get? b=some o->H b=none->∃sl,h'.get? b=some {o with slots:=sl}) (free:∀b o,b∉ch->s.heap.get? b=some o->H b=none->H' b=none)
  (there:∀b o,b∉ch->s.heap.get? b=some o->∃o',h'.get? b=some o')
  (lS:∀b xs,H b=some (.tup xs)->H' b=some (.tup xs)) (kD:∀b o u,H b=some (.i3 o u)->H' b=some (.i3 o u)) (lU:∀b ps,H b=some (.tN ps)->∃more,H' b=some (.tN (ps++more)))
  (ns:∀m,s.heap.Ns X.env.locals m->h'.Ns X.env.locals m) (aR:dP X.prog X.w H' h') (hg:AllBare g') :
  Inv X pins σ H' {s with heap:=h',gens:=g',drawn:=d',toks:=t' }:=by
 have neL:∀b o,X.s₀.heap.get? b=some o->b≠X.env.locals:=λb o e=>aaG (aaT (aay e) I.ok.above);have neC:∀b o,X.s₀.heap.get? b=some o->b∉X.ex->b∉ch:=λb o e hx hb=>by
  rcases(hch b hb).1 with z|z
  ·exact hx z
  ·exact absurd (aaT (aay e) z) (aa8 _)
 have cellK:∀x c,X.env.cells.lookup x=some c->∀v,s.heap.IsCell c v->h'.IsCell c v:=λx c e v ⟨o,ho,hd⟩=>by
  have BR:c∉ch:=λz=>(hch c z).2.2.1 x c e rfl;by_cases hc:c∈X.fs
  ·obtain⟨sl,q⟩:=slot c o (I.vv x c e) hc BR ho (I.g0 x c e);exact⟨_,q,hd⟩
  ·exact⟨o,keep c o (I.vv x c e) hc BR ho (I.g0 x c e),hd⟩
 refine⟨I.ok,I.os,hg,⟨λb o e n hb hx=>?_,λb o e n hb hx=>?_,λb o e n hx=>?_,λb o e hx=>?_,λb xs e=>lS b xs (I.base.lS b xs e),λb o xs e=>kD b o xs (I.base.kD b o xs e),λb ps e=>?_⟩,?_,λx c e=>?_,?_,λx c e=>?_,λp hp=>?_,aR,I.len⟩
 ·exact keep b o (neL b o e) hb (neC b o e hx) (I.base.keep b o e n hb hx) (I.base.free b o e n hx)
 ·obtain⟨sl,e1⟩:=I.base.slot b o e n hb hx;obtain⟨Wk,e2⟩:=slot b _ (neL b o e) hb (neC b o e hx) e1 (I.base.free b o e n hx);exact⟨Wk,e2⟩
 ·obtain⟨o',e1⟩:=I.base.there b o e hx;exact free b o' (neC b o e hx) e1 (I.base.free b o e n hx)
 ·obtain⟨o',e1⟩:=I.base.there b o e hx;exact there b o' (neC b o e hx) e1
 ·obtain⟨m1,e1⟩:=I.base.lU b ps e;obtain⟨m2,e2⟩:=lU b _ e1;exact⟨m1++m2,by rw[e2,Array.append_assoc]⟩
 ·obtain⟨m,hn,hl⟩:=I.loc;refine⟨m,ns m hn,λi x v e1 e2 e3=>?_⟩;obtain⟨u,r,l⟩:=hl i x v e1 e2 e3;refine⟨u,r,?_⟩;rcases l with l|⟨k,c,e,z⟩
  ·exact .inl l
  ·exact .inr ⟨k,c,e,cellK x c e _ z⟩
 ·obtain⟨v,z⟩:=I.cell x c e;exact⟨v,cellK x c e v z⟩
 ·obtain⟨m,⟨o,_,_,ho,_⟩,_⟩:=I.loc;exact free _ o (λz=>(hch _ z).2.1 rfl) ho I.free
 ·obtain⟨v,o,ho,hd⟩:=I.cell x c e;exact free c o (λz=>(hch c z).2.2.1 x c e rfl) ho (I.g0 x c e)
 ·obtain⟨e,n,ne,nf,d⟩:=I.pin p hp;have BR:p.1∉ch:=λz=>(hch p.1 z).2.2.2 p hp rfl;exact⟨keep p.1 p.2 ne nf BR e n,free p.1 p.2 BR e n,ne,nf,d⟩
theorem Inv.un{t':Nat}(I:Inv X pins σ H s)(u:Un X.fs [] H H' s.heap h')(aR:dP X.prog X.w H' h'):Inv X pins σ H' {s with heap:=h',toks:=t' }:=by obtain⟨m,⟨o,es,ep,ho,r⟩,_⟩:=id I.loc;obtain⟨sl,hL⟩:=u.any ho I.free (by simp);exact I.step (g':=s.gens) (d':=s.drawn) (ch:=[]) (λ_ z=>nomatch z) (λb o _ hb _ e n=>u.keep b o e n hb (by simp)) (λb o _ hb _ e n=>u.slot b o e n hb (by simp)) (λb o _ e n=>u.free b o e n (by simp)) (λb o _ e=>u.there b o e (by simp)) u.lS u.kD u.lU (λm' hm=>by obtain⟨o',es',kZ,ho',r'⟩:=hm;rw[ho] at ho';cases ho';exact⟨_,es',kZ,hL,r'⟩) aR I.bare
theorem Inv.call{g':Array GenState}{t':Nat}{d':Drawn}{ch:List Addr}(I:Inv X pins σ H s)(u:Un (m7 X.stack) ch H H' s.heap h')(aR:dP X.prog X.w H' h')(hg:AllBare g')
  (hch:∀b∈ch,(b∈X.ex\/X.s₀.heap.objs.size<=b)/\b≠X.env.locals/\(∀x c,X.env.cells.lookup x=some c->c≠b)/\∀p∈X.pn++pins,p.1≠b) :
  Inv X pins σ H' {s with heap:=h',gens:=g',drawn:=d',toks:=t' }:=by
 obtain⟨m,⟨o,es,ep,ho,r⟩,_⟩:=id I.loc;obtain⟨sl,hL⟩:=u.any ho I.free λz=>(hch _ z).2.1 rfl;exact I.step (ch:=ch) hch (λb o hL hb hc e n=>u.keep b o e n (λz=>(aav.mp (I.fZ b z)).elim hL hb) hc) (λb o _ _ hc e n=>u.any e n hc) (λb o hc e n=>u.free b o e n hc) (λb o hc e=>u.there b o e hc) u.lS u.kD u.lU (λm' hm=>by obtain⟨o',es',kZ,ho',r'⟩:=hm;rw[ho] at ho';cases ho';exact⟨_,es',kZ,hL,r'⟩) aR hg
theorem Inv.turned{t':Nat}{it:Addr}(I:Inv X pins σ H s)(k:∀b o,b≠it->s.heap.get? b=some o->h'.get? b=some o)(hn:H it=none)(hL:it≠X.env.locals)
  (h1:it∈X.ex\/X.s₀.heap.objs.size<=it) (h2:∀x c,X.env.cells.lookup x=some c->c≠it) (h3:∀p∈X.pn++pins,p.1≠it):Inv X pins σ H {s with heap:=h',toks:=t' }:=by
 have QM:∀b u,H b=some u->b≠it:=λb u e z=>by rw[z,hn] at e;cases e
 refine I.step (g':=s.gens) (d':=s.drawn) (ch:=[it]) (λb hb=>?_) (λb o _ _ hc e _=>k b o (λz=>hc (by simp[z])) e) (λb o _ _ hc e _=>⟨o.slots,k b o (λz=>hc (by simp[z])) e⟩) (λ_ _ _ _ n=>n)
  (λb o hc e=>⟨o,k b o (λz=>hc (by simp[z])) e⟩) (λ_ _ e=>e) (λ_ _ _ e=>e) (λb ps e=>⟨#[],by rw[e];simp⟩) (λm hm=>?_) (λb u e=>?_) I.bare
 ·have e:b=it:=by simpa using hb
  subst e;exact⟨h1,hL,h2,h3⟩
 ·obtain⟨o,es,ep,ho,r⟩:=hm;exact⟨o,es,ep,k _ o (aaX hL) ho,r⟩
 ·refine(I.aR b u e).kC (λc v hc q=>k c v ?_ q) (λ_ q=>q) λ_ _ q=>q;rcases hc with z|z
  ·rw[z];exact QM b u e
  ·exact QM c _ z
theorem Inv.tok(I:Inv X pins σ H s)(t:Nat):Inv X pins σ H {s with toks:=t}:=I.un (h':=s.heap) (t':=t) Un.refl I.aR
theorem Inv.kept{t':Nat}(I:Inv X pins σ H s)(k:∀b u,s.heap.get? b=some u->h'.get? b=some u):Inv X pins σ H {s with heap:=h',toks:=t' }:=I.un (Un.kept k) (I.aR.kept k)
theorem Inv.laid{a:Addr}{o:HO}{t':Nat}(I:Inv X pins σ H s)(k:∀b u,s.heap.get? b=some u->h'.get? b=some u)(hp:s.heap.objs.size<=a)(new:bD X.prog X.w (upd H a o) h' a o) :
  Inv X pins σ (upd H a o) {s with heap:=h',toks:=t' }:=I.un (Un.laid k hp (I.aR.fresh hp)) (I.aR.laid k hp new)
theorem Inv.write{x e:Addr}{o:HO}{t':Nat}(I:Inv X pins σ H s)(mu:BM (H x))(he:e=x\/H e=some (.own x))(k:∀b u,b≠e->s.heap.get? b=some u->h'.get? b=some u)(heo:∃u,h'.get? e=some u)
  (new:bD X.prog X.w (upd H x o) h' x o):Inv X pins σ (upd H x o) {s with heap:=h',toks:=t' }:=I.un (Un.write mu he k heo) (I.aR.write mu he k heo new)
theorem Inv.weak{σ':List (Option V)}(I:Inv X pins σ H s)(hl:σ'.length=σ.length)(w:∀(i:Nat) v,σ'[i]?=some (some v)->σ[i]?=some (some v)):Inv X pins σ' H s:=
 ⟨I.ok,I.os,I.bare,I.base,let ⟨m,hn,hl'⟩:=I.loc;⟨m,hn,λi x v e1 e2 e3=>hl' i x v e1 (w i v e2) e3⟩,I.cell,I.free,I.g0,I.pin,I.aR,hl.trans I.len⟩
theorem Inv.cv{GZ:List (Addr×Obj)}(I:Inv X pins σ H s)(h:∀p∈GZ,s.heap.get? p.1=some p.2/\H p.1=none/\p.1≠X.env.locals/\p.1∉X.fs/\∀v,p.2.data≠.cell v):Inv X GZ σ H s:=
 ⟨I.ok,I.os,I.bare,I.base,I.loc,I.cell,I.free,I.g0,λp hp=>(aaD.mp hp).elim (λz=>I.pin p (aaL _ z)) (h p),I.aR,I.len⟩
theorem vw{N:List Str}(hN:N.Nodup){i j:Nat}{x:Str}(a:N[i]?=some x)(b:N[j]?=some x):i=j:=by obtain⟨h1,e1⟩:=aaH.mp a;obtain⟨h2,e2⟩:=aaH.mp b;exact(ae4 hN).mp (e1.trans e2.symm)
theorem tO{M:Model}{A:Around}{E:Value->Shared->Prop}{i:Nat}{x:Str}{v:V}{u:Value}{Q:Unit->Shared->Prop}(I:Inv X pins σ H s)(hN:X.N.Nodup)(hi:X.N[i]?=some x)(hx:Loc X.env.scope x)(r:RelV v u)
  (h:∀s',Inv X pins (σ.set i (some v)) H s'->(∃a,Heap.SameBut a s.heap s'.heap/\(a=X.env.locals\/X.env.cells.lookup x=some a))->Q () s') (hf:X.fn x=true\/X.env.scope.names.lookup x=some .local:=by first|exact .inl rfl|exact .inr rfl|assumption):wpAny M A (storeName X.env x u) Q E s:=by
 obtain⟨m,hn,hl⟩:=id I.loc;have TY:(X.env.scope.kind==.class||(X.env.scope.kind==.module&&X.env.locals !=X.env.globals))=false:=by rw[I.ok.kind];rfl
 have QN:i<σ.length:=by rw[I.len];exact(aaH.mp hi).1
 have vv:=I.vv;have tracked:∀{a:Addr} {h':Heap},(∃o,s.heap.get? a=some o/\H a=none)->Heap.SameBut a s.heap h'->dP X.prog X.w H h':=λ{a h'} ha hs b ob e=>by
  obtain⟨_,_,G0⟩:=ha;refine(I.aR b ob e).kC (λc w' hc q=>(hs.2 c ?_).trans q) (λ_ q=>q) λ_ _ q=>q;rintro rfl;rcases hc with rfl|hc
  ·rw[G0] at e;cases e
  ·rw[G0] at hc;cases hc
 rcases hx with hk|hk
 ·refine wpAny_storeName_local hk hn (λh' vy hs=>?_) TY;obtain⟨oL,_,_,Wl,_⟩:=id hn;refine h _ ⟨I.ok,I.os,I.bare,⟨λb o e n hb hx=>?_,λb o e n hb hx=>?_,I.base.free,λb o e hx=>?_,I.base.lS,I.base.kD,I.base.lU⟩,⟨_,vy,λj y v' e1 e2 e3=>?_⟩,λy c e=>?_,I.free,I.g0,λp hp=>?_,tracked ⟨oL,Wl,I.free⟩ hs,by simpa using I.len⟩ ⟨_,hs,.inl rfl⟩
  ·exact(hs.2 b (aaG (aaT (aay e) I.ok.above))).trans (I.base.keep b o e n hb hx)
  ·obtain⟨sl,e1⟩:=I.base.slot b o e n hb hx;exact⟨sl,(hs.2 b (aaG (aaT (aay e) I.ok.above))).trans e1⟩
  ·obtain⟨o',e1⟩:=I.base.there b o e hx;exact⟨o',(hs.2 b (aaG (aaT (aay e) I.ok.above))).trans e1⟩
  ·by_cases hj:j=i
   ·subst hj;rw[hi] at e1;cases e1;rw[adZ QN] at e2;cases e2;exact⟨u,r,.inl ⟨hk,by simp⟩⟩
   ·rw[acf (aaX hj)] at e2;obtain⟨u',r',q⟩:=hl j y v' e1 e2 e3;refine⟨u',r',?_⟩;rcases q with⟨k,e⟩|⟨k,c,e,z⟩
    ·refine .inl ⟨k,?_⟩
     have:y≠x:=λe=>hj (vw hN e1 (e▸hi))
     simp[this,e]
    ·exact .inr ⟨k,c,e,z.sameBut hs (vv y c e)⟩
  ·obtain⟨w',z⟩:=I.cell y c e;exact⟨w',z.sameBut hs (vv y c e)⟩
  ·obtain⟨e,n,ne,nf,d⟩:=I.pin p hp;exact⟨(hs.2 p.1 ne).trans e,n,ne,nf,d⟩
 ·have K1:X.fn x=true:=by
   rcases hf with z|z
   ·exact z
   ·rw[z] at hk;cases hk
  obtain⟨c,hc⟩:=I.ok.has x (.inl hk);obtain⟨w',z⟩:=I.cell x c hc;refine wpAny_storeName_cell I.ok.kind hk hc z (λh' jG hs=>?_);obtain⟨oc,QO,TZ⟩:=id z;refine h {s with heap:=h' } ⟨I.ok,I.os,I.bare,⟨λb o e n hb hx=>?_,λb o e n hb hx=>?_,I.base.free,λb o e hx=>?_,I.base.lS,I.base.kD,I.base.lU⟩,⟨m,hn.sameBut hs (aaX (vv x c hc)),λj y v' e1 e2 e3=>?_⟩,λy c' e=>?_,I.free,I.g0,λp hp=>?_,tracked ⟨oc,QO,I.g0 x c hc⟩ hs,by simpa using I.len⟩ ⟨c,hs,.inr hc⟩
  ·exact(hs.2 b (aaG (aaT (aay e) (I.ok.BQ x c K1 hc)))).trans (I.base.keep b o e n hb hx)
  ·obtain⟨sl,e1⟩:=I.base.slot b o e n hb hx;exact⟨sl,(hs.2 b (aaG (aaT (aay e) (I.ok.BQ x c K1 hc)))).trans e1⟩
  ·obtain⟨o',e1⟩:=I.base.there b o e hx;exact⟨o',(hs.2 b (aaG (aaT (aay e) (I.ok.BQ x c K1 hc)))).trans e1⟩
  ·by_cases hj:j=i
   ·subst hj;rw[hi] at e1;cases e1;rw[adZ QN] at e2;cases e2;exact⟨u,r,.inr ⟨.inl hk,c,hc,jG⟩⟩
   ·rw[acf (aaX hj)] at e2;obtain⟨u',r',q⟩:=hl j y v' e1 e2 e3;refine⟨u',r',?_⟩;rcases q with q|⟨k,c',e,z'⟩
    ·exact .inl q
    ·refine .inr ⟨k,c',e,z'.sameBut hs ?_⟩;rintro rfl;exact hj (vw hN e1 (I.ok.inj _ _ _ e hc▸hi))
  ·by_cases BS:c'=c
   ·subst BS;exact⟨_,jG⟩
   ·obtain⟨w2,z2⟩:=I.cell y c' e;exact⟨w2,z2.sameBut hs BS⟩
  ·obtain⟨e,n,ne,nf,d⟩:=I.pin p hp;refine⟨(hs.2 p.1 ?_).trans e,n,ne,nf,d⟩;intro q;rw[q,QO] at e;have q':oc=p.2:=aaS e;exact d w' (by rw[<-q'];exact TZ)
theorem lW{M:Model}{A:Around}{E:Value->Shared->Prop}{i:Nat}{x:Str}{v:V}{u:Value}{Q:Unit->Shared->Prop}(I:Inv X pins σ H s)(hN:X.N.Nodup)(hi:X.N[i]?=some x)(hx:Loc X.env.scope x)(r:RelV v u)
  (h:∀s',Inv X pins (σ.set i (some v)) H s'->Q () s') (hf:X.fn x=true\/X.env.scope.names.lookup x=some .local:=by first|exact .inl rfl|exact .inr rfl|assumption):wpAny M A (storeName X.env x u) Q E s:=
 tO I hN hi hx r (λs' I' _=>h s' I') hf
theorem Inv.u7{s':Shared}{ch:List Addr}(I:Inv X pins σ H s)(ho:s'.os=s.os)(u:Un (m7 X.stack) ch H H' s.heap s'.heap)(aR:dP X.prog X.w H' s'.heap)(hg:AllBare s'.gens)
  (hch:∀b∈ch,(b∈X.ex\/X.s₀.heap.objs.size<=b)/\b≠X.env.locals/\(∀x c,X.env.cells.lookup x=some c->c≠b)/\∀p∈X.pn++pins,p.1≠b):Inv X pins σ H' s':=by
 obtain⟨h',g',d',t',o'⟩:=s';have e:o'=s.os:=ho;subst e;exact I.call (g':=g') (t':=t') (d':=d') u aR hg hch
end
abbrev XK:=Value->Option Addr->Hp->Prop
abbrev St:=List (Option V)
abbrev VK:=V->Hp->Prop
abbrev TE:=St->Hp->VK->Prop
abbrev TT:=St->Hp->(Bool->Hp->Prop)->Prop
abbrev TA:=St->Hp->(List V->Hp->Prop)->Prop
structure Ends where
 nx:St->Hp->Prop
 rt:VK
 bk:St->Hp->Prop:=λ_ _=>False
 ct:St->Hp->Prop:=λ_ _=>False
abbrev TS:=Ends->St->Hp->Prop
def EP(X:Cx)(pins:List (Addr×Obj))(σ:St)(Q:VK)(u:Value)(s':Shared):Prop:=∃v H',Inv X pins σ H' s'/\RelV v u/\Q v H'
def TP(X:Cx)(pins:List (Addr×Obj))(σ:St)(Q:Bool->Hp->Prop)(b:Bool)(s':Shared):Prop:=∃H',Inv X pins σ H' s'/\Q b H'
def AP(X:Cx)(pins:List (Addr×Obj))(σ:St)(Q:List V->Hp->Prop)(us:List Value)(s':Shared):Prop:=∃vs H',Inv X pins σ H' s'/\Vals vs us/\Q vs H'
def SP(X:Cx)(pins:List (Addr×Obj))(D:Ends)(f:Flow)(s':Shared):Prop:=
 match f with
 |.next=>∃σ' H',Inv X pins σ' H' s'/\D.nx σ' H'
 |.brk=>∃σ' H',Inv X pins σ' H' s'/\D.bk σ' H'
 |.cont=>∃σ' H',Inv X pins σ' H' s'/\D.ct σ' H'
 |.ret u=>∃v σ' H',Inv X pins σ' H' s'/\RelV v u/\D.rt v H'
def PE(X:Cx)(e:Expr)(t:TE):Prop:=
 ∀(pins:List (Addr×Obj)) (s:Shared) (σ:St) (H:Hp) (Q:VK),Inv X pins σ H s->t σ H Q->wpAny (model X.prog X.w) X.A (eval e X.env) (EP X pins σ Q) X.xe s
def PT(X:Cx)(e:Expr)(t:TT):Prop:=
 ∀(pins:List (Addr×Obj)) (s:Shared) (σ:St) (H:Hp) (Q:Bool->Hp->Prop),Inv X pins σ H s->t σ H Q->wpAny (model X.prog X.w) X.A (isTrue e X.env (eval e X.env)) (TP X pins σ Q) X.xe s
def PW(X:Cx)(e:Expr)(t:TT):Prop:=
 ∀(whole:Sem Value) (pins:List (Addr×Obj)) (s:Shared) (σ:St) (H:Hp) (Q:Bool->Hp->Prop),Inv X pins σ H s->t σ H Q->wpAny (model X.prog X.w) X.A (isTrue e X.env whole) (TP X pins σ Q) X.xe s
theorem PW.pt{X:Cx}{e:Expr}{t:TT}(h:PW X e t):PT X e t:=h _
def PA(X:Cx)(es:List Expr)(t:TA):Prop:=
 ∀(pos:Pos) (pins:List (Addr×Obj)) (s:Shared) (σ:St) (H:Hp) (Q:List V->Hp->Prop),Inv X pins σ H s->t σ H Q->wpAny (model X.prog X.w) X.A (spliced (backTo pos (starEach es X.env))) (AP X pins σ Q) X.xe s
def PS(X:Cx)(st:Stmt)(t:TS):Prop:=
 ∀(pins:List (Addr×Obj)) (s:Shared) (σ:St) (H:Hp) (D:Ends),Inv X pins σ H s->t D σ H->wpAny (model X.prog X.w) X.A (exec st X.env) (SP X pins D) X.xe s
def j9(X:Cx)(st:List Stmt)(t:TS):Prop:=
 ∀(pins:List (Addr×Obj)) (s:Shared) (σ:St) (H:Hp) (D:Ends),Inv X pins σ H s->t D σ H->wpAny (model X.prog X.w) X.A (execs st X.env) (SP X pins D) X.xe s
theorem aH{α:Type}{t:Sem α}{Q Q':α->Shared->Prop}{M:Model}{A:Around}{E:Value->Shared->Prop}{s:Shared}(h:wpAny M A t Q E s)(hQ:∀a s,Q a s->Q' a s):wpAny M A t Q' E s:=wpAny_mono h hQ λ_ _ x=>x
section
variable {X:Cx}
def cf(i:Nat):TE:=λσ H Q=>∃v,σ[i]?=some (some v)/\Q v H
def tC(v:V):TE:=λ_ H Q=>Q v H
theorem K2{i:Nat}{x:Str}{pos:Pos}(hN:X.N[i]?=some x)(hv:KZ X.env.scope x)(hd:(x==("__debug__" : Str))=false:=by decide)(hcd:(x==("__classdict__" : Str))=false:=by decide):PE X (.Name x pos) (cf i):=by
 rintro pins s σ H Q I ⟨v,e,h⟩;obtain⟨m,hn,hl⟩:=I.loc;obtain⟨u,r,l⟩:=hl i x v hN e hv;have fin:EP X pins σ Q u s:=⟨v,H,I,r,h⟩
 rcases l with⟨hk,hm⟩|⟨hk,c,hc,lX⟩
 ·exact afd (wpAny_loadName_local I.ok.kind hk hn hm fin) hd
 ·rcases hk with hk|hk
  ·exact afd (wpAny_loadName_cell I.ok.kind hk hc lX fin) hd
  ·exact afd (wpAny_loadName_free I.ok.kind hk hc lX fin hcd) hd
theorem aE{i j pos}:PE X (.Constant (.int i) j pos) (tC (.int i)):=λ_ _ _ H _ I h=>wpAny_Constant_int ⟨.int i,H,I.tok _,⟨_,rfl⟩,h⟩
theorem eZ{b j pos}:PE X (.Constant (.bool b) j pos) (tC (.bl b)):=λ_ _ _ H _ I h=>Constant_bool ⟨.bl b,H,I,rfl,h⟩
theorem ip{x j pos}:PE X (.Constant (.str x) j pos) (tC (.str x)):=λ_ _ _ H _ I h=>Calls.Constant_str ⟨.str x,H,I.tok _,⟨_,rfl⟩,h⟩
def Gl(X:Cx)(x:Str):Prop:=X.env.kindOf x=some .globalImplicit
theorem ou{E:Value->Shared->Prop}{pins:List (Addr×Obj)}{s:Shared}{σ:St}{H:Hp}{x:Str}{u:Value}{pos:Pos}{Q:Value->Shared->Prop}(I:Inv X pins σ H s)(hg:Gl X x)(hm:X.mg x=some u)(h:Q u s)
  (hd:(x==("__debug__" : Str))=false:=by decide):wpAny (model X.prog X.w) X.A (eval (.Name x pos) X.env) Q E s:=
 adk I.ok.kind hg (Calls.loadGlobal_global (by rw[I.ok.glob];exact I.mod.glob.keeps I.bk) hm h) hd
theorem ir{E:Value->Shared->Prop}{pins:List (Addr×Obj)}{s:Shared}{σ:St}{H:Hp}{x:Str}{u:Value}{pos:Pos}{Q:Value->Shared->Prop}(I:Inv X pins σ H s)(hg:Gl X x)(hm:X.mg x=none)(hv:bootBuiltins x=some u)(h:Q u s)
  (hn:x≠"__name__" := by decide) (hd:(x==("__debug__" : Str))=false:=by decide):wpAny (model X.prog X.w) X.A (eval (.Name x pos) X.env) Q E s:=by
 obtain⟨mb,h1,h2⟩:=I.mod.blt;exact adk I.ok.kind hg (Calls.loadGlobal_builtin (by rw[I.ok.glob];exact I.mod.glob.keeps I.bk) hm (by rw[I.ok.blt];exact h1.keeps I.bk) ((h2 x hn).trans hv) h) hd
theorem rL{x:Str}{v:V}{u:Value}{pos:Pos}(hg:Gl X x)(hm:X.mg x=some u)(r:RelV v u)(hd:(x==("__debug__" : Str))=false:=by decide):PE X (.Name x pos) (tC v):=
 λ_ _ _ H _ I h=>ou I hg hm ⟨v,H,I,r,h⟩ hd
theorem dg{x:Str}{v:V}{u:Value}{pos:Pos}(hg:Gl X x)(hm:X.mg x=none)(hv:bootBuiltins x=some u)(r:RelV v u)(hn:x≠"__name__" := by decide)(hd:(x==("__debug__" : Str))=false:=by decide):PE X (.Name x pos) (tC v):=
 λ_ _ _ H _ I h=>ir I hg hm hv ⟨v,H,I,r,h⟩ hn hd
variable {a b:Expr}{ta tb:TE}{pos:Pos}
def PC(X:Cx)(op:CmpOp)(a b:Expr)(t:TE):Prop:=
 ∀(pins:List (Addr×Obj)) (s:Shared) (σ:St) (H:Hp) (Q:VK),Inv X pins σ H s->t σ H Q ->
  wpAny (model X.prog X.w) X.A (eval a X.env) (λv s₁=>wpAny (model X.prog X.w) X.A (eval b X.env) (λu s₂=>wpAny (model X.prog X.w) X.A (compareOp op v u) (EP X pins σ Q) X.xe s₂) X.xe s₁) X.xe s
theorem EE(b:Expr){op:CmpOp}(h:op≠.In)(h2:op≠.NotIn):behindInMarks op b=false:=by
 have e1:(op==CmpOp.In)=false:=by cases op<;>first|rfl|exact absurd rfl h
 have e2:(op==CmpOp.NotIn)=false:=by cases op<;>first|rfl|exact absurd rfl h2
 cases b<;>simp[behindInMarks,e1,e2]
def tB(t:TE):TT:=λσ H Q=>t σ H λx H1=>∃c,x=.bl c/\Q c H1
theorem K3{op:CmpOp}{t:TE}(h:PC X op a b t)(h1:behindInMarks op b=false:=by first|exact EE _ (by decide) (by decide)|rfl):PT X (.Compare a [op] [b] pos) (tB t):=by intro pins s σ H Q I hw;refine ad9 (aH (h pins s σ H _ I hw) λv s1 h1=>aH h1 λu s2 h2=>aH h2 λc s3 ⟨x,H1,I1,r1,q1⟩=>?_) h1;obtain⟨d,rfl,q⟩:=q1;cases r1;exact wpAny_truthy_bool ⟨H1,I1,q⟩
theorem bG{e:Expr}{t:TE}(h:PE X e t)(he:∀whole,isTrue e X.env whole=(do let v <-whole;standAt e.pos;holding [v] (truthy v)):=by intro _;rfl):PT X e (tB t):=by intro pins s σ H Q I hw;refine isTrue_plain (aH (h pins s σ H _ I hw) λv s1 ⟨x,H1,I1,r1,q1⟩=>?_) (he _);obtain⟨d,rfl,q⟩:=q1;cases r1;exact wpAny_truthy_bool ⟨H1,I1,q⟩
variable {tA G3:TT}{rest:List Expr}
def EF(t u:TT):TT:=λσ H Q=>t σ H λc H1=>if c=true then u σ H1 Q else Q false H1
def Wm(t u:TT):TT:=λσ H Q=>t σ H λc H1=>if c=true then Q true H1 else u σ H1 Q
def vz(t:TT):TT:=λσ H Q=>t σ H λc H1=>Q (!c) H1
theorem fE(ha:PT X a tA):PW X (.BoolOp .And [a] pos) tA:=by
 intro wh pins s σ H Q I h;refine isTrue_and (aH (ha pins s σ H Q I h) λc s1 e=>?_);cases c with
 |true=>exact isTrue_and_nil e
 |false=>exact e
theorem fh(ha:PT X a tA):PW X (.BoolOp .Or [a] pos) tA:=by
 intro wh pins s σ H Q I h;refine isTrue_or (aH (ha pins s σ H Q I h) λc s1 e=>?_);cases c with
 |false=>exact isTrue_or_nil e
 |true=>exact e
theorem gO(ha:PT X a tA)(hb:PW X (.BoolOp .And (b::rest) pos) G3):PW X (.BoolOp .And (a::b::rest) pos) (EF tA G3):=by
 intro wh pins s σ H Q I h;refine isTrue_and (aH (ha pins s σ H _ I h) λc s1 ⟨H1,I1,q1⟩=>?_);cases c with
 |true=>exact hb wh pins s1 σ H1 Q I1 q1
 |false=>exact⟨H1,I1,q1⟩
theorem fG(ha:PT X a tA)(hb:PW X (.BoolOp .Or (b::rest) pos) G3):PW X (.BoolOp .Or (a::b::rest) pos) (Wm tA G3):=by
 intro wh pins s σ H Q I h;refine isTrue_or (aH (ha pins s σ H _ I h) λc s1 ⟨H1,I1,q1⟩=>?_);cases c with
 |true=>exact⟨H1,I1,q1⟩
 |false=>exact hb wh pins s1 σ H1 Q I1 q1
theorem bO(ha:PT X a tA):PT X (.UnaryOp .Not a pos) (vz tA):=by intro pins s σ H Q I h;exact isTrue_not (ha pins s σ H (λc H1=>Q (!c) H1) I h)
def O3(ta tb:TE):TE:=λσ H Q=>ta σ H λx H1=>∃c,x=.bl c/\if c=true then tb σ H1 Q else Q (.bl false) H1
def K4(ta tb:TE):TE:=λσ H Q=>ta σ H λx H1=>∃c,x=.bl c/\if c=true then Q (.bl true) H1 else tb σ H1 Q
def O4(ta:TE):TE:=λσ H Q=>ta σ H λx H1=>∃c,x=.bl c/\Q (.bl (!c)) H1
theorem eC{op}{t:TE}(h:PE X a t):PE X (.BoolOp op [a] pos) t:=λpins s σ H Q I hw=>BoolOp_one (h pins s σ H Q I hw)
theorem eD(ha:PE X a ta)(hb:PE X (.BoolOp .And (b::rest) pos) tb):PE X (.BoolOp .And (a::b::rest) pos) (O3 ta tb):=by
 intro pins s σ H Q I h;refine BoolOp_and (aH (ha pins s σ H _ I h) λv s1 ⟨x,H1,I1,r1,q1⟩=>?_);obtain⟨c,rfl,q1⟩:=q1;cases r1;refine wpAny_truthy_bool ?_;cases c with
 |true=>exact hb pins s1 σ H1 Q I1 q1
 |false=>exact⟨.bl false,H1,I1,rfl,q1⟩
theorem O5(ha:PE X a ta)(hb:PE X (.BoolOp .Or (b::rest) pos) tb):PE X (.BoolOp .Or (a::b::rest) pos) (K4 ta tb):=by
 intro pins s σ H Q I h;refine BoolOp_or (aH (ha pins s σ H _ I h) λv s1 ⟨x,H1,I1,r1,q1⟩=>?_);obtain⟨c,rfl,q1⟩:=q1;cases r1;refine wpAny_truthy_bool ?_;cases c with
 |false=>exact hb pins s1 σ H1 Q I1 q1
 |true=>exact⟨.bl true,H1,I1,rfl,q1⟩
theorem BU(ha:PE X a ta):PE X (.UnaryOp .Not a pos) (O4 ta):=by intro pins s σ H Q I h;refine UnaryOp_ (aH (ha pins s σ H _ I h) λv s1 ⟨x,H1,I1,r1,q1⟩=>?_);obtain⟨c,rfl,q1⟩:=q1;cases r1;exact not_of (wpAny_truthy_bool ⟨.bl (!c),H1,I1,rfl,q1⟩)
def Wn(t:TT)(ta tb:TE):TE:=λσ H Q=>t σ H λc H1=>if c=true then ta σ H1 Q else tb σ H1 Q
theorem pz{c:Expr}(hc:PT X c tA)(ha:PE X a ta)(hb:PE X b tb):PE X (.IfExp c a b pos) (Wn tA ta tb):=by
 intro pins s σ H Q I h;refine wpAny_IfExp (aH (hc pins s σ H _ I h) λd s1 ⟨H1,I1,q1⟩=>?_);cases d with
 |true=>exact ha pins s1 σ H1 Q I1 q1
 |false=>exact hb pins s1 σ H1 Q I1 q1
end
def aj(K:PySem.W.Frag)(H:Hp)(a:Addr)(xs:List V):Prop:=
 Rd H a (.lst xs) \/
  ∃(o:Obj) (its:Array Value) (n:Nat),K.lookup a=some o/\o.cls=.type "list" /\ o.dict=none/\o.data=.seq its n/\its.size<=sizeLine/\Vals xs its.toList
def aL(K:PySem.W.Frag)(H:Hp)(a:Addr)(xs:List V):Prop:=
 Rd H a (.tup xs) \/
  ∃(o:Obj) (its:Array Value) (n:Nat),K.lookup a=some o/\o.cls=.type "tuple" /\ o.data=.seq its n/\its.size<=sizeLine/\Vals xs its.toList
def T4:Value->Option V
 |.none=>some .bz
 |.bool b=>some (.bl b)
 |.int i _=>some (.int i)
 |.str x _=>some (.str x)
 |.bytes b _=>some (.j8 b)
 |.float b _=>some (.qm b)
 |.ref a=>some (.ref a)
 |.type n=>some (.ty n)
 |_=>none
theorem RelV.abs{x:V}{u:Value}(r:RelV x u):T4 u=some x:=by
 cases x with
 |bz=>cases r;rfl
 |bl _=>cases r;rfl
 |int _=>obtain⟨t,rfl⟩:=r;rfl
 |str _=>obtain⟨t,rfl⟩:=r;rfl
 |j8 _=>obtain⟨t,rfl⟩:=r;rfl
 |qm _=>obtain⟨t,rfl⟩:=r;rfl
 |ref _=>cases r;rfl
 |ty _=>cases r;rfl
theorem RelV.inj{x y:V}{u:Value}(r:RelV x u)(q:RelV y u):x=y:=aaS (r.abs.symm.trans q.abs)
theorem Vals.inj:∀{xs ys:List V} {us:List Value},Vals xs us->Vals ys us->xs=ys
 |_,_,_,.nil,.nil=>rfl
 |_,_,_,.cons r t,.cons r' t'=>by rw[r.inj r',Vals.inj t t']
section
variable {X:Cx}{pins:List (Addr×Obj)}{σ:St}{H:Hp}{s:Shared}{a:Addr}{xs ys:List V}
theorem aj.of{K:PySem.W.Frag}(h:H a=some (.lst xs)):aj K H a xs:=.inl (.inl h)
theorem aL.of{K:PySem.W.Frag}(h:H a=some (.tup xs)):aL K H a xs:=.inl (.inl h)
theorem Inv.list(I:Inv X pins σ H s)(h:aj X.K H a xs):∃its:List Value,Vals xs its/\PlainL s.heap a its.toArray/\xs.length<=sizeLine:=by
 rcases h with h|⟨o,its,n,hk,hc,hd,hs,hz,r⟩
 ·obtain⟨z,its,n,r,e⟩:=h.ok I.aR;exact⟨its,r,⟨_,n,e,rfl,rfl,rfl⟩,z⟩
 ·refine⟨its.toList,r,⟨o,n,I.eQ a o hk,hc,hd,by simpa using hs⟩,?_⟩;have e:=r.length;simp only[aaV] at e;omega
theorem Inv.tuple(I:Inv X pins σ H s)(h:aL X.K H a xs):∃its:List Value,Vals xs its/\IsTup s.heap a its.toArray/\xs.length<=sizeLine:=by
 rcases h with h|⟨o,its,n,hk,hc,hs,hz,r⟩
 ·obtain⟨z,its,r,p⟩:=h.ok I.aR;exact⟨its,r,p,z⟩
 ·refine⟨its.toList,r,⟨o,I.eQ a o hk,hc,n,by simpa using hs⟩,?_⟩;have e:=r.length;simp only[aaV] at e;omega
theorem Inv.lY(I:Inv X pins σ H s)(h:aj X.K H a xs)(h':aj X.K H a ys):xs=ys:=by
 obtain⟨its,r,⟨o,n,e,_,_,d⟩,_⟩:=I.list h;obtain⟨its',r',⟨o',n',e',_,_,d'⟩,_⟩:=I.list h';rw[e] at e';cases e';rw[d] at d';injection d' with d1 _
 have:its=its':=by simpa using congrArg Array.toList d1
 subst this;exact r.inj r'
theorem Inv.tP(I:Inv X pins σ H s)(h:aL X.K H a xs)(h':aL X.K H a ys):xs=ys:=by
 obtain⟨its,r,⟨o,e,_,n,d⟩,_⟩:=I.tuple h;obtain⟨its',r',⟨o',e',_,n',d'⟩,_⟩:=I.tuple h';rw[e] at e';cases e';rw[d] at d';injection d' with d1 _
 have:its=its':=by simpa using congrArg Array.toList d1
 subst this;exact r.inj r'
end
abbrev Cx.jH(X:Cx)(E:Value->Shared->Prop):Cx:={X with xe:=E}
abbrev Cx.yD(X:Cx):Cx:=X.jH λ_ _=>False
theorem Cx.Ok.jH{X:Cx}(ok:X.Ok)(E:Value->Shared->Prop):(X.jH E).Ok:=
 ⟨ok.mod,ok.kind,ok.glob,ok.blt,ok.above,ok.inj,ok.has,ok.BQ,ok.hd,ok.frames,ok.GY,ok.yB,ok.bs,ok.qo,ok.vp,ok.Ah,ok.jj,ok.vq⟩
theorem Cx.Ok.gQ{X:Cx}{E:Value->Shared->Prop}(ok:(X.jH E).Ok):X.Ok:=
 ⟨ok.mod,ok.kind,ok.glob,ok.blt,ok.above,ok.inj,ok.has,ok.BQ,ok.hd,ok.frames,ok.GY,ok.yB,ok.bs,ok.qo,ok.vp,ok.Ah,ok.jj,ok.vq⟩
section
variable {X:Cx}{pins:List (Addr×Obj)}{σ:St}{H:Hp}{s:Shared}{E:Value->Shared->Prop}
theorem Inv.jH(I:Inv X pins σ H s)(E:Value->Shared->Prop):Inv (X.jH E) pins σ H s:=⟨I.ok.jH E,I.os,I.bare,I.base,I.loc,I.cell,I.free,I.g0,I.pin,I.aR,I.len⟩
theorem Inv.gQ(I:Inv (X.jH E) pins σ H s):Inv X pins σ H s:=⟨I.ok.gQ,I.os,I.bare,I.base,I.loc,I.cell,I.free,I.g0,I.pin,I.aR,I.len⟩
theorem SP.gQ{D:Ends}{f:Flow}{s':Shared}(h:SP (X.jH E) pins D f s'):SP X pins D f s':=by
 cases f with
 |next=>obtain⟨σ',H',I,q⟩:=h;exact⟨σ',H',I.gQ,q⟩
 |brk=>obtain⟨σ',H',I,q⟩:=h;exact⟨σ',H',I.gQ,q⟩
 |cont=>obtain⟨σ',H',I,q⟩:=h;exact⟨σ',H',I.gQ,q⟩
 |ret u=>obtain⟨v,σ',H',I,r,q⟩:=h;exact⟨v,σ',H',I.gQ,r,q⟩
theorem j9.yD{st:List Stmt}{t:TS}(h:j9 X.yD st t):j9 X st t:=λpins s σ H D I hw =>wpAny_mono (h pins s σ H D (I.jH _) hw) (λ_ _ q=>q.gQ) λ_ _ z=>False.elim z
end
section
variable {X:Cx}{st:Stmt}{rest:List Stmt}{t u:TS}{e:Expr}{te:TE}{pos:Pos}
def va:TS:=λD σ H=>D.nx σ H
def kE(t u:TS):TS:=λD σ H=>t {D with nx:=u D} σ H
theorem aT:j9 X [] va:=λ_ _ σ H _ I h=>wpAny_execs_nil ⟨σ,H,I,h⟩
theorem ag(h1:PS X st t)(h2:j9 X rest u):j9 X (st::rest) (kE t u):=by
 intro pins s σ H D I h;refine ae5 (aH (h1 pins s σ H {D with nx:=u D} I h) λf s1 q=>?_);cases f with
 |next =>obtain⟨σ',H',I',q⟩:=q;exact h2 pins s1 σ' H' D I' q
 |ret v=>exact q
 |brk=>exact q
 |cont=>exact q
theorem ao(h1:PS X st t):j9 X [st] t:=by
 intro pins s σ H D I h;refine ae5 (aH (h1 pins s σ H D I h) λf s1 q=>?_);cases f with
 |next=>exact wpAny_execs_nil q
 |ret v=>exact q
 |brk=>exact q
 |cont=>exact q
theorem Inv.quiet{pins:List (Addr×Obj)}{σ:St}{H:Hp}{s:Shared}(I:Inv X pins σ H s):interactive X.env=false:=by simp[interactive,I.ok.kind]
def oz(te:TE):TS:=λD σ H=>te σ H λ_ H1=>D.nx σ H1
theorem aW(he:PE X e te)(hs:swapsWith e none pos.line X.env=pure false:=by rfl):PS X (.Expr e pos) (oz te):=by intro pins s σ H D I h;exact wpAny_Expr_any (aH (he pins s σ H _ I h) λv s1 ⟨x,H1,I1,r1,q1⟩=>⟨σ,H1,I1,q1⟩) I.quiet hs
def T5(te:TE):TS:=λD σ H=>te σ H D.rt
theorem aI(he:PE X e te):PS X (.Return (some e) pos) (T5 te):=by intro pins s σ H D I h;exact wpAny_Return_some (aH (he pins s σ H _ I h) λv s1 ⟨x,H1,I1,r1,q1⟩=>⟨x,σ,H1,I1,r1,q1⟩)
def Ai(c:TT)(t u:TS):TS:=λD σ H=>c σ H λb H1=>if b=true then t D σ H1 else u D σ H1
theorem bu{c:Expr}{a b:List Stmt}{tc:TT}(hc:PT X c tc)(ha:j9 X a t)(hb:j9 X b u):PS X (.If c a b pos) (Ai tc t u):=by
 intro pins s σ H D I h;refine wpAny_If (aH (hc pins s σ H _ I h) λd s1 ⟨H1,I1,q1⟩=>?_);cases d with
 |true=>exact ha pins s1 σ H1 D I1 q1
 |false=>exact hb pins s1 σ H1 D I1 q1
def K5:TS:=λ_ _ _=>False
theorem cN:PS X st K5:=λ_ _ _ _ _ _ h=>h.elim
end
abbrev TG:=V->St->Hp->(St->Hp->Prop)->Prop
abbrev mW:=List V->St->Hp->(St->Hp->Prop)->Prop
def PG(X:Cx)(target:Expr)(t:TG):Prop:=
 ∀(pins:List (Addr×Obj)) (s:Shared) (σ:St) (H:Hp) (v:V) (u:Value) (Q:St->Hp->Prop),Inv X pins σ H s->RelV v u->t v σ H Q ->
  wpAny (model X.prog X.w) X.A (assign target X.env u) (λ_ s'=>∃σ' H',Inv X pins σ' H' s'/\Q σ' H') X.xe s
def G4(X:Cx)(ts:List Expr)(t:mW):Prop:=
 ∀(pins:List (Addr×Obj)) (s:Shared) (σ:St) (H:Hp) (vs:List V) (us:List Value) (Q:St->Hp->Prop),Inv X pins σ H s->Vals vs us->t vs σ H Q ->
  wpAny (model X.prog X.w) X.A (assignInOrder ((assignEach ts X.env).map (·.2)) us) (λ_ s'=>∃σ' H',Inv X pins σ' H' s'/\Q σ' H') X.xe s
abbrev vA:=V->V->V->Hp->(Hp->Prop)->Prop
def EG(X:Cx)(t:vA):Prop:=
 ∀(pins:List (Addr×Obj)) (s:Shared) (σ:St) (H:Hp) (o i v:V) (ov iv u:Value) (Q:Hp->Prop),Inv X pins σ H s->RelV o ov->RelV i iv->RelV v u->t o i v H Q ->
  wpAny (model X.prog X.w) X.A (setItem ov iv u) (λ_ s'=>∃H',Inv X pins σ H' s'/\Q H') X.xe s
abbrev G5:=V->V->Hp->VK->Prop
def QP(X:Cx)(op:Operator)(t:G5):Prop:=
 ∀(pins:List (Addr×Obj)) (s:Shared) (σ:St) (H:Hp) (x y:V) (v u:Value) (Q:VK),Inv X pins σ H s->RelV x v->RelV y u->t x y H Q ->
  wpAny (model X.prog X.w) X.A (inplaceOp op v u) (EP X pins σ Q) X.xe s
section
variable {X:Cx}{pos:Pos}
def bh(i:Nat):TG:=λv σ H Q=>Q (σ.set i (some v)) H
theorem aD{i:Nat}{x:Str}(hN:X.N.Nodup)(hi:X.N[i]?=some x)(hx:Loc X.env.scope x)(hf:X.fn x=true\/X.env.scope.names.lookup x=some .local:=by first|exact .inl rfl|exact .inr rfl|assumption):PG X (.Name x pos) (bh i):=by intro pins s σ H v u Q I r h;exact aeM (lW I hN hi hx r (λs' I'=>⟨_,H,I',h⟩) hf)
def m8:mW:=λvs σ H Q=>vs=[]/\Q σ H
def g4(t:TG)(u:mW):mW:=λvs σ H Q=>∃v r,vs=v::r/\t v σ H λσ' H'=>u r σ' H' Q
theorem cg:G4 X [] m8:=by rintro pins s σ H vs us Q I r ⟨e,h⟩;subst e;cases r;exact assignInOrder_nil ⟨σ,H,I,h⟩
theorem aO{e:Expr}{es:List Expr}{t:TG}{u:mW}(h1:PG X e t)(h2:G4 X es u)
  (hs:(assignEach (e::es) X.env).map (·.2)=assign e X.env::(assignEach es X.env).map (·.2):=by rfl):G4 X (e::es) (g4 t u):=by
 rintro pins s σ H vs us Q I r ⟨v,vr,e1,h⟩;subst e1;cases r with
 |cons r rr =>rw[hs];refine assignInOrder_cons (aH (h1 pins s σ H _ _ _ I r h) λ_ s1 ⟨σ1,H1,I1,q1⟩=>?_);exact h2 pins s1 σ1 H1 _ _ Q I1 rr q1
def m9(K:PySem.W.Frag)(n:Nat)(t:mW):TG:=λv σ H Q=>∃a xs,v=.ref a/\aL K H a xs/\xs.length=n/\t xs σ H Q
theorem cI{es:List Expr}{k:Nat}{t:mW}{n:Nat}(hc:X.calm=true)(h:G4 X es t)
  (hn:(assignEach es X.env).length=n:=by rfl) (hst:(assignEach es X.env).findIdx? (·.1)=none:=by rfl):PG X (.Tuple es k pos) (m9 X.K n t):=by
 rintro pins s σ H v u Q I r ⟨a,xs,e1,hq,hl,hw⟩;subst e1;cases r;obtain⟨its,rv,ht,hz⟩:=I.tuple hq;refine assign_Tuple_tuple (I.ok.hd hc) ht (by simp[hn,<-hl,rv.length]) hst λh' hx=>?_;have I1:Inv X pins σ H {s with heap:=h' }:=I.kept (t':=s.toks) λb o e=>hx b o (aaG (aay e)) e;exact h pins _ σ H xs _ Q I1 (by simpa using rv) hw
def T6(to ti:TE)(t:vA):TG:=λv σ H Q=>to σ H λo H1=>ti σ H1 λi H2=>t o i v H2 λH3=>Q σ H3
theorem qq{o i:Expr}{to ti:TE}{t:vA}(ho:PE X o to)(hi:PE X i ti)(hs:EG X t)
  (ha:∀v,assign (.Subscript o i pos) X.env v=(do
   let ov <-holding [v] (eval o X.env)
   let iv <-holding [v,ov] (eval i X.env)
   standAt pos
   holding [v,ov,iv] (setItem ov iv v)
   release [v,ov,iv] []):=by intro _;rfl):PG X (.Subscript o i pos) (T6 to ti t):=by
 intro pins s σ H v u Q I r h;rw[ha];refine wpAny_bind (wpAny_holding (aH (ho pins s σ H _ I h) λov s1 ⟨x,H1,I1,r1,q1⟩=>?_));refine wpAny_bind (wpAny_holding (aH (hi pins s1 σ H1 _ I1 q1) λiv s2 ⟨y,H2,I2,r2,q2⟩=>?_));refine wpAny_bind (wpAny_standAt (wpAny_bind (wpAny_holding (aH (hs pins s2 σ H2 x y v ov iv u _ I2 r1 r2 r q2) λ_ s3 ⟨H3,I3,q3⟩=>?_))));exact wpAny_release ⟨σ,H3,I3,q3⟩
def vB(te:TE)(g:TG):TS:=λD σ H=>te σ H λx H1=>g x σ H1 D.nx
theorem iu{tg e:Expr}{te:TE}{g:TG}(he:PE X e te)(hg:PG X tg g)(hs:swapsWithSole [tg] e pos.line X.env=pure false:=by rfl)(hw:swappedStores [tg] e X.env=pure none:=by rfl)
  (h1:(assignEach [tg] X.env).map (·.2)=[assign tg X.env]:=by rfl):PS X (.Assign [tg] e pos) (vB te g):=by
 intro pins s σ H D I h;refine wpAny_Assign_stores (aH (he pins s σ H _ I h) λv s1 ⟨x,H1,I1,r1,q1⟩=>?_) hs hw;rw[h1];exact aH (hg pins s1 σ H1 x v _ I1 r1 q1) λ_ s2 q=>q
theorem aN{i:Nat}{x:Str}{e:Expr}{te:TE}{pos':Pos}(hN:X.N.Nodup)(hi:X.N[i]?=some x)(hx:Loc X.env.scope x)(he:PE X e te)(hs:swapsWith e (some (.Name x pos')) pos.line X.env=pure false:=by rfl)(hf:X.fn x=true\/X.env.scope.names.lookup x=some .local:=by first|exact .inl rfl|exact .inr rfl|assumption) :
  PS X (.Assign [.Name x pos'] e pos) (vB te (bh i)):=by
 intro pins s σ H D I h;refine wpAny_Assign_Name (aH (he pins s σ H _ I h) λv s1 ⟨y,H1,I1,r1,q1⟩=>?_) hs;exact lW I1 hN hi hx r1 (λs2 I2=>⟨_,H1,I2,q1⟩) hf
def T7(i j:Nat)(ta:TA):TS:=λD σ H=>ta σ H λvs H1=>∃v w,vs=[v,w]/\D.nx ((σ.set i (some v)).set j (some w)) H1
theorem BV{i j:Nat}{x y:Str}{a b:Expr}{ta:TA}{px py pt:Pos}{kt k2 K6}(hc:X.calm=true)(hN:X.N.Nodup)(hi:X.N[i]?=some x)(hj:X.N[j]?=some y)(hij:i≠j)
  (hx:X.env.scope.names.lookup x=some .local) (hy:X.env.scope.names.lookup y=some .local) (ha:PA X [a,b] ta)
  (hw:swappedStores [.Tuple [.Name x px,.Name y py] kt pt] (.Tuple [a,b] k2 K6) X.env=pure (some [x,y]))
  (hs:swapsWithSole [.Tuple [.Name x px,.Name y py] kt pt] (.Tuple [a,b] k2 K6) pos.line X.env=pure false:=by rfl) :
  PS X (.Assign [.Tuple [.Name x px,.Name y py] kt pt] (.Tuple [a,b] k2 K6) pos) (T7 i j ta):=by
 intro pins s σ H D I h;rw[exec_Assign_arm];refine wpAny_bind (wpAny_standAt ?_);rw[hs];refine wpAny_bind (wpAny_pure ?_);rw[if_neg (by decide)];refine wpAny_bind (Tuple_ (aH (ha _ pins s σ H _ I h) λus s1 ⟨vs,H1,I1,r1,q1⟩=>?_));obtain⟨v,w,e1,q1⟩:=q1;subst e1;obtain⟨u1,u2,rfl,rv,jI⟩:∃u1 u2,us=[u1,u2]/\RelV v u1/\RelV w u2:=by
  cases r1 with
  |cons p q=>
   cases q with
   |cons p' q' =>cases q';exact⟨_,_,rfl,p,p'⟩
 refine wpAny_newObj_type ?_ (by show 2<=sizeLine;decide);have I2:Inv X pins σ H1 {s1 with heap:=s1.heap.push {cls:=.type "tuple",data:=.seq [u1,u2].toArray} }:=I1.kept (t':=s1.toks) λb o e=>aao _ e;rw[hw];refine wpAny_bind (wpAny_pure ?_);show wpAny (model X.prog X.w) X.A (do rule "assign.swapped-stores";let items <-unpackItems (.ref s1.heap.objs.size) 2 none;assignInOrder [λv=>bindName X.env y v,λv=>bindName X.env x v] items.reverse;pure Flow.next) _ _ _
 refine wpAny_bind (wpAny_rule (wpAny_bind (unpackItems_tuple (items:=#[u1,u2]) (I.ok.hd hc) (agc s1.heap _) λh' hx'=>?_)));have I3:=I2.kept (h':=h') (t':=s1.toks) λb o e=>hx' b o (aaG (aay e)) e;show wpAny _ _ (assignInOrder [λv=>bindName X.env y v,λv=>bindName X.env x v] [u2,u1]>>=λ_=>pure Flow.next) _ _ _
 refine wpAny_bind (assignInOrder_cons (wpAny_bindName (lW I3 hN hj (.inl hy) jI (λs2 I4=>?_) (.inr hy))));refine assignInOrder_cons (wpAny_bindName (lW I4 hN hi (.inl hx) rv (λs3 I5=>assignInOrder_nil (wpAny_pure ?_)) (.inr hx)));rw[List.set_comm _ _ (aaX hij)] at I5;exact⟨_,H1,I5,q1⟩
def O7(to ti te:TE)(tget:V->V->Hp->VK->Prop)(tip:G5)(tset:vA):TS:=λD σ H=>to σ H λo H1=>ti σ H1 λi H2=>tget o i H2 λx H3=>te σ H3 λy H4=>tip x y H4 λz H5=>tset o i z H5 λH6=>D.nx σ H6
def K7(X:Cx)(t:V->V->Hp->VK->Prop):Prop:=
 ∀(pins:List (Addr×Obj)) (s:Shared) (σ:St) (H:Hp) (o i:V) (ov iv:Value) (Q:VK),Inv X pins σ H s->RelV o ov->RelV i iv->t o i H Q ->
  wpAny (model X.prog X.w) X.A (getItem ov iv) (EP X pins σ Q) X.xe s
theorem Jb{o i e:Expr}{to ti te:TE}{tget:V->V->Hp->VK->Prop}{tip:G5}{tset:vA}{op:Operator}{EH:Pos}(ho:PE X o to)(hi:PE X i ti)(hg:K7 X tget)(he:PE X e te)(hp:QP X op tip)(hs:EG X tset)
  (ha:∀ov iv new,augStore i ov iv new=(do holding [new,ov,iv] (setItem ov iv new);release [new,ov,iv] [];pure .next):=by intros;rfl):PS X (.AugAssign (.Subscript o i EH) op e pos) (O7 to ti te tget tip tset):=by
 intro pins s σ H D I h;refine wpAny_AugAssign_SubscriptAny (aH (ho pins s σ H _ I h) λov s1 ⟨x1,H1,I1,r1,q1⟩=>?_) ha;refine aH (hi pins s1 σ H1 _ I1 q1) λiv s2 ⟨x2,H2,I2,r2,q2⟩=>?_;refine aH (hg pins s2 σ H2 x1 x2 ov iv _ I2 r1 r2 q2) λold s3 ⟨x3,H3,I3,r3,q3⟩=>?_;refine aH (he pins s3 σ H3 _ I3 q3) λv s4 ⟨x4,H4,I4,r4,q4⟩=>?_;refine aH (hp pins s4 σ H4 x3 x4 old v _ I4 r3 r4 q4) λnew s5 ⟨x5,H5,I5,r5,q5⟩=>?_;exact aH (hs pins s5 σ H5 x1 x2 x5 ov iv new _ I5 r1 r2 r5 q5) λ_ s6 ⟨H6,I6,q6⟩=>⟨σ,H6,I6,q6⟩
def Wo(f:Int->Int->Int):G5:=λx y H Q=>∃i j,x=.int i/\y=.int j/\Q (.int (f i j)) H
theorem K8:QP X .Add (Wo λi j=>i+j):=by rintro pins s σ H x y v u Q I r1 r2 ⟨i,j,e1,e2,q⟩;subst e1;subst e2;obtain⟨t,rfl⟩:=r1;obtain⟨t',rfl⟩:=r2;exact iadd_int ⟨.int _,H,I.tok _,⟨_,rfl⟩,q⟩
def K9(c:TT)(tb:TS):TS:=λD σ H=>∃W:Nat->St->Hp->Prop,(∃m,W m σ H)/\∀m σ H,W m σ H ->
 c σ H λb H1=>if b=true then ∃N:St->Hp->Prop,(∀σ' H',N σ' H'->∃m',m'<m/\W m' σ' H')/\tb {D with nx:=N,ct:=N,bk:=D.nx} σ H1 else D.nx σ H1
theorem lZ{c:Expr}{body:List Stmt}{tc:TT}{tb:TS}(hp:PassesOwn (model X.prog X.w) X.A X.env X.xe)(hc:PT X c tc)(hb:j9 X body tb):PS X (.While c body [] pos) (K9 tc tb):=by
 rintro pins s σ H D I ⟨W,⟨m0,w0⟩,turn⟩;refine wpAny_While (codeAny_whileLoop (λn s'=>∃σ' H',Inv X pins σ' H' s'/\W n σ' H') ?_ m0 ⟨σ,H,I,w0⟩);rintro n s1 ⟨σ1,H1,I1,w1⟩;refine ab6 hp (aH (hc pins s1 σ1 H1 _ I1 (turn n σ1 H1 w1)) λb s2 ⟨H2,I2,q2⟩=>?_);cases b with
 |true=>
  obtain⟨N,hN,q2⟩:=q2;rw[if_pos rfl];refine ab6 hp (aH (hb pins s2 σ1 H2 _ I2 q2) λf s3 q3=>?_);cases f with
  |next =>obtain⟨σ3,H3,I3,n3⟩:=q3;obtain⟨m',hm,w3⟩:=hN σ3 H3 n3;exact⟨m',hm,σ3,H3,I3,w3⟩
  |cont =>obtain⟨σ3,H3,I3,n3⟩:=q3;obtain⟨m',hm,w3⟩:=hN σ3 H3 n3;exact⟨m',hm,σ3,H3,I3,w3⟩
  |brk=>exact q3
  |ret v=>exact q3
 |false =>rw[if_neg aaK];exact wpAny_execs_nil ⟨σ1,H2,I2,q2⟩
end
structure It where
 go:Nat->Hp->Prop
 oN:Nat->Hp->V->Hp->Prop
 stop:Nat->Hp->Prop
def d4(X:Cx)(pins:List (Addr×Obj))(H:Hp)(b:Addr):Prop:=
 H b=none/\b≠X.env.locals/\b∉X.fs/\(b∈X.ex\/X.s₀.heap.objs.size<=b)/\(∀x c,X.env.cells.lookup x=some c->c≠b)/\∀p∈X.pn++pins,p.1≠b
theorem Inv.rM{X:Cx}{pins:List (Addr×Obj)}{σ:St}{H H':Hp}{s:Shared}{b:Addr}(I:Inv X pins σ H s)(hb:s.heap.objs.size<=b)(hn:H' b=none):d4 X pins H' b:=by
 refine⟨hn,ac3 (aaT I.lt hb),I.vt hb,.inr (aap I.sz hb),λx c e z=>?_,λp hp z=>?_⟩
 ·obtain⟨v,q⟩:=I.cell x c e;exact absurd (aaT q.lt (by rw[z];exact hb)) (aa8 _)
 ·exact absurd (aaT (aay (I.pin p hp).1) (by rw[z];exact hb)) (aa8 _)
structure Turn(P:Program)(w:World)(K:PySem.W.Frag)(tg:Expr)(J:It)(fp:List Addr)(it:Addr)(tn:Nat->Heap->Prop):Prop where
 mem:it∈fp
 obj:∀i h,tn i h->∀b∈fp,∃o,h.get? b=some o/\∀v,o.data≠.cell v
 keep:∀i h h',tn i h->(∀b∈fp,∀o,h.get? b=some o->h'.get? b=some o)->tn i h'
 item:∀(X:Cx),X.prog=P->X.w=w->X.K=K->X.calm=true->∀(i:Nat) (pins:List (Addr×Obj)) (s:Shared) (σ:St) (H:Hp) (E:Value->Shared->Prop),Inv X pins σ H s->(∀b∈fp,d4 X pins H b)->tn i s.heap->J.go i H ->
  wpAny (model P w) X.A (pyNext (.ref it)) (λr s1=>∃u,r=some u /\
   wpAny (model P w) X.A (letOwnedTupleGo tg (.ref it) u) (λ_ s2=>∃x H',Inv X pins σ H' s2/\RelV x u/\J.oN i H x H'/\tn (i+1) s2.heap/\∀b∈fp,H' b=none) E s1) E s
 done:∀(X:Cx),X.prog=P->X.w=w->X.K=K->X.calm=true->∀(i:Nat) (pins:List (Addr×Obj)) (s:Shared) (σ:St) (H:Hp) (E:Value->Shared->Prop),Inv X pins σ H s->(∀b∈fp,d4 X pins H b)->tn i s.heap->J.stop i H ->
  wpAny (model P w) X.A (pyNext (.ref it)) (λr s1=>r=none/\Inv X pins σ H s1) E s
 self:∀(A:Around) (i:Nat) (s:Shared) (Q:Value->Shared->Prop) (E:Value->Shared->Prop),tn i s.heap->Q (.ref it) s->wpAny (model P w) A (pyIter (.ref it)) Q E s
abbrev TI:=St->Hp->(It->Hp->Prop)->Prop
def K'(X:Cx)(pins:List (Addr×Obj))(σ:St)(tg:Expr)(R:It->Hp->Prop)(itv:Value)(s2:Shared):Prop:=
 ∃(it:Addr) (fp:List Addr) (tn:Nat->Heap->Prop) (J:It) (H':Hp),itv=.ref it/\Inv X pins σ H' s2/\Turn X.prog X.w X.K tg J fp it tn/\tn 0 s2.heap/\(∀b∈fp,d4 X pins H' b)/\R J H'
def PI(X:Cx)(tg iter:Expr)(wi:TI):Prop:=
 ∀(pins:List (Addr×Obj)) (s:Shared) (σ:St) (H:Hp) (R:It->Hp->Prop),Inv X pins σ H s->wi σ H R ->
  wpAny (model X.prog X.w) X.A (eval iter X.env) (λv s1=>wpAny (model X.prog X.w) X.A (pyIter v) (K' X pins σ tg R) X.xe s1) X.xe s
theorem Aj{M:Model}{A:Around}{E:Value->Shared->Prop}{s:Shared}{tg:Expr}{it:Addr}{u:Value}{o:Obj}{n:String}{vs:Array Value}{Q:Unit->Shared->Prop}(ho:s.heap.get? it=some o)(hc:o.cls=.type n)(hd:o.data=.fields vs)
  (hn:["enumerate","zip","dict_itemiterator","dict_reverseitemiterator","odict_iterator","itertools.zip_longest","itertools.pairwise"].contains n=false) (hQ:Q () s):wpAny M A (letOwnedTupleGo tg (.ref it) u) Q E s:=by
 unfold letOwnedTupleGo;cases tg<;>first
  |exact wpAny_pure hQ
  |(cases u<;>first
    |exact wpAny_pure hQ
    |(refine wpAny_bind (wpAny_load ho ?_);rw[hc,hd];show wpAny M A (if (["enumerate","zip","dict_itemiterator","dict_reverseitemiterator","odict_iterator","itertools.zip_longest","itertools.pairwise"].contains n&&vs[0]?==some (rawInt _))=true then _ else _) Q E s;rw[if_neg (by intro h;rw[hn,acM] at h;cases h)];exact wpAny_pure hQ))
def oO(K:PySem.W.Frag)(a:Addr):It:=
 ⟨λi H=>∃xs x,aj K H a xs/\xs[i]?=some x,λi H x H'=>H'=H/\∀xs,aj K H a xs->xs[i]?=some x,λi H=>∃xs,aj K H a xs/\xs.length<=i⟩
def G6(K:PySem.W.Frag)(a:Addr):It:=
 ⟨λi H=>∃xs x,aL K H a xs/\xs[i]?=some x,λi H x H'=>H'=H/\∀xs,aL K H a xs->xs[i]?=some x,λi H=>∃xs,aL K H a xs/\xs.length<=i⟩
def tQ(lo:Int)(n:Nat):It:=⟨λi _=>i<n,λi H x H'=>H'=H/\x=.int (lo+i),λi _=>n<=i⟩
theorem BW{P:Program}{w:World}{K:PySem.W.Frag}{tg:Expr}(a it:Addr):Turn P w K tg (oO K a) [it] it (λi h=>h.IsListIter it a i) where
 mem:=by simp
 obj:=λi h st b hb=>by
  have e:b=it:=by simpa using hb
  subst e;obtain⟨o,e,c,d⟩:=st;exact⟨o,e,λv z=>by rw[d] at z;cases z⟩
 keep:=λi h h' st k=>st.at λo e=>k it (by simp) o e
 item:=by intro X hP hw hK hc i pins s σ H E I hf st hg;subst hP hw hK;obtain⟨xs,x,hq,hx⟩:=hg;obtain⟨its,rv,p,hz⟩:=I.list hq;obtain⟨u,hu,ru⟩:=rv.get hx;obtain⟨f0,f1,f2,f3,f4,f5⟩:=hf it (by simp);refine wpAny_pyNext_list_item st p.isList (x:=u) (by simpa using hu) λh' fi sb=>?_;have I1:Inv X pins σ H {s with heap:=h' }:=I.turned (t':=s.toks) (λb o hb e=>(sb.2 b hb).trans e) f0 f1 f3 f4 f5;obtain⟨o,e,c,d⟩:=id fi;exact⟨u,rfl,Aj (s:={s with heap:=h' }) e c d (by decide) ⟨x,H,I1,ru,⟨rfl,λys hy=>by rw[I.lY hy hq];exact hx⟩,fi,λb hb=>(hf b hb).1⟩⟩
 done:=by intro X hP hw hK hc i pins s σ H E I hf st hg;subst hP hw hK;obtain⟨xs,hq,hx⟩:=hg;obtain⟨its,rv,p,hz⟩:=I.list hq;obtain⟨f0,f1,f2,f3,f4,f5⟩:=hf it (by simp);have hl:=rv.length;exact wpAny_pyNext_list_end (I.ok.hd hc) st p.isList (by simp;omega) λh' eb=>⟨rfl,I.turned (t':=s.toks) (λb o hb e=>eb b o hb e) f0 f1 f3 f4 f5⟩
 self:=λ_ _ _ _ _ st h=>wpAny_pyIter_listiter st h
theorem Ak{P:Program}{w:World}{K:PySem.W.Frag}{tg:Expr}(a it:Addr):Turn P w K tg (G6 K a) [it] it (λi h=>h.IsTupleIter it a i) where
 mem:=by simp
 obj:=λi h st b hb=>by
  have e:b=it:=by simpa using hb
  subst e;obtain⟨o,e,c,d⟩:=st;exact⟨o,e,λv z=>by rw[d] at z;cases z⟩
 keep:=λi h h' st k=>st.at λo e=>k it (by simp) o e
 item:=by intro X hP hw hK hc i pins s σ H E I hf st hg;subst hP hw hK;obtain⟨xs,x,hq,hx⟩:=hg;obtain⟨its,rv,p,hz⟩:=I.tuple hq;obtain⟨u,hu,ru⟩:=rv.get hx;obtain⟨f0,f1,f2,f3,f4,f5⟩:=hf it (by simp);refine wpAny_pyNext_tuple_item st (show s.heap.IsTuple a its.toArray from p) (x:=u) (by simpa using hu) λh' fi sb=>?_;have I1:Inv X pins σ H {s with heap:=h' }:=I.turned (t':=s.toks) (λb o hb e=>(sb.2 b hb).trans e) f0 f1 f3 f4 f5;obtain⟨o,e,c,d⟩:=id fi;exact⟨u,rfl,Aj (s:={s with heap:=h' }) e c d (by decide) ⟨x,H,I1,ru,⟨rfl,λys hy=>by rw[I.tP hy hq];exact hx⟩,fi,λb hb=>(hf b hb).1⟩⟩
 done:=by intro X hP hw hK hc i pins s σ H E I hf st hg;subst hP hw hK;obtain⟨xs,hq,hx⟩:=hg;obtain⟨its,rv,p,hz⟩:=I.tuple hq;obtain⟨f0,f1,f2,f3,f4,f5⟩:=hf it (by simp);have hl:=rv.length;exact wpAny_pyNext_tuple_end (I.ok.hd hc) st (show s.heap.IsTuple a its.toArray from p) (by simp;omega) λh' eb=>⟨rfl,I.turned (t':=s.toks) (λb o hb e=>eb b o hb e) f0 f1 f3 f4 f5⟩
 self:=λ_ _ _ _ _ st h=>wpAny_pyIter_tupleiter st h
theorem Am{P:Program}{w:World}{K:PySem.W.Frag}{tg:Expr}(it:Addr)(lo:Int)(n:Nat):Turn P w K tg (tQ lo n) [it] it (λi h=>IsRangeIter h it (lo+(i:Nat)*1) ((n:Int)-(i:Nat)) 1) where
 mem:=by simp
 obj:=λi h st b hb=>by
  have e:b=it:=by simpa using hb
  subst e;exact⟨_,st,λv z=>by have z':Data.fields _=Data.cell v:=z;cases z'⟩
 keep:=λi h h' st k=>k it (by simp) _ st
 item:=by intro X hP hw hK hc i pins s σ H E I hf st hg;subst hP hw hK;obtain⟨f0,f1,f2,f3,f4,f5⟩:=hf it (by simp);have W:=Walks.range (prog:=X.prog) (w:=X.w) (I.ok.hd hc) it lo 1 n;refine W.item i s _ _ hg st λv h' tk hv fi kk=>?_;obtain⟨t,rfl⟩:=hv;have I1:Inv X pins σ H {s with heap:=h',toks:=tk}:=I.turned (λb o hb e=>kk b o (by simpa using hb) e) f0 f1 f3 f4 f5;refine⟨_,rfl,Aj (s:={s with heap:=h',toks:=tk}) (n:="range_iterator") fi rfl rfl (by decide) ⟨.int (lo+i),H,I1,⟨t,?_⟩,⟨rfl,rfl⟩,fi,λb hb=>(hf b hb).1⟩⟩;rw[Int.mul_one]
 done:=by intro X hP hw hK hc i pins s σ H E I hf st hg;subst hP hw hK;obtain⟨f0,f1,f2,f3,f4,f5⟩:=hf it (by simp);exact wpAny_pyNext_range_end (I.ok.hd hc) st (by have:n<=i:=hg;omega) λh' eb=>⟨rfl,I.turned (t':=s.toks) (λb o hb e=>eb b o hb e) f0 f1 f3 f4 f5⟩
 self:=λ_ _ _ _ _ st h=>wpAny_pyIter_rangeiter st h
section
variable {X:Cx}{tg:Expr}
def An(K:PySem.W.Frag)(tl:TE):TI:=λσ H R=>tl σ H λx H1=>∃a,x=.ref a/\(∃xs,aj K H1 a xs)/\R (oO K a) H1
def T8(K:PySem.W.Frag)(tl:TE):TI:=λσ H R=>tl σ H λx H1=>∃a,x=.ref a/\(∃xs,aL K H1 a xs)/\R (G6 K a) H1
theorem bg{l:Expr}{tl:TE}(hl:PE X l tl):PI X tg l (An X.K tl):=by
 intro pins s σ H R I h;refine aH (hl pins s σ H _ I h) λv s1 ⟨x,H1,I1,r1,q1⟩=>?_;obtain⟨a,e,⟨xs,hq⟩,q⟩:=q1;subst e;cases r1;obtain⟨its,rv,p,hz⟩:=I1.list hq;refine wpAny_pyIter_list p.isList ?_;refine⟨s1.heap.objs.size,[s1.heap.objs.size],_,_,H1,rfl,I1.kept (t':=s1.toks) λb o e=>aao _ e,BW a _,⟨_,aaC _ rfl,rfl,rfl⟩,λb hb=>?_,q⟩;have e:b=s1.heap.objs.size:=by simpa using hb
 subst e;exact I1.rM (aal _) (I1.aR.fresh (aal _))
theorem qr{l:Expr}{tl:TE}(hl:PE X l tl):PI X tg l (T8 X.K tl):=by
 intro pins s σ H R I h;refine aH (hl pins s σ H _ I h) λv s1 ⟨x,H1,I1,r1,q1⟩=>?_;obtain⟨a,e,⟨xs,hq⟩,q⟩:=q1;subst e;cases r1;obtain⟨its,rv,p,hz⟩:=I1.tuple hq;refine aex (show s1.heap.IsTuple a its.toArray from p) ?_;refine⟨s1.heap.objs.size,[s1.heap.objs.size],_,_,H1,rfl,I1.kept (t':=s1.toks) λb o e=>aao _ e,Ak a _,⟨_,aaC _ rfl,rfl,rfl⟩,λb hb=>?_,q⟩;have e:b=s1.heap.objs.size:=by simpa using hb
 subst e;exact I1.rM (aal _) (I1.aR.fresh (aal _))
theorem vC{pins:List (Addr×Obj)}{σ:St}{H:Hp}{s:Shared}{R:It->Hp->Prop}{E:Value->Shared->Prop}{lo hi:Int}{t u v:Tok}{tk:Nat}(I:Inv X pins σ H s)(h1:-(2 ^ 62)<=lo)(h2:lo<2 ^ 62)(h3:-(2 ^ 62)<=hi)(h4:hi<2 ^ 62)
  (q:R (tQ lo (hi-lo).toNat) H):wpAny (model X.prog X.w) X.A (pyIter (.ref s.heap.objs.size)) (K' X pins σ tg R) E {s with heap:=s.heap.push {cls:=.type "range",data:=.fields #[.int lo t,.int hi u,.int 1 v]},toks:=tk}:=by
 refine wpAny_pyIter_range (IsRange.new ..) (small_one h1 h2 h3 h4) ?_;have I1:Inv X pins σ H {s with heap:=s.heap.push {cls:=.type "range",data:=.fields #[.int lo t,.int hi u,.int 1 v]},toks:=tk}:=I.kept λb o e=>aao _ e;refine⟨(s.heap.push {cls:=.type "range",data:=.fields #[.int lo t,.int hi u,.int 1 v]}).objs.size,[(s.heap.push {cls:=.type "range",data:=.fields #[.int lo t,.int hi u,.int 1 v]}).objs.size],_,_,H,rfl,
  I1.kept (t':=tk) λb o e=>aao _ e,Am _ lo (hi-lo).toNat,?_,λb hb=>?_,q⟩
 ·have e1:lo+((0:Nat):Int)*1=lo:=by simp
  have e2:(((hi-lo).toNat:Nat):Int)-((0:Nat):Int)=Builtin.Range.rangeSize lo hi 1:=by rw[rangeSize_one];split<;>omega
  show IsRangeIter _ _ (lo+((0:Nat):Int)*1) ((((hi-lo).toNat:Nat):Int)-((0:Nat):Int)) 1
  rw[e1,e2];exact aaC _ rfl
 ·have e:b=(s.heap.push {cls:=.type "range",data:=.fields #[.int lo t,.int hi u,.int 1 v]}).objs.size:=by simpa using hb
  subst e;exact I1.rM (aal _) (I1.aR.fresh (aal _))
def O8(ta:TA):TI:=λσ H R=>ta σ H λvs H1=>∃j:Int,vs=[.int j]/\-(2 ^ 62)<=j/\j<2 ^ 62/\R (tQ 0 j.toNat) H1
def O9(ta:TA):TI:=λσ H R=>ta σ H λvs H1=>∃i j:Int,vs=[.int i,.int j]/\(-(2 ^ 62)<=i/\i<2 ^ 62/\-(2 ^ 62)<=j/\j<2 ^ 62)/\R (tQ i (j-i).toNat) H1
theorem dD{a:Expr}{ta:TA}{p pos:Pos}(hg:Gl X "range")(hm:X.mg "range" = none)(ha:PA X [a] ta)(hs:starEach [a] X.env=[(false,eval a X.env)]:=by rfl):PI X tg (.Call (.Name "range" p) [a] [] pos) (O8 ta):=by
 intro pins s σ H R I h;refine Call_ (ir I hg hm boot_range (abA (aH (ha pos pins s σ H _ I h) λus s1 ⟨vs,H1,I1,r1,q1⟩=>?_) hs rfl));obtain⟨j,e,q1,q2,q⟩:=q1;subst e;cases r1 with
 |cons r rr =>cases rr;obtain⟨t,rfl⟩:=r;exact call_range_1 (vC I1 (by omega) (by omega) q1 q2 (by simpa using q))
theorem tR{a b:Expr}{ta:TA}{p pos:Pos}(hg:Gl X "range")(hm:X.mg "range" = none)(ha:PA X [a,b] ta)(hs:starEach [a,b] X.env=[(false,eval a X.env),(false,eval b X.env)]:=by rfl)(hs2:starEach [b] X.env=[(false,eval b X.env)]:=by rfl) :
  PI X tg (.Call (.Name "range" p) [a,b] [] pos) (O9 ta):=by
 intro pins s σ H R I h;refine Call_ (ir I hg hm boot_range (abA (aH (ha pos pins s σ H _ I h) λus s1 ⟨vs,H1,I1,r1,q1⟩=>?_) (by rw[hs,hs2]) (by rw[hs2];rfl)));obtain⟨i,j,e,⟨q1,q2,q3,q4⟩,q⟩:=q1;subst e;cases r1 with
 |cons r rr=>
  cases rr with
  |cons r' rr =>cases rr;obtain⟨t,rfl⟩:=r;obtain⟨t',rfl⟩:=r';exact call_range_2 (vC I1 q1 q2 q3 q4 q)
def T9(wi:TI)(g:TG)(tb:TS):TS:=λD σ H=>wi σ H λJ H1=>∃W:Nat->Nat->St->Hp->Prop,(∃m,W 0 m σ H1)/\∀i m σ H,W i m σ H ->
 (J.stop i H/\D.nx σ H)\/(J.go i H/\∃N:St->Hp->Prop,(∀σ' H',N σ' H'->∃m',m'<m/\W (i+1) m' σ' H')/\∀x H',J.oN i H x H'->g x σ H' λσ2 H2=>tb {D with nx:=N,ct:=N,bk:=D.nx} σ2 H2)
def cV(fp:List Addr)(h:Heap):List (Addr×Obj):=fp.filterMap λb=>(h.get? b).map λo=>(b,o)
theorem cG{fp:List Addr}{h:Heap}{b:Addr}{o:Obj}(hb:b∈fp)(e:h.get? b=some o):(b,o)∈cV fp h:=adh.mpr ⟨b,hb,by rw[e];rfl⟩
theorem tS{fp:List Addr}{h:Heap}{p:Addr×Obj}(hp:p∈cV fp h):p.1∈fp/\h.get? p.1=some p.2:=by
 obtain⟨b,hb,e⟩:=adh.mp hp;cases q:h.get? b with
 |none=>rw[q] at e;cases e
 |some o =>rw[q] at e;have e':(b,o)=p:=aaS e;subst e';exact⟨hb,q⟩
theorem Inv.pinned{pins:List (Addr×Obj)}{σ:St}{H:Hp}{s:Shared}{fp:List Addr}(I:Inv X pins σ H s)(hf:∀b∈fp,d4 X pins H b)(ho:∀b∈fp,∃o,s.heap.get? b=some o/\∀v,o.data≠.cell v):Inv X (pins++cV fp s.heap) σ H s:=
 I.cv λp hp=>(aaD.mp hp).elim (λz=>I.pin p (aan _ z)) λz=>by obtain⟨hb,e⟩:=tS z;obtain⟨f0,f1,f2,_⟩:=hf p.1 hb;obtain⟨o,e',d⟩:=ho p.1 hb;rw[e] at e';cases e';exact⟨e,f0,f1,f2,d⟩
theorem Inv.pA{pins pl:List (Addr×Obj)}{σ:St}{H:Hp}{s:Shared}(I:Inv X (pins++pl) σ H s):Inv X pins σ H s:=I.cv λp hp=>I.pin p (aan _ (aaL _ hp))
theorem cJ{iter:Expr}{body:List Stmt}{wi:TI}{g:TG}{tb:TS}{pos:Pos}(hp:PassesOwn (model X.prog X.w) X.A X.env X.xe)(hc:X.calm=true)(hi:PI X tg iter wi)(hg:PG X tg g)(hb:j9 X body tb)
  (hs:∀x,foldedSetIterable iter X.env x=pure x:=by intro _;rfl):PS X (.For tg iter body [] pos) (T9 wi g tb):=by
 intro pins s σ H D I h;refine wpAny_For (aH (hi pins s σ H _ I h) λv s1 h1=>aH h1 λitv s2 h2=>?_) hs;obtain⟨it,fp,tn,J,H2,e,I2,T,st2,f2,W,⟨m0,w0⟩,turn⟩:=h2;subst e;have stat:∀{H':Hp},(∀b∈fp,H' b=none)->∀b∈fp,d4 X pins H' b:=λhn b hb=>⟨hn b hb,(f2 b hb).2⟩
 refine codeAny_forLoop_any (λn s'=>∃i σ' H',Inv X pins σ' H' s'/\tn i s'.heap/\(∀b∈fp,H' b=none)/\W i n σ' H') ?_ m0 ⟨0,σ,H2,I2,st2,λb hb=>(f2 b hb).1,w0⟩;rintro n s3 ⟨i,σ3,H3,I3,kc,QQ,w3⟩;rcases turn i n σ3 H3 w3 with⟨stop,qn⟩|⟨go,N,hN,step⟩
 ·refine ab6 hp (aH (T.done X rfl rfl rfl hc i pins s3 σ3 H3 X.xe I3 (stat QQ) kc stop) λr s4 ⟨hr,I4⟩=>?_);subst hr;exact wpAny_execs_nil ⟨σ3,H3,I4,qn⟩
 ·refine ab6 hp (aH (T.item X rfl rfl rfl hc i pins s3 σ3 H3 X.xe I3 (stat QQ) kc go) λr s4 ⟨u,hr,h4⟩=>?_);subst hr;refine ab6 hp (aH h4 λ_ s5 ⟨x,H5,I5,r5,y5,st5,ng⟩=>?_);have Wq:=I5.pinned (stat ng) (T.obj _ _ st5);refine ab6 hp (aH (hg _ s5 σ3 H5 x u _ Wq r5 (step x H5 y5)) λ_ s6 ⟨σ6,H6,I6,q6⟩=>?_);refine ab6 hp (aH (hb _ s6 σ6 H6 _ I6 q6) λf s7 q7=>?_);have again:∀{σ7:St} {H7:Hp},Inv X (pins++cV fp s5.heap) σ7 H7 s7->N σ7 H7->∃m,m<n/\∃i σ' H',Inv X pins σ' H' s7/\tn i s7.heap/\(∀b∈fp,H' b=none)/\W i m σ' H':=λ{σ7 H7} I7 n7=>by obtain⟨m',hm,w7⟩:=hN σ7 H7 n7;refine⟨m',hm,i+1,σ7,H7,I7.pA,T.keep _ _ _ st5 λb hb o e=>(I7.pin (b,o) (aan _ (aan _ (cG hb e)))).1,λb hb=>?_,w7⟩;obtain⟨o,e,d⟩:=T.obj _ _ st5 b hb;exact(I7.pin (b,o) (aan _ (aan _ (cG hb e)))).2.1
  cases f with
  |next=>obtain⟨σ7,H7,I7,n7⟩:=q7;exact again I7 n7
  |cont=>obtain⟨σ7,H7,I7,n7⟩:=q7;exact again I7 n7
  |brk=>obtain⟨σ7,H7,I7,q7⟩:=q7;exact⟨σ7,H7,I7.pA,q7⟩
  |ret v=>obtain⟨x7,σ7,H7,I7,r7,q7⟩:=q7;exact⟨x7,σ7,H7,I7.pA,r7,q7⟩
end
theorem fb{K:PySem.W.Frag}{a:Addr}{xs:List V}{g:TG}{tb:TS}{D:Ends}{σ:St}{H:Hp}(Pv:Nat->St->Hp->Prop)(h0:Pv 0 σ H)(hl:∀i σ H,i<=xs.length->Pv i σ H->aj K H a xs)
  (hs:∀i x σ H,xs[i]?=some x->Pv i σ H->g x σ H λσ2 H2=>tb {D with nx:=Pv (i+1),ct:=Pv (i+1),bk:=D.nx} σ2 H2) (hd:∀σ H,Pv xs.length σ H->D.nx σ H) :
  ∃W:Nat->Nat->St->Hp->Prop,(∃m,W 0 m σ H)/\∀i m σ H,W i m σ H ->
   ((oO K a).stop i H/\D.nx σ H)\/((oO K a).go i H/\∃N:St->Hp->Prop,(∀σ' H',N σ' H'->∃m',m'<m/\W (i+1) m' σ' H')/\∀x H',(oO K a).oN i H x H'->g x σ H' λσ2 H2=>tb {D with nx:=N,ct:=N,bk:=D.nx} σ2 H2):=by
 refine⟨λi m σ H=>m=xs.length-i/\i<=xs.length/\Pv i σ H,⟨xs.length,by simp,aaZ _,h0⟩,?_⟩;rintro i m σ H ⟨rfl,hi,p⟩;have q:=hl i σ H hi p;by_cases hlt:i<xs.length
 ·refine .inr ⟨⟨xs,xs[i],q,by simp[hlt]⟩,Pv (i+1),λσ' H' p'=>⟨xs.length-(i+1),by omega,rfl,hlt,p'⟩,λx H' y=>?_⟩;obtain⟨e,y⟩:=y;subst e;exact hs i x σ _ (y xs q) p
 ·have e:i=xs.length:=by omega
  subst e;exact .inl ⟨⟨xs,q,aal _⟩,hd σ H p⟩
theorem dS{lo:Int}{n:Nat}{g:TG}{tb:TS}{D:Ends}{σ:St}{H:Hp}(Pv:Nat->St->Hp->Prop)(h0:Pv 0 σ H)
  (hs:∀i σ H,i<n->Pv i σ H->g (.int (lo+i)) σ H λσ2 H2=>tb {D with nx:=Pv (i+1),ct:=Pv (i+1),bk:=D.nx} σ2 H2) (hd:∀σ H,Pv n σ H->D.nx σ H) :
  ∃W:Nat->Nat->St->Hp->Prop,(∃m,W 0 m σ H)/\∀i m σ H,W i m σ H ->
   ((tQ lo n).stop i H/\D.nx σ H)\/((tQ lo n).go i H/\∃N:St->Hp->Prop,(∀σ' H',N σ' H'->∃m',m'<m/\W (i+1) m' σ' H')/\∀x H',(tQ lo n).oN i H x H'->g x σ H' λσ2 H2=>tb {D with nx:=N,ct:=N,bk:=D.nx} σ2 H2):=by
 refine⟨λi m σ H=>m=n-i/\i<=n/\Pv i σ H,⟨n,by simp,aaZ _,h0⟩,?_⟩;rintro i m σ H ⟨rfl,hi,p⟩;by_cases hlt:i<n
 ·refine .inr ⟨hlt,Pv (i+1),λσ' H' p'=>⟨n-(i+1),by omega,rfl,hlt,p'⟩,λx H' y=>?_⟩;obtain⟨e,y⟩:=y;subst e y;exact hs i σ _ hlt p
 ·have e:i=n:=by omega
  subst e;exact .inl ⟨aal _,hd σ H p⟩
abbrev R2:=V->V->Hp->VK->Prop
def cL(X:Cx)(f:Value->Value->Sem Value)(r:R2):Prop:=
 ∀(pins:List (Addr×Obj)) (s:Shared) (σ:St) (H:Hp) (x y:V) (v u:Value) (Q:VK),Inv X pins σ H s->RelV x v->RelV y u->r x y H Q ->
  wpAny (model X.prog X.w) X.A (f v u) (EP X pins σ Q) X.xe s
def La(X:Cx)(f:Value->Sem Value)(r:V->Hp->VK->Prop):Prop:=
 ∀(pins:List (Addr×Obj)) (s:Shared) (σ:St) (H:Hp) (x:V) (v:Value) (Q:VK),Inv X pins σ H s->RelV x v->r x H Q ->
  wpAny (model X.prog X.w) X.A (f v) (EP X pins σ Q) X.xe s
def dj(X:Cx)(f:Value)(r:List V->Hp->VK->Prop):Prop:=
 ∀(pins:List (Addr×Obj)) (s:Shared) (σ:St) (H:Hp) (xs:List V) (us:List Value) (Q:VK),Inv X pins σ H s->Vals xs us->r xs H Q ->
  wpAny (model X.prog X.w) X.A (call f us) (EP X pins σ Q) X.xe s
def Ua(X:Cx)(r:V->Hp->(Bool->Hp->Prop)->Prop):Prop:=
 ∀(pins:List (Addr×Obj)) (s:Shared) (σ:St) (H:Hp) (x:V) (v:Value) (Q:Bool->Hp->Prop),Inv X pins σ H s->RelV x v->r x H Q ->
  wpAny (model X.prog X.w) X.A (truthy v) (TP X pins σ Q) X.xe s
def ni(r:R2)(ta tb:TE):TE:=λσ H Q=>ta σ H λx H1=>tb σ H1 λy H2=>r x y H2 Q
def Wr(r:V->Hp->VK->Prop)(ta:TE):TE:=λσ H Q=>ta σ H λx H1=>r x H1 Q
def rI(C:Int->Int->Prop)(g:Int->Int->V):R2:=λx y H Q=>∃i j,x=.int i/\y=.int j/\C i j/\Q (g i j) H
def qu(g:Int->Int->V):R2:=λx y H Q=>∃i j,x=.int i/\y=.int j/\Q (g i j) H
def rU(g:Int->V):V->Hp->VK->Prop:=λx H Q=>∃i,x=.int i/\Q (g i) H
section
variable {X:Cx}{a b c:Expr}{ta tb tc:TE}{pos:Pos}
theorem EI(ha:PE X a ta)(hb:PE X b tb){pins:List (Addr×Obj)}{s:Shared}{σ:St}{H:Hp}{R:V->V->Hp->Prop}(I:Inv X pins σ H s)
  (h:ta σ H λx H1=>tb σ H1 λy H2=>R x y H2) {Q:Value->Shared->Prop} {f:Value->Value->Sem Value}
  (hf:∀v u s2 x y H2,Inv X pins σ H2 s2->RelV x v->RelV y u->R x y H2->wpAny (model X.prog X.w) X.A (f v u) Q X.xe s2) :
  wpAny (model X.prog X.w) X.A (eval a X.env) (λv s₁=>wpAny (model X.prog X.w) X.A (eval b X.env) (λu s₂=>wpAny (model X.prog X.w) X.A (f v u) Q X.xe s₂) X.xe s₁) X.xe s:=by
 refine aH (ha pins s σ H _ I h) λv s1 ⟨x,H1,I1,r1,q1⟩=>?_;refine aH (hb pins s1 σ H1 _ I1 q1) λu s2 ⟨y,H2,I2,r2,q2⟩=>?_;exact hf v u s2 x y H2 I2 r1 r2 q2
theorem bV{op:Operator}{r:R2}(ho:cL X (binaryOp op) r)(ha:PE X a ta)(hb:PE X b tb):PE X (.BinOp a op b pos) (ni r ta tb):=by intro pins s σ H Q I h;exact wpAny_BinOp (EI ha hb I h λv u s2 x y H2 I2 rx ry q=>ho pins s2 σ H2 x y v u Q I2 rx ry q)
theorem Pa{op:UnaryOp}{r:V->Hp->VK->Prop}(ho:La X (unaryOp op) r)(ha:PE X a ta):PE X (.UnaryOp op a pos) (Wr r ta):=by intro pins s σ H Q I h;exact UnaryOp_ (aH (ha pins s σ H _ I h) λv s1 ⟨x,H1,I1,r1,q1⟩=>ho pins s1 σ H1 x v Q I1 r1 q1)
theorem G7{f:Value->Value->Sem Value}{C:Int->Int->Prop}{g:Int->Int->Int}
  (rule:∀(i j:Int) (t u:Tok) (s:Shared) (Q:Value->Shared->Prop) (E:Value->Shared->Prop),C i j->Q (.int (g i j) s.toks) {s with toks:=s.toks+1}->wpAny (model X.prog X.w) X.A (f (.int i t) (.int j u)) Q E s) :
  cL X f (rI C λi j=>.int (g i j)):=by
 rintro pins s σ H x y v u Q I rx ry ⟨i,j,rfl,rfl,hc,q⟩;obtain⟨t,rfl⟩:=rx;obtain⟨t',rfl⟩:=ry;exact rule i j t t' s _ _ hc ⟨.int (g i j),H,I.tok _,⟨_,rfl⟩,q⟩
theorem Lb{f:Value->Value->Sem Value}{g:Int->Int->Int}
  (rule:∀(i j:Int) (t u:Tok) (s:Shared) (Q:Value->Shared->Prop) (E:Value->Shared->Prop),Q (.int (g i j) s.toks) {s with toks:=s.toks+1}->wpAny (model X.prog X.w) X.A (f (.int i t) (.int j u)) Q E s) :
  cL X f (qu λi j=>.int (g i j)):=by
 rintro pins s σ H x y v u Q I rx ry ⟨i,j,rfl,rfl,q⟩;obtain⟨t,rfl⟩:=rx;obtain⟨t',rfl⟩:=ry;exact rule i j t t' s _ _ ⟨.int (g i j),H,I.tok _,⟨_,rfl⟩,q⟩
theorem Ao{f:Value->Value->Sem Value}{g:Int->Int->Bool}
  (rule:∀(i j:Int) (t u:Tok) (s:Shared) (Q:Value->Shared->Prop) (E:Value->Shared->Prop),Q (.bool (g i j)) s->wpAny (model X.prog X.w) X.A (f (.int i t) (.int j u)) Q E s) :
  cL X f (qu λi j=>.bl (g i j)):=by
 rintro pins s σ H x y v u Q I rx ry ⟨i,j,rfl,rfl,q⟩;obtain⟨t,rfl⟩:=rx;obtain⟨t',rfl⟩:=ry;exact rule i j t t' s _ _ ⟨.bl (g i j),H,I,rfl,q⟩
def Ub(i j:Int):Prop:=0<j/\j<1073741824
def Uc(i j:Int):Prop:=0<=j/\j<=1000000/\i.natAbs<2 ^ 64
def EJ(i j:Int):Prop:=(-(2 ^ 64)<i/\i<2 ^ 64)\/(-(2 ^ 64)<j/\j<2 ^ 64)
theorem EJ.ok{i j:Int}(h:EJ i j):IntMulOk i j:=by
 rcases h with⟨h1,h2⟩|⟨h1,h2⟩
 ·exact .of_left (intBits_le_64 h1 h2)
 ·exact .of_right (intBits_le_64 h1 h2)
theorem eE:cL X (binaryOp .Add) (qu λi j=>.int (i+j)):=Lb λ_ _ _ _ _ _ _ q=>add_int q
theorem qv:cL X (binaryOp .Sub) (qu λi j=>.int (i-j)):=Lb λ_ _ _ _ _ _ _ q=>sub_int q
theorem vD:cL X (binaryOp .Mult) (rI EJ λi j=>.int (i*j)):=G7 λ_ _ _ _ _ _ _ hc q=>mul_int q hc.ok
theorem yE:cL X (binaryOp .FloorDiv) (rI Ub λi j=>.int (i / j)):=G7 λi j _ _ _ _ _ hc q=>by have h1:(0:Int)<j:=hc.1;have h2:j<1073741824:=hc.2;exact floordiv_int (by omega) (by rw[Int.fdiv_eq_ediv_of_nonneg i (by omega)];exact q) (.inl (PyProof.noPylong_small (by omega)))
theorem qx:cL X (binaryOp .Mod) (rI (λ_ j=>0<j) λi j=>.int (i % j)):=G7 λi j _ _ _ _ _ hc q=>by have h1:(0:Int)<j:=hc;exact mod_int' (by omega) (by rw[Int.fmod_eq_emod_of_nonneg i (by omega)];exact q)
theorem Lc:cL X (binaryOp .Pow) (rI Uc λi j=>.int (i ^ j.toNat)):=G7 λ_ _ _ _ _ _ _ hc q=>pow_int_small hc.1 hc.2.1 hc.2.2 q
theorem Ws{f:Value->Sem Value}{g:Int->Int}
  (rule:∀(i:Int) (t:Tok) (s:Shared) (Q:Value->Shared->Prop) (E:Value->Shared->Prop),Q (.int (g i) s.toks) {s with toks:=s.toks+1}->wpAny (model X.prog X.w) X.A (f (.int i t)) Q E s) :
  La X f (rU λi=>.int (g i)):=by
 rintro pins s σ H x v Q I rx ⟨i,rfl,q⟩;obtain⟨t,rfl⟩:=rx;exact rule i t s _ _ ⟨.int (g i),H,I.tok _,⟨_,rfl⟩,q⟩
theorem Ld:La X (unaryOp .USub) (rU λi=>.int (-i)):=Ws λ_ _ _ _ _ q=>neg_int q
end
def Le:V->V->Bool
 |.bz,.bz=>true|.bz,.int _=>true|.int _,.bz=>true|.bz,.bl _=>true|.bl _,.bz=>true|.bz,.str _=>true|.str _,.bz=>true
 |.int _,.int _=>true|.bl _,.bl _=>true|.str _,.str _=>true|.j8 _,.j8 _=>true
 |.int _,.str _=>true|.str _,.int _=>true|.bl _,.str _=>true|.str _,.bl _=>true
 |_,_=>false
def Wt:R2:=λx y H Q=>Le x y=true/\Q (.bl (decide (x=y))) H
def Wu:R2:=λx y H Q=>Le x y=true/\Q (.bl (!decide (x=y))) H
theorem yF{i j:Int}:decide (V.int i=V.int j)=(i==j):=by rw[abH];simp
theorem BX{i j:Bool}:decide (V.bl i=V.bl j)=(i==j):=by rw[abH];simp
theorem yG{i j:Str}:decide (V.str i=V.str j)=(i==j):=by rw[abH];simp
theorem yH{i j:Array UInt8}:decide (V.j8 i=V.j8 j)=(i.toList==j.toList):=by rw[abH];cases i;cases j;simp
section
variable {X:Cx}{a b c:Expr}{ta tb tc:TE}{pos:Pos}
theorem aY{pins:List (Addr×Obj)}{σ:St}{H:Hp}{s:Shared}{Q:VK}{k k':Bool}(I:Inv X pins σ H s)(q:Q (.bl k) H)(e:k=k'):EP X pins σ Q (.bool k') s:=by subst e;exact⟨.bl k,H,I,rfl,q⟩
theorem iW:cL X (compareOp .Eq) Wt:=by
 rintro pins s σ H x y v u Q I rx ry ⟨hs,q⟩;cases x with
 |bz=>
  cases rx;cases y with
  |bz=>cases ry;exact afy (aY I q (by simp))
  |bl j=>cases ry;exact afz (aY I q (by simp))
  |int j=>obtain⟨t',rfl⟩:=ry;exact afI (aY I q (by simp))
  |str j=>obtain⟨t',rfl⟩:=ry;exact afJ (aY I q (by simp))
  |_=>exact absurd (show false=true from hs) aaK
 |bl i=>
  cases rx;cases y with
  |bz=>cases ry;exact afA (aY I q (by simp))
  |bl j=>cases ry;exact eq_bool (aY I q BX)
  |str j=>obtain⟨t',rfl⟩:=ry;exact afB (aY I q (by simp))
  |_=>exact absurd (show false=true from hs) aaK
 |int i=>
  obtain⟨t,rfl⟩:=rx;cases y with
  |bz=>cases ry;exact afK (aY I q (by simp))
  |int j=>obtain⟨t',rfl⟩:=ry;exact eq_int (aY I q yF)
  |str j=>obtain⟨t',rfl⟩:=ry;exact afL (aY I q (by simp))
  |_=>exact absurd (show false=true from hs) aaK
 |str i=>
  obtain⟨t,rfl⟩:=rx;cases y with
  |bz=>cases ry;exact afM (aY I q (by simp))
  |bl j=>cases ry;exact afC (aY I q (by simp))
  |int j=>obtain⟨t',rfl⟩:=ry;exact afN (aY I q (by simp))
  |str j=>obtain⟨t',rfl⟩:=ry;exact eq_str (aY I q yG)
  |_=>exact absurd (show false=true from hs) aaK
 |j8 i=>
  obtain⟨t,rfl⟩:=rx;cases y with
  |j8 j=>obtain⟨t',rfl⟩:=ry;exact PySem.W.eq_bytes (aY I q yH)
  |_=>exact absurd (show false=true from hs) aaK
 |_=>cases y<;>exact absurd (show false=true from hs) aaK
theorem vb:cL X (compareOp .NotEq) Wu:=by
 rintro pins s σ H x y v u Q I rx ry ⟨hs,q⟩;cases x with
 |bz=>
  cases rx;cases y with
  |bz=>cases ry;exact afD (aY I q (by simp))
  |bl j=>cases ry;exact afE (aY I q (by simp))
  |int j=>obtain⟨t',rfl⟩:=ry;exact afO (aY I q (by simp))
  |str j=>obtain⟨t',rfl⟩:=ry;exact afP (aY I q (by simp))
  |_=>exact absurd (show false=true from hs) aaK
 |bl i=>
  cases rx;cases y with
  |bz=>cases ry;exact afF (aY I q (by simp))
  |bl j=>cases ry;exact ne_bool (aY I q (congrArg not BX))
  |str j=>obtain⟨t',rfl⟩:=ry;exact afG (aY I q (by simp))
  |_=>exact absurd (show false=true from hs) aaK
 |int i=>
  obtain⟨t,rfl⟩:=rx;cases y with
  |bz=>cases ry;exact afQ (aY I q (by simp))
  |int j=>obtain⟨t',rfl⟩:=ry;exact ne_int (aY I q (congrArg not yF))
  |str j=>obtain⟨t',rfl⟩:=ry;exact afR (aY I q (by simp))
  |_=>exact absurd (show false=true from hs) aaK
 |str i=>
  obtain⟨t,rfl⟩:=rx;cases y with
  |bz=>cases ry;exact afS (aY I q (by simp))
  |bl j=>cases ry;exact afH (aY I q (by simp))
  |int j=>obtain⟨t',rfl⟩:=ry;exact afT (aY I q (by simp))
  |str j=>obtain⟨t',rfl⟩:=ry;exact ne_str (aY I q (congrArg not yG))
  |_=>exact absurd (show false=true from hs) aaK
 |j8 i=>
  obtain⟨t,rfl⟩:=rx;cases y with
  |j8 j=>obtain⟨t',rfl⟩:=ry;exact PySem.W.ne_bytes (aY I q (congrArg not yH))
  |_=>exact absurd (show false=true from hs) aaK
 |_=>cases y<;>exact absurd (show false=true from hs) aaK
theorem iw:cL X (compareOp .Lt) (qu λi j=>.bl (decide (i<j))):=Ao λ_ _ _ _ _ _ _ q=>lt_int q
theorem jB:cL X (compareOp .LtE) (qu λi j=>.bl (decide (i<=j))):=Ao λ_ _ _ _ _ _ _ q=>le_int q
theorem oA:cL X (compareOp .Gt) (qu λi j=>.bl (decide (j<i))):=Ao λ_ _ _ _ _ _ _ q=>gt_int q
theorem Pb:cL X (compareOp .GtE) (qu λi j=>.bl (decide (j<=i))):=Ao λ_ _ _ _ _ _ _ q=>ge_int q
theorem aV(b:Expr){op:CmpOp}(h:op≠.In:=by decide)(h2:op≠.NotIn:=by decide):behindInMarks op b=false:=by
 have e1:(op==CmpOp.In)=false:=by cases op<;>first|rfl|exact absurd rfl h
 have e2:(op==CmpOp.NotIn)=false:=by cases op<;>first|rfl|exact absurd rfl h2
 cases b<;>simp[behindInMarks,e1,e2]
theorem bL{op:CmpOp}{r:R2}(ho:cL X (compareOp op) r)(ha:PE X a ta)(hb:PE X b tb)(hm:behindInMarks op b=false):PE X (.Compare a [op] [b] pos) (ni r ta tb):=by intro pins s σ H Q I h;exact wpAny_Compare1 (EI ha hb I h λv u s2 x y H2 I2 rx ry q=>ho pins s2 σ H2 x y v u Q I2 rx ry q) hm
def Ap(t:TE):TT:=λσ H Q=>t σ H λx H'=>∃k,x=.bl k/\Q k H'
theorem aQ{op:CmpOp}{r:R2}(ho:cL X (compareOp op) r)(ha:PE X a ta)(hb:PE X b tb)(hm:behindInMarks op b=false):PT X (.Compare a [op] [b] pos) (Ap (ni r ta tb)):=by
 intro pins s σ H Q I h;refine ad9 (aH (ha pins s σ H _ I h) λv s1 ⟨x,H1,I1,r1,q1⟩=>aH (hb pins s1 σ H1 _ I1 q1) λu s2 ⟨y,H2,I2,r2,q2⟩ =>aH (ho pins s2 σ H2 x y v u _ I2 r1 r2 q2) λc s3 ⟨z,H3,I3,r3,k,e,q3⟩=>?_) hm
 subst e;cases r3;exact wpAny_truthy_bool ⟨H3,I3,q3⟩
def BY(r r':R2)(ta tb tc:TE):TE:=λσ H Q=>ta σ H λx H1=>tb σ H1 λy H2=>r x y H2 λz H3=>∃k,z=.bl k /\
 (if k=true then tc σ H3 λw' H4=>r' y w' H4 Q else Q (.bl false) H3)
theorem md{op nj:CmpOp}{r r':R2}(ho:cL X (compareOp op) r)(ho':cL X (compareOp nj) r')(ha:PE X a ta)(hb:PE X b tb)(hc:PE X c tc)
  (hm:lastMarks [op,nj] [b,c]=false:=by with_unfolding_all rfl):PE X (.Compare a [op,nj] [b,c] pos) (BY r r' ta tb tc):=by
 intro pins s σ H Q I h;refine aft (aH (ha pins s σ H _ I h) λv s1 ⟨x,H1,I1,r1,q1⟩=>chain_link (aH (hb pins s1 σ H1 _ I1 q1) λu s2 ⟨y,H2,I2,r2,q2⟩ =>aH (ho pins s2 σ H2 x y v u _ I2 r1 r2 q2) λd s3 ⟨z,H3,I3,r3,k,e,q3⟩=>?_)) hm
 subst e;cases r3;refine wpAny_truthy_bool ?_;cases k with
 |false=>exact ite_ff ⟨.bl false,H3,I3,rfl,q3⟩
 |true=>exact ite_tt (chain_last (aH (hc pins s3 σ H3 _ I3 q3) λw' s4 ⟨z',H4,I4,r4,q4⟩=>ho' pins s4 σ H4 y z' u w' Q I4 r2 r4 q4))
theorem pC{op nj:CmpOp}{r r':R2}(ho:cL X (compareOp op) r)(ho':cL X (compareOp nj) r')(ha:PE X a ta)(hb:PE X b tb)(hc:PE X c tc)
  (hm:lastMarks [op,nj] [b,c]=false:=by with_unfolding_all rfl):PT X (.Compare a [op,nj] [b,c] pos) (Ap (BY r r' ta tb tc)):=by
 intro pins s σ H Q I h;refine isTrue_chain (aH (ha pins s σ H _ I h) λv s1 ⟨x,H1,I1,r1,q1⟩=>test_link (aH (hb pins s1 σ H1 _ I1 q1) λu s2 ⟨y,H2,I2,r2,q2⟩ =>aH (ho pins s2 σ H2 x y v u _ I2 r1 r2 q2) λd s3 ⟨z,H3,I3,r3,k,e,q3⟩=>?_)) hm
 subst e;cases r3;refine wpAny_truthy_bool ?_;cases k with
 |false =>obtain⟨k',e',q'⟩:=q3;cases e';exact ite_ff ⟨H3,I3,q'⟩
 |true =>refine ite_tt (test_last (aH (hc pins s3 σ H3 _ I3 q3) λw' s4 ⟨z',H4,I4,r4,q4⟩=>aH (ho' pins s4 σ H4 y z' u w' _ I4 r2 r4 q4) λd' s5 ⟨z2,H5,I5,r5,k2,e2,q5⟩=>?_));subst e2;cases r5;exact wpAny_truthy_bool ⟨H5,I5,q5⟩
def Lf(K:PySem.W.Frag)(x:V)(H:Hp)(k:Bool):Prop:=
 match x with
 |.bz=>k=false
 |.bl b=>k=b
 |.int i=>k=(i !=0)
 |.str y=>y.length<=sizeLine/\k=((y.length:Int) !=0)
 |.j8 y=>y.size<=sizeLine/\k=((y.size:Int) !=0)
 |.ref p=>(∃xs,aj K H p xs/\k=!xs.isEmpty)\/(∃xs,aL K H p xs/\k=!xs.isEmpty)\/∃kvs,H p=some (.dK kvs)/\k=!kvs.isEmpty
 |_=>False
theorem Aq{κ:Type}{kvs:List (κ×V)}{vs:List (κ×Value)}(r:KV kvs vs):(!vs.isEmpty)=!kvs.isEmpty:=by cases r<;>rfl
theorem qy{xs:List V}{its:List Value}(r:Vals xs its):(!its.toArray.isEmpty)=!xs.isEmpty:=by cases r<;>simp
theorem i4:(sizeLine:Nat)<2 ^ 63:=by rw[ad0];decide
theorem Lg:Ua X (λx H Q=>∃k,Lf X.K x H k/\Q k H):=by
 rintro pins s σ H x v Q I rx ⟨k,e,q⟩;have hl:=i4;have hs:sizeLine=16777216:=ad0;cases x with
 |bz =>cases rx;have e':k=false:=e;subst e';exact truthy_none ⟨H,I,q⟩
 |bl b =>cases rx;have e':k=b:=e;subst e';exact wpAny_truthy_bool ⟨H,I,q⟩
 |int i =>obtain⟨t,rfl⟩:=rx;have e':k=(i !=0):=e;subst e';exact PySem.P.truthy_int ⟨H,I,q⟩
 |str y =>obtain⟨t,rfl⟩:=rx;obtain⟨hy,e'⟩:y.length<=sizeLine/\k=((y.length:Int) !=0):=e;subst e';exact PySem.P.truthy_str (by omega) ⟨H,I.tok _,q⟩
 |j8 y =>obtain⟨t,rfl⟩:=rx;obtain⟨hy,e'⟩:y.size<=sizeLine/\k=((y.size:Int) !=0):=e;subst e';exact PySem.W.truthy_bytes (by omega) ⟨H,I.tok _,q⟩
 |ref p=>
  cases rx;have e':(∃xs,aj X.K H p xs/\k=!xs.isEmpty)\/(∃xs,aL X.K H p xs/\k=!xs.isEmpty)\/∃kvs,H p=some (.dK kvs)/\k=!kvs.isEmpty:=e;rcases e' with⟨xs,hx,e'⟩|⟨xs,hx,e'⟩|⟨kvs,hx,e'⟩
  ·subst e';obtain⟨its,r,pl,hz⟩:=I.list hx;have hlen:=r.length;exact wpAny_truthy_list pl.isList (by simp only[aas];omega) ⟨H,I.tok _,by rw[qy r];exact q⟩
  ·subst e';obtain⟨its,r,pl,hz⟩:=I.tuple hx;have hlen:=r.length;exact truthy_tuple pl (by simp only[aas];omega) ⟨H,I.tok _,by rw[qy r];exact q⟩
  ·subst e';obtain⟨hz,hS,vs,r,m⟩:kvs.length<=sizeLine/\(p==sysModules)=false/\∃vs,KV kvs vs/\s.heap.DictOf (bT X.prog X.w) p vs:=I.aR p _ hx;have hlen:kvs.length=vs.length:=acz r;exact wpAny_truthy_dict hS m (by omega) ⟨H,I.tok _,by rw[Aq r];exact q⟩
 |_=>exact(show False from e).elim
theorem pE(ha:PE X a ta)(he:∀whole,isTrue a X.env whole=(do let v <-whole;standAt a.pos;holding [v] (truthy v))) :
  PT X a (λσ H Q=>ta σ H λx H'=>∃k,Lf X.K x H' k/\Q k H'):=by
 intro pins s σ H Q I h;exact isTrue_plain (aH (ha pins s σ H _ I h) λv s1 ⟨x,H1,I1,r1,q1⟩=>Lg pins s1 σ H1 x v Q I1 r1 q1) (he _)
theorem Ar:cL X (binaryOp .Add) (λx y H Q=>∃i j,x=.str i/\y=.str j/\i.length+j.length<=sizeLine/\Q (.str (i++j)) H):=by rintro pins s σ H x y v u Q I rx ry ⟨i,j,rfl,rfl,hz,q⟩;obtain⟨t,rfl⟩:=rx;obtain⟨t',rfl⟩:=ry;exact add_str (λt' tk=>⟨.str (i++j),H,I.tok _,⟨_,rfl⟩,q⟩) hz
theorem vals1{x:V}{us:List Value}(r:Vals [x] us):∃u,us=[u]/\RelV x u:=by
 cases r with
 |cons r1 r2=>cases r2;exact⟨_,rfl,r1⟩
theorem vals2{x y:V}{us:List Value}(r:Vals [x,y] us):∃u w',us=[u,w']/\RelV x u/\RelV y w':=by
 cases r with
 |cons r1 r2=>
  cases r2 with
  |cons r3 r4=>cases r4;exact⟨_,_,rfl,r1,r3⟩
theorem vE:dj X (.builtin "abs") (λxs H Q=>∃i,xs=[.int i]/\Q (.int (if i<0 then -i else i)) H):=by rintro pins s σ H xs us Q I r ⟨i,rfl,q⟩;obtain⟨u,rfl,t,rfl⟩:=vals1 r;exact call_abs_int λu tk=>⟨.int (if i<0 then -i else i),H,I.tok _,⟨_,rfl⟩,q⟩
theorem tT(hc:X.calm=true):dj X (.builtin "max") (λxs H Q=>∃i j,xs=[.int i,.int j]/\Q (.int (if j > i then j else i)) H):=by
 rintro pins s σ H xs us Q I r ⟨i,j,rfl,q⟩;obtain⟨u,w',rfl,⟨t,rfl⟩,⟨t',rfl⟩⟩:=vals2 r;refine max_two_ints (I.ok.hd hc) λh' tk k=>⟨_,H,I.kept k,?_,q⟩
 by_cases hj:j > i
 ·rw[if_pos hj,if_pos hj];exact⟨_,rfl⟩
 ·rw[if_neg hj,if_neg hj];exact⟨_,rfl⟩
theorem tU(hc:X.calm=true):dj X (.builtin "min") (λxs H Q=>∃i j,xs=[.int i,.int j]/\Q (.int (if j<i then j else i)) H):=by
 rintro pins s σ H xs us Q I r ⟨i,j,rfl,q⟩;obtain⟨u,w',rfl,⟨t,rfl⟩,⟨t',rfl⟩⟩:=vals2 r;refine min_two_ints (I.ok.hd hc) λh' tk k=>⟨_,H,I.kept k,?_,q⟩
 by_cases hj:j<i
 ·rw[if_pos hj,if_pos hj];exact⟨_,rfl⟩
 ·rw[if_neg hj,if_neg hj];exact⟨_,rfl⟩
theorem BZ:dj X (.type "int") (λxs H Q=>(∃i,xs=[.int i]/\Q (.int i) H)\/∃k,xs=[.bl k]/\Q (.int (if k then 1 else 0)) H):=by
 intro pins s σ H xs us Q I r h;rcases h with⟨i,rfl,q⟩|⟨k,rfl,q⟩
 ·obtain⟨u,rfl,t,rfl⟩:=vals1 r;exact call_int_int ⟨.int i,H,I,⟨_,rfl⟩,q⟩
 ·obtain⟨u,rfl,r1⟩:=vals1 r;cases r1;exact call_int_bool ⟨.int (if k then 1 else 0),H,I.tok _,⟨_,rfl⟩,q⟩
end
structure pG(h:Heap)(x dx C:Addr)(mA:Str->Option Value):Prop where
 obj:h.get? x=some (PySem.W.instObj C dx)
 ns:h.Ns1 dx mA
 ne:dx≠x
theorem B0{h:Heap}{dx:Addr}{mA:Str->Option Value}(n:h.Ns1 dx mA):∃od,h.get? dx=some od/\∀name,PySem.W.lookIn name od=some (mA name):=by
 obtain⟨o,es,ep,ho,hd,hk,_,hm⟩:=n;refine⟨o,ho,λname=>?_⟩;have e:=hm name;unfold nsFind findBy at e;rw[<-Array.find?_toList] at e;unfold PySem.W.lookIn;rw[hd];dsimp only;split
 ·rename_i y q
  rw[q] at e;exact congrArg some e
 ·rename_i q
  rw[q] at e;have a:es.toList.any (·.refKey)=false:=by rw[aca];intro y hy;obtain⟨z,t,Ud⟩:=hk y (Array.mem_toList_iff.mp hy);simp[DictEntry.refKey,Ud]
  have a':¬ es.toList.any (·.refKey)=true:=by rw[a];exact aaK
  rw[if_neg a'];exact congrArg some e
theorem pG.look{h:Heap}{x dx C:Addr}{mA:Str->Option Value}(I:pG h x dx C mA):∃od,PySem.W.InstAt h x (PySem.W.instObj C dx) C (some od)/\∀name,PySem.W.lookIn name od=some (mA name):=
 let ⟨od,ho,hl⟩:=B0 I.ns
 ⟨od,⟨I.obj,rfl,rfl,ho⟩,hl⟩
section
variable {prog:Program}{w:World}{A:Around}{E:Value->Shared->Prop}{s:Shared}{K:PySem.W.Frag}{x dx C f:Addr}{mA:Str->Option Value}{name:Str}{v:Value}
theorem get_map{expr:Bool}{Q:Value->Shared->Prop}(X:K.In s.heap)(I:pG s.heap x dx C mA)(hg:PySem.W.plainGet K C name=true)(hh:PySem.W.hasDictIn K C=true)
  (ha:W.findIn K (.ref C) name=some none) (hv:mA name=some v) (hv':W.handedIn v=true) (h:Q v {s with toks:=s.toks+1}) :
  wpAny (model prog w) A (getAttr (.ref x) name expr) Q E s:=by
 obtain⟨od,J,hl⟩:=I.look;exact PySem.W.get_value X J (ade hg).1 (PySem.W.findObj_own hh ha rfl (by rw[hl,hv])) hv' h
theorem EK{pl:Sem Bool}{Q:Value×List Value->Shared->Prop}(X:K.In s.heap)(I:pG s.heap x dx C mA)(hg:PySem.W.plainGet K C name=true)
  (hf:W.findIn K (.ref C) name=some (some (.ref f))) (ht:W.isFn K (.ref f)=true) (hv:mA name=none) (h:Q (.ref f,[.ref x]) s) :
  wpAny (model prog w) A (getMethod (.ref x) name pl) Q E s:=by
 obtain⟨od,J,hl⟩:=I.look;exact PySem.W.method_fn X J (ade hg).1 (ade hg).2 hf (beq_iff_eq.mp ht) (by show(PySem.W.lookIn name od).map (·.isSome)=some false;rw[hl,hv];rfl) h
theorem Jc{ns:List Str}{Q:Unit->Shared->Prop}(X:K.In s.heap)(I:pG s.heap x dx C mA)
  (hs:W.findIn K (.ref C) "__setattr__" = some (some (.builtin "object.__setattr__"))) (hp:W.plainOver K C=true) (ht:W.takerIn K C name=some none) (hh:W.hasDictIn K C=true)
  (hw:PySem.Within mA ns) (hsz:ns.length<=sizeLine)
  (h:∀h',pG h' x dx C (λy=>if y=name then some v else mA y)->Heap.SameBut dx s.heap h'->Q () {s with heap:=h',toks:=s.toks+2}) :
  wpAny (model prog w) A (setAttr (.ref x) name v) Q E s:=by
 obtain⟨od,J,hl⟩:=I.look;refine PySem.W.set_plain X J hs (PySem.W.osa_open (s:={s with toks:=s.toks+1}) (r:=none) X J hp ht λb=>?_);obtain⟨cd,hc,K0⟩:=PySem.W.any_some hh;have hx:s.heap.get? x=some ⟨.ref C,some dx,.plain,#[]⟩:=I.obj;refine wpAny_bind (wpAny_pure (wpAny_bind (wpAny_bind (wpAny_loadPart hx (wpAny_bind (agd (s:={s with toks:=s.toks+1}) (PySem.W.looks_clsIn X hc) ?_))))));rw[K0];refine wpAny_pure (a:=some dx) (wpAny_bind (wpAny_pure (wpAny_bind ?_)));refine wpAny_nsSet1 (s:={s with toks:=s.toks+1}) I.ns λh' hn2 hs2=>?_;obtain⟨oD,esD,epD,Wv,Ww,Wx⟩:=hn2.count (agh name v hw);refine wpAny_bind (wpAny_lookBehind Wv (by rw[Ww];exact pastItsLine_dict (aap Wx (by rw[aa0];omega))) ?_);exact wpAny_pure (h _ ⟨(hs2.2 _ (aaX I.ne)).trans I.obj,hn2,I.ne⟩ hs2)
theorem EL{R:Result->Shared->Prop}{vs:List Value}{kw:List (Str×Value)}(X:K.In s.heap)(hm:PySem.W.makesIn K C=true)
  (hi:W.findIn K (.ref C) "__init__" = some (some (.ref f))) (hf:W.typeIn K (.ref f)=some (.type "function"))
  (h:codeAny (model prog w) (A.under (.builtin "type.__call__" ⟨.ref C::vs,kw⟩)) (.call (.ref f) ⟨.ref (s.heap.objs.size+1)::vs,kw⟩) (PySem.W.InitBack (s.heap.objs.size+1) R)
   {s with heap:=(s.heap.push PySem.W.emptyDict).push (PySem.W.instObj C s.heap.objs.size)}) :
  codeAny (model prog w) A (.call (.ref C) ⟨vs,kw⟩) R s:=by
 obtain⟨hh,g,d,t,os⟩:=s;exact PySem.W.make_core (PySem.W.makes_of X hm) (PySem.W.looks_findIn X hi) (λself=>PySem.W.bind_fn X self hf) (.inl rfl) h
end
def dH(f:Str)(v:V):List (Str×V)->List (Str×V)
 |[]=>[(f,v)]
 |(g,x)::r=>if g=f then (g,v)::r else (g,x)::dH f v r
theorem oP(f g:Str)(v:V):∀fs:List (Str×V),(dH f v fs).lookup g=if g=f then some v else fs.lookup g
 |[]=>by
  show List.lookup g [(f,v)]=_
  by_cases h:g=f
  ·have hb:(g==f)=true:=beq_iff_eq.mpr h;simp only[List.lookup,hb,if_pos h]
  ·have hb:(g==f)=false:=beq_eq_false_iff_ne.mpr h;simp only[List.lookup,hb,if_neg h]
 |(k,x)::r=>by
  have ih:=oP f g v r;rw[show dH f v ((k,x)::r)=(if k=f then (k,v)::r else (k,x)::dH f v r) from rfl];by_cases hk:k=f
  ·rw[if_pos hk];by_cases h:g=k
   ·have hb:(g==k)=true:=beq_iff_eq.mpr h;simp only[List.lookup,hb,if_pos (h.trans hk)]
   ·have hb:(g==k)=false:=beq_eq_false_iff_ne.mpr h;simp only[List.lookup,hb,if_neg (λe:g=f=>h (e.trans hk.symm))]
  ·rw[if_neg hk];by_cases h:g=k
   ·have hb:(g==k)=true:=beq_iff_eq.mpr h;simp only[List.lookup,hb,if_neg (λe:g=f=>hk (h.symm.trans e))]
   ·have hb:(g==k)=false:=beq_eq_false_iff_ne.mpr h;simp only[List.lookup,hb];exact ih
theorem nk(f:Str)(v:V):∀fs:List (Str×V),f∈(dH f v fs).map (·.1)/\∀g,g∈fs.map (·.1)->g∈(dH f v fs).map (·.1)
 |[]=>⟨by simp[dH],λg h=>by simp at h⟩
 |(k,x)::r=>by
  obtain⟨i1,i2⟩:=nk f v r;rw[show dH f v ((k,x)::r)=(if k=f then (k,v)::r else (k,x)::dH f v r) from rfl];by_cases hk:k=f
  ·rw[if_pos hk];subst hk;exact⟨by simp,λg h=>by simpa using h⟩
  ·rw[if_neg hk];refine⟨?_,λg h=>?_⟩
   ·rw[aaQ];exact aaw _ i1
   ·rw[aaQ] at h⊢;rcases aav.mp h with e|e
    ·exact aav.mpr (.inl e)
    ·exact aaw _ (i2 g e)
theorem oQ(f:Str)(v:V):∀fs:List (Str×V),(dH f v fs).length<=fs.length+1
 |[]=>by simp[dH]
 |(k,x)::r=>by
  have ih:=oQ f v r;rw[show dH f v ((k,x)::r)=(if k=f then (k,v)::r else (k,x)::dH f v r) from rfl];by_cases hk:k=f
  ·rw[if_pos hk,aa0,aa0];omega
  ·rw[if_neg hk,aa0,aa0];omega
theorem gM.some_of{v:V}{o:Option Value}(r:gM (some v) o):∃u,o=some u/\RelV v u:=by
 cases o with
 |none=>exact(show False from r).elim
 |some u=>exact⟨u,rfl,r⟩
theorem gM.none_of{o:Option Value}(r:gM none o):o=none:=by
 cases o with
 |none=>rfl
 |some u=>exact(show False from r).elim
theorem B1{v:V}{u:Value}(r:RelV v u):PySem.W.handedIn u=true:=by
 cases v with
 |bz=>cases (show u=Value.none from r);rfl
 |bl b=>cases (show u=Value.bool b from r);rfl
 |int i=>obtain⟨t,e⟩:=(show ∃t,u=Value.int i t from r);cases e;rfl
 |str x=>obtain⟨t,e⟩:=(show ∃t,u=Value.str x t from r);cases e;rfl
 |j8 b=>obtain⟨t,e⟩:=(show ∃t,u=Value.bytes b t from r);cases e;rfl
 |qm b=>obtain⟨t,e⟩:=(show ∃t,u=Value.float b t from r);cases e;rfl
 |ref a=>cases (show u=Value.ref a from r);rfl
 |ty n=>cases (show u=Value.type n from r);rfl
section
variable {P:Program}{w:World}{H H':Hp}{h h':Heap}{a C dx:Addr}{fs Wj:List (Str×V)}
theorem iP(aR:dP P w H h)(e:H a=some (.ins C dx fs)):∃mA,pG h a dx C mA/\(∀f,gM (fs.lookup f) (mA f))/\PySem.Within mA (fs.map (·.1))/\fs.length<=1000/\H dx=some (.own a):=by
 obtain⟨d,z,ne,ob,mA,n,r,q⟩:=(show bD P w H h a (.ins C dx fs) from aR a _ e)
 exact⟨mA,⟨ob,n,ne⟩,r,q,z,d⟩
end
structure oR(K:PySem.W.Frag)(C:Addr):Prop where
 pg:PySem.W.plainGet K C Str.empty=true
 hd:PySem.W.hasDictIn K C=true
 po:PySem.W.plainOver K C=true
 sa:PySem.W.findIn K (.ref C) "__setattr__" = some (some (.builtin "object.__setattr__"))
theorem oR.get{K:PySem.W.Frag}{C:Addr}(c:oR K C)(f:Str):PySem.W.plainGet K C f=true:=c.pg
def i5(K:PySem.W.Frag)(C:Addr)(f:Str):Prop:=PySem.W.findIn K (.ref C) f=some none
theorem i5.Pc{K:PySem.W.Frag}{C:Addr}{f:Str}(n:i5 K C f):PySem.W.takerIn K C f=some none:=by unfold PySem.W.takerIn;rw[show PySem.W.findIn K (.ref C) f=some none from n];rfl
structure Meth(K:PySem.W.Frag)(C:Addr)(m:Str)(f:Addr):Prop where
 at_:PySem.W.findIn K (.ref C) m=some (some (.ref f))
 fn:PySem.W.isFn K (.ref f)=true
 kp:PySem.W.keepIn K (.ref f)=true
section
variable {X:Cx}{pins:List (Addr×Obj)}{σ:St}{H:Hp}{s:Shared}{a C dx:Addr}{fs:List (Str×V)}{f:Str}{v:V}{A:Around}{E:Value->Shared->Prop}
theorem As{b:Bool}{Q:Value->Shared->Prop}(I:Inv X pins σ H s)(e:H a=some (.ins C dx fs))(c:oR X.K C)(n:i5 X.K C f)(l:fs.lookup f=some v)
  (h:∀u s',Inv X pins σ H s'->RelV v u->Q u s'):wpAny (model X.prog X.w) A (getAttr (.ref a) f b) Q E s:=by
 obtain⟨mA,O,r,_,_,_⟩:=iP I.aR e;obtain⟨u,hu,ru⟩:=gM.some_of (v:=v) (o:=mA f) (by rw[<-l];exact r f);exact get_map I.eQ O (c.get f) c.hd n hu (B1 ru) (h u _ (I.tok _) ru)
theorem Au{m:Str}{g:Addr}{pl:Sem Bool}{Q:Value×List Value->Shared->Prop}(I:Inv X pins σ H s)(e:H a=some (.ins C dx fs))(c:oR X.K C)(k:Meth X.K C m g)(l:fs.lookup m=none)
  (h:Q (.ref g,[.ref a]) s):wpAny (model X.prog X.w) A (getMethod (.ref a) m pl) Q E s:=by
 obtain⟨mA,O,r,_,_,_⟩:=iP I.aR e;have hn:mA m=none:=gM.none_of (by rw[<-l];exact r m);exact EK I.eQ O (c.get m) k.at_ k.fn hn h
theorem Av{y:V}{u:Value}{Q:Unit->Shared->Prop}(I:Inv X pins σ H s)(e:H a=some (.ins C dx fs))(c:oR X.K C)(n:i5 X.K C f)(hl:fs.length<1000)(ry:RelV y u)
  (h:∀s',Inv X pins σ (upd H a (.ins C dx (dH f y fs))) s'->Q () s'):wpAny (model X.prog X.w) A (setAttr (.ref a) f u) Q E s:=by
 obtain⟨mA,O,r,wi,_,ho⟩:=iP I.aR e;have hz:(fs.map (·.1)).length<=sizeLine:=by rw[aak,ad0];omega
 refine Jc I.eQ O c.sa c.po n.Pc c.hd wi hz λh' O' sb=>h _ ?_;have hd:∃o,h'.get? dx=some o:=let ⟨o,_,_,e',_⟩:=O'.ns;⟨o,e'⟩
 refine I.write (x:=a) (e:=dx) (by rw[e];exact True.intro) (.inr ho) (λb q hb z=>(sb.2 b hb).trans z) hd ?_;refine⟨by rw[aq O.ne];exact ho,?_,O.ne,O'.obj,_,O'.ns,λg=>?_,λg hg=>?_⟩
 ·have:=oQ f y fs;omega
 ·show gM ((dH f y fs).lookup g) (if g=f then some u else mA g)
  rw[oP];by_cases q:g=f
  ·rw[if_pos q,if_pos q];exact ry
  ·rw[if_neg q,if_neg q];exact r g
 ·by_cases q:g=f
  ·rw[q];exact(nk f y fs).1
  ·refine(nk f y fs).2 g (wi g λz=>hg ?_);show(if g=f then some u else mA g)=none
   rw[if_neg q];exact z
theorem Inv.made(I:Inv X pins σ H s):Inv X pins σ (upd (upd H s.heap.objs.size (.own (s.heap.objs.size+1))) (s.heap.objs.size+1) (.ins C s.heap.objs.size []))
  {s with heap:=(s.heap.push PySem.W.emptyDict).push (PySem.W.instObj C s.heap.objs.size)}:=by
 have e1:(s.heap.push PySem.W.emptyDict).get? s.heap.objs.size=some PySem.W.emptyDict:=aaC s.heap rfl;have e2:((s.heap.push PySem.W.emptyDict).push (PySem.W.instObj C s.heap.objs.size)).get? (s.heap.objs.size+1)=some (PySem.W.instObj C s.heap.objs.size):=by
  have:=aaC (s.heap.push PySem.W.emptyDict) (o:=PySem.W.instObj C s.heap.objs.size) rfl
  rwa [abk] at this
 have e3:(s.heap.push PySem.W.emptyDict).Ns s.heap.objs.size (λ_=>none):=⟨PySem.W.emptyDict,#[],_,e1,rfl,(λe he=>absurd he (by simp)),λ_=>rfl⟩
 have I1:=I.laid (a:=s.heap.objs.size) (o:=.own (s.heap.objs.size+1)) (h':=s.heap.push PySem.W.emptyDict) (t':=s.toks) (λb u q=>aao _ q) (aal _) ⟨_,e1⟩;refine I1.laid (a:=s.heap.objs.size+1) (o:=.ins C s.heap.objs.size []) (t':=s.toks) (λb u q=>aao _ q) (aey (abk _ _)) ?_;have ne:s.heap.objs.size≠s.heap.objs.size+1:=aaG (abg _);refine⟨by rw[aq ne,af],aaZ _,ne,e2,λ_=>none,(Heap.Ns1.of_empty e3).at λo q=>aao _ q,λ_=>True.intro,λy hy=>absurd rfl hy⟩
theorem Jd{prog:Program}{w:World}{env:Env}{e:Expr}{f:Str}{pos:Pos}{s:Shared}{Q:Value->Shared->Prop}(hb:attributeBase e f env (eval e env)=eval e env)
  (h:wpAny (model prog w) A (eval e env) (λo s₁=>wpAny (model prog w) A (getAttr o f true) Q E s₁) E s):wpAny (model prog w) A (eval (.Attribute e f pos) env) Q E s:=
 Attribute_any_ h (by rw[arm_eval_Attribute,hb])
end
def Ue(K:PySem.W.Frag)(ta:TE)(f:Str):TE:=λσ H Q=>ta σ H λx H1=>∃a C dx fs v,x=.ref a/\H1 a=some (.ins C dx fs)/\oR K C/\i5 K C f/\fs.lookup f=some v/\Q v H1
def Ug(K:PySem.W.Frag)(ta tv:TE)(f:Str):TS:=λD σ H=>tv σ H λy H1=>ta σ H1 λx H2=>∃a C dx fs,x=.ref a/\H2 a=some (.ins C dx fs)/\oR K C/\i5 K C f/\fs.length<1000 /\
 D.nx σ (upd H2 a (.ins C dx (dH f y fs)))
section
variable {X:Cx}{o e value:Expr}{f:Str}{pos pos' EH:Pos}{ta tv:TE}
theorem vF(he:PE X e ta)(hb:attributeBase e f X.env (eval e X.env)=eval e X.env):PE X (.Attribute e f pos) (Ue X.K ta f):=by intro pins s σ H Q I h;refine Jd hb (aH (he pins s σ H _ I h) λu s1 ⟨x,H1,I1,rx,a,C,dx,fs,v,ex,ea,c,n,l,q⟩=>?_);subst ex;obtain rfl:u=Value.ref a:=rx;exact As I1 ea c n l λu' s2 I2 ru=>⟨v,H1,I2,ru,q⟩
theorem B2(ha:PE X o ta)(hv:PE X value tv)(hs:swapsWith value (some (.Attribute o f pos')) pos.line X.env=pure false):PS X (.Assign [.Attribute o f pos'] value pos) (Ug X.K ta tv f):=by intro pins s σ H D I h;refine plainObj_wpAny_Assign_Attribute (aH (hv pins s σ H _ I h) λu s1 ⟨y,H1,I1,ry,q⟩=>aH (ha pins s1 σ H1 _ I1 q) λov s2 ⟨x,H2,I2,rx,a,C,dx,fs,ex,ea,c,n,l,q2⟩=>?_) hs;subst ex;obtain rfl:ov=Value.ref a:=rx;exact Av I2 ea c n l ry λs3 I3=>⟨σ,_,I3,q2⟩
end
section
variable {X:Cx}{pins:List (Addr×Obj)}{σ:St}{H:Hp}{s:Shared}{A:Around}{E:Value->Shared->Prop}{Q:Value->Shared->Prop}{c:Value}{b:Bool}
inductive dz (K:PySem.W.Frag) (H:Hp):V->Value->Prop where
 |bz:dz K H .bz (.type "NoneType")
 |bl (x:Bool):dz K H (.bl x) (.type "bool")
 |int (i:Int):dz K H (.int i) (.type "int")
 |str (x:Str):dz K H (.str x) (.type "str")
 |qm (x:UInt64):dz K H (.qm x) (.type "float")
 |lst {a:Addr} {xs:List V} (e:H a=some (.lst xs)):dz K H (.ref a) (.type "list")
 |i3 {a:Addr} {o:Obj} {xs:List V} (e:H a=some (.i3 o (.lst xs))):dz K H (.ref a) (.type "list")
 |tup {a:Addr} {xs:List V} (e:H a=some (.tup xs)):dz K H (.ref a) (.type "tuple")
 |dK {a:Addr} {kvs:List (Key×V)} (e:H a=some (.dK kvs)):dz K H (.ref a) (.type "dict")
 |dT {a:Addr} {kvs:List (List Key×V)} (e:H a=some (.dT kvs)):dz K H (.ref a) (.type "dict")
 |ins {a C dx:Addr} {fs:List (Str×V)} (e:H a=some (.ins C dx fs)) (cl:oR K C) (ha:PySem.W.findIn K (.ref C) "__class__" = some (some (.builtin "object.__class__")))
   (hn:PySem.W.specialIn K (.builtin "object.__class__") "__get__" = some (some (.builtin "getset_descriptor.__get__"))) (htk:PySem.W.takesIn K (.builtin "object.__class__")=some true)
   (hm:PySem.W.mroIn K C (.type "object")=some true):dz K H (.ref a) (.ref C)
theorem B3{x:V}{u t:Value}(I:Inv X pins σ H s)(rx:RelV x u)(ty:dz X.K H x t)(e:PySem.W.kitOne X.K t c=some b)(h:∀tk,Q (.bool b) {s with toks:=tk}) :
  wpAny (model X.prog X.w) A (call (.builtin "isinstance") [u,c]) Q E s:=by
 cases ty with
 |bz=>cases (show u=Value.none from rx);exact abz PySem.W.kitx_none I.eQ True.intro e (λz=>nomatch z) h
 |bl y=>cases (show u=Value.bool y from rx);exact abz PySem.W.kitx_bool I.eQ True.intro e (λz=>nomatch z) h
 |int i=>obtain⟨t,q⟩:=(show ∃t,u=Value.int i t from rx);cases q;exact abz PySem.W.kitx_int I.eQ True.intro e (λz=>nomatch z) h
 |str y=>obtain⟨t,q⟩:=(show ∃t,u=Value.str y t from rx);cases q;exact abz PySem.W.kitx_str I.eQ True.intro e (λz=>nomatch z) h
 |qm y=>obtain⟨t,q⟩:=(show ∃t,u=Value.float y t from rx);cases q;exact abz PySem.W.kitx_float I.eQ True.intro e (λz=>nomatch z) h
 |@lst a xs ea=>
  cases (show u=Value.ref a from rx);obtain⟨_,_,n,_,h1⟩:=(show bD X.prog X.w H s.heap a (.lst xs) from I.aR a _ ea)
  exact abz aeN I.eQ ⟨_,h1,rfl⟩ e (λz=>nomatch z) h
 |@i3 a ob xs ea=>
  cases (show u=Value.ref a from rx);obtain⟨_,_,_,n,_,h1⟩:=(show bD X.prog X.w H s.heap a (.i3 ob (.lst xs)) from I.aR a _ ea)
  exact abz aeN I.eQ ⟨_,h1,rfl⟩ e (λz=>nomatch z) h
 |@tup a xs ea=>
  cases (show u=Value.ref a from rx);obtain⟨_,_,_,p⟩:=(show bD X.prog X.w H s.heap a (.tup xs) from I.aR a _ ea)
  obtain⟨o,h1,h2,_⟩:=p;exact abz PySem.W.kitx_tuple I.eQ ⟨o,h1,h2⟩ e (λz=>nomatch z) h
 |@dK a kvs ea=>
  cases (show u=Value.ref a from rx);obtain⟨_,_,vs,_,p⟩:=(show bD X.prog X.w H s.heap a (.dK kvs) from I.aR a _ ea)
  obtain⟨o,es,ep,h1,h2,_⟩:=p;exact abz aeO I.eQ ⟨o,h1,h2.1⟩ e (λz=>nomatch z) h
 |@dT a kvs ea=>
  cases (show u=Value.ref a from rx);obtain⟨_,_,xs,_,o,es,ep,h1,h2,_⟩:=(show bD X.prog X.w H s.heap a (.dT kvs) from I.aR a _ ea)
  exact abz aeO I.eQ ⟨o,h1,h2.1⟩ e (λz=>nomatch z) h
 |@ins a C dx fs ea cl ha hn htk hm =>cases (show u=Value.ref a from rx);obtain⟨mA,O,_⟩:=iP I.aR ea;obtain⟨od,J,_⟩:=O.look;exact abz (PySem.W.kitx_own (cl.get _) cl.hd ha hn htk hm) I.eQ J e (λz=>nomatch z) h
end
structure cW(k:Nat)(A:Around):Prop where
 hd:A.handled=none
 dp:A.depth+3*k+5<recursionLimit
 un:A.units+16*k+200<cLine
 gd:A.guards=some []
theorem cW.mono{j k:Nat}{A:Around}(r:cW k A)(h:j<=k):cW j A:=⟨r.hd,by have:=r.dp;omega,by have:=r.un;omega,r.gd⟩
theorem cW.deeper{k:Nat}{A:Around}(r:cW (k+1) A)(env:Env):cW k (A.deeper env):=
 ⟨r.hd,by have:=r.dp;show A.depth+1+3*k+5<_;omega,by have:=r.un;show A.units+3+16*k+200<_;omega,r.gd⟩
theorem yh{A:Around}{C:Addr}{us:List Value}{kw:List (Str×Value)}(h:A.guards=some []):(A.under (.builtin "type.__call__" ⟨.ref C::us,kw⟩)).guards=some []:=by
 have e:(Code.builtin "type.__call__" ⟨.ref C::us,kw⟩).isGuard=false:=by first|rfl|simp[Code.isGuard,guardIds]
 have q:∀c:Code,(A.under c).guards=pushGuards c.guards A.guards:=λ_=>rfl;rw[q,h,Code.guards,e];rfl
theorem Aw{A:Around}{C:Addr}{us:List Value}{kw:List (Str×Value)}:(A.under (.builtin "type.__call__" ⟨.ref C::us,kw⟩)).depth=A.depth+1:=by first|rfl|simp[Around.under,Code.weight,Code.isCreation,Code.isGuard,Code.isCaller,Code.frames,Code.isFrame,guardIds]
theorem Ax{A:Around}{C:Addr}{us:List Value}{kw:List (Str×Value)}:(A.under (.builtin "type.__call__" ⟨.ref C::us,kw⟩)).units=A.units+1:=by first|rfl|simp[Around.under,Code.cUnits,Code.frames,Code.isFrame]
theorem cW.make{k:Nat}{A:Around}(r:cW (k+1) A)(C:Addr)(us:List Value)(kw:List (Str×Value)):cW k (A.under (.builtin "type.__call__" ⟨.ref C::us,kw⟩)):=
 ⟨r.hd,by have:=r.dp;rw[Aw];omega,by have:=r.un;rw[Ax];omega,yh r.gd⟩
theorem cW.depth{k:Nat}{A:Around}(r:cW k A):A.depth<recursionLimit:=by have:=r.dp;omega
theorem cW.units{k:Nat}{A:Around}(r:cW k A):A.units+64<cLine:=by have:=r.un;omega
def d7:TA:=λ_ H Q=>Q [] H
def cw(ta:TE)(tr:TA):TA:=λσ H Q=>ta σ H λx H1=>tr σ H1 λxs H2=>Q (x::xs) H2
section
variable {X:Cx}{e:Expr}{es:List Expr}{te:TE}{t:TA}{pos:Pos}
theorem ae:PA X [] d7:=λ_ _ _ _ H Q I h=>aeP ⟨[],H,I,.nil,h⟩
theorem aa(ha:PE X e te)(hr:PA X es t)(hs:starEach (e::es) X.env=(false,eval e X.env)::starEach es X.env:=by rfl):PA X (e::es) (cw te t):=by
 intro pos pins s σ H Q I h;rw[hs];show wpAny _ _ (spliced ((false,eval e X.env)::backTo pos (starEach es X.env))) _ _ s
 refine aez (aH (ha pins s σ H _ I h) λu s1 ⟨x,H1,I1,r1,q1⟩=>?_);exact aH (hr pos pins s1 σ H1 _ I1 q1) λus s2 ⟨xs,H2,I2,r2,q2⟩=>⟨x::xs,H2,I2,.cons r1 r2,q2⟩
def vG(t:TA):TE:=λσ H Q=>t σ H λxs H1=>xs.length<=sizeLine/\∀p,H1 p=none->Q (.ref p) (upd H1 p (.tup xs))
def Uh(t:TA):TE:=λσ H Q=>t σ H λxs H1=>xs.length<=sizeLine/\∀p,H1 p=none->Q (.ref p) (upd H1 p (.lst xs))
theorem c7{x1}(h:PA X es t):PE X (.Tuple es x1 pos) (vG t):=by intro pins s σ H Q I hq;refine wpAny_Tuple_spliced (aH (h pos pins s σ H _ I hq) λus s1 ⟨xs,H1,I1,r,z,q⟩=>⟨by rw[<-r.length];exact z,?_⟩);have hf:H1 s1.heap.objs.size=none:=I1.aR.fresh (aal _);refine⟨.ref s1.heap.objs.size,upd H1 s1.heap.objs.size (.tup xs),I1.laid (t':=s1.toks) (λb u e=>aao _ e) (aal _) ?_,rfl,q _ hf⟩;exact⟨z,us,r,⟨_,aaC _ rfl,rfl,_,rfl⟩⟩
theorem bR(h:PA X es t):PE X (.List es pos) (Uh t):=by intro pins s σ H Q I hq;refine wpAny_List_spliced (aH (h pos pins s σ H _ I hq) λus s1 ⟨xs,H1,I1,r,z,q⟩=>⟨by rw[<-r.length];exact z,?_⟩);have hf:H1 s1.heap.objs.size=none:=I1.aR.fresh (aal _);refine⟨.ref s1.heap.objs.size,upd H1 s1.heap.objs.size (.lst xs),I1.laid (t':=s1.toks) (λb u e=>aao _ e) (aal _) ?_,rfl,q _ hf⟩;exact⟨z,us,0,r,aaC _ rfl⟩
end
abbrev Sp:=List V->Hp->VK->XK->Prop
abbrev jJ:=List Env->Hp->Shared->XK->Value->Shared->Prop
structure pH(P:Program)(w:World)(K:PySem.W.Frag)(mg:Str->Option Value)(base:Heap)(A:Around)(outer:List Env)(s:Shared)(H:Hp):Prop where
 frames:A.frames=some outer
 mod:Mod K mg base
 bs:∀b o,base.get? b=some o->s.heap.get? b=some o/\H b=none
 qo:base.objs.size<=s.heap.objs.size
 jj:s.heap.FunFrames base outer
 vq:∀b∈m7 outer,H b=none
 aR:dP P w H s.heap
 bare:AllBare s.gens
def CE(outer:List Env)(P:Program)(w:World)(H:Hp)(s:Shared)(Q:VK)(u:Value)(s':Shared):Prop:=
 ∃v H',s'.os=s.os/\AllBare s'.gens/\Un (m7 outer) [] H H' s.heap s'.heap/\dP P w H' s'.heap/\RelV v u/\Q v H'
def CR(CX:jJ)(outer:List Env)(P:Program)(w:World)(H:Hp)(s:Shared)(Q:VK)(E:XK)(r:Result)(s':Shared):Prop:=
 match r with
 |.ok (.ret u)=>CE outer P w H s Q u s'
 |.ok _=>False
 |.error e=>CX outer H s E e s'
structure av(P:Program)(w:World)(K:PySem.W.Frag)(mg:Str->Option Value)(base:Heap)(CX:jJ)(k:Nat)(f:Addr)(fd:FuncData)(ps:List Str)(sp:Sp):Prop where
 len:∀vs H Q E,sp vs H Q E->vs.length=ps.length
 run:∀(A:Around) (outer:List Env) (s:Shared) (H:Hp) (args:Args) (us:List Value) (vs:List V) (Q:VK) (E:XK),cW k A->pH P w K mg base A outer s H->BindsTo s fd args (ps.zip us)->Vals vs us->sp vs H Q E ->
  codeAny (model P w) A (.call (.ref f) args) (CR CX outer P w H s Q E) s
theorem av.imp{P:Program}{w:World}{K:PySem.W.Frag}{mg:Str->Option Value}{base:Heap}{CX:jJ}{k:Nat}{f:Addr}{fd:FuncData}{ps:List Str}{sp QR:Sp}(F:av P w K mg base CX k f fd ps sp)
  (h:∀vs H Q E,QR vs H Q E->sp vs H Q E):av P w K mg base CX k f fd ps QR:=
 ⟨λvs H Q E q=>F.len vs H Q E (h _ _ _ _ q),λA outer s H args us vs Q E hr he hb hv hs=>F.run A outer s H args us vs Q E hr he hb hv (h _ _ _ _ hs)⟩
theorem pH.make{P:Program}{w:World}{K:PySem.W.Frag}{mg:Str->Option Value}{base:Heap}{A:Around}{outer:List Env}{s:Shared}{H:Hp}(e:pH P w K mg base A outer s H)(C:Addr)(us:List Value)(kw:List (Str×Value)) :
  pH P w K mg base (A.under (.builtin "type.__call__" ⟨.ref C::us,kw⟩)) outer s H:=⟨by first|exact e.frames|(simpa [Around.under,Code.envs,Code.isFrame,pushEnvs] using e.frames),e.mod,e.bs,e.qo,e.jj,e.vq,e.aR,e.bare⟩
section
variable {X:Cx}{pins:List (Addr×Obj)}{σ:St}{H:Hp}{s s':Shared}
theorem Inv.EM(I:Inv X pins σ H s):pH X.prog X.w X.K X.mg X.base X.A X.stack s H:=
 ⟨I.ok.frames,I.ok.mod,I.bs,aap I.ok.qo I.sz,I.stack,I.yC,I.aR,I.bare⟩
theorem Inv.after{Q:VK}{u:Value}(I:Inv X pins σ H s)(h:CE X.stack X.prog X.w H s Q u s'):EP X pins σ Q u s':=by obtain⟨v,H',os,bare,un,aR,r,q⟩:=h;obtain⟨hh,g,d,t,Wy⟩:=s';obtain rfl:Wy=s.os:=os;exact⟨v,H',I.call (h':=hh) (g':=g) (d':=d) (t':=t) (ch:=[]) un aR bare (λb z=>absurd z (by simp)),r,q⟩
end
def Ay(sp:Sp)(dvs:List V)(E:XK)(t:TA):TE:=λσ H Q=>t σ H λvs H1=>sp (vs++dvs) H1 Q E
def Pd(C:Addr)(m:Str)(sp:Sp)(dvs:List V)(E:XK)(ta:TE)(t:TA):TE:=λσ H Q=>ta σ H λx H1=>∃a dx fs,x=.ref a/\H1 a=some (.ins C dx fs)/\fs.lookup m=none /\
 t σ H1 λvs H2=>sp (x::(vs++dvs)) H2 Q E
def Pe(C:Addr)(sp:Sp)(dvs:List V)(E:XK)(t:TA):TE:=λσ H Q=>t σ H λvs H1=>∀x dx,H1 x=none->H1 dx=none->dx≠x ->
 sp (.ref x::(vs++dvs)) (upd (upd H1 dx (.own x)) x (.ins C dx [])) (λv H2=>v=.bz/\Q (.ref x) H2) E
def Binds(K:PySem.W.Frag)(fd:FuncData)(ps:List Str)(ds:List Value):Prop:=
 ∀(s:Shared) (us:List Value),K.In s.heap->(us++ds).length=ps.length->BindsTo s fd ⟨us,[]⟩ (ps.zip (us++ds))
theorem Binds.all{K:PySem.W.Frag}{fd:FuncData}{ps:List Str}(h:∀us:List Value,us.length=ps.length->bindArgs fd ⟨us,[]⟩=pure (ps.zip us)):Binds K fd ps []:=λs us _ hl=>by rw[abr] at hl⊢;exact .of_eq (h us hl)
def Passes(CX:jJ)(X:Cx)(E:XK):Prop:=∀(pins:List (Addr×Obj)) (σ:St) (H:Hp) (s:Shared) (e:Value) (s':Shared),Inv X pins σ H s->CX X.stack H s E e s'->X.xe e s'
section
variable {X:Cx}{CX:jJ}{k:Nat}{f C:Addr}{fd:FuncData}{ps:List Str}{sp:Sp}{dvs:List V}{ds:List Value}{E:XK}{x m:Str}{p pos apos:Pos}{e o:Expr}{es:List Expr}{ta:TE}{t:TA}
theorem B4{pins:List (Addr×Obj)}{σ:St}{H:Hp}{s:Shared}{Q:VK}{us:List Value}{vs:List V}(F:av X.prog X.w X.K X.mg X.base CX k f fd ps sp)(hr:cW k X.A)(hb:Binds X.K fd ps ds)(hd:Vals dvs ds)(hx:Passes CX X E)
  (I:Inv X pins σ H s) (r:Vals vs us) (h:sp (vs++dvs) H Q E):wpAny (model X.prog X.w) X.A (call (.ref f) us) (EP X pins σ Q) X.xe s:=by
 have r2:Vals (vs++dvs) (us++ds):=r.append hd;have hl:(us++ds).length=ps.length:=by rw[<-r2.length];exact F.len _ _ _ _ h
 refine aek (codeAny_mono (F.run X.A X.stack s H ⟨us,[]⟩ (us++ds) (vs++dvs) Q E hr I.EM (hb s us I.eQ hl) r2 h) λr s' hq=>?_);cases r with
 |error e=>exact hx pins σ H s e s' I hq
 |ok fl=>
  cases fl with
  |ret u=>exact I.after hq
  |next=>exact False.elim hq
  |brk=>exact False.elim hq
  |cont=>exact False.elim hq
theorem ar(F:av X.prog X.w X.K X.mg X.base CX k f fd ps sp)(hr:cW k X.A)(hg:Gl X x)(hm:X.mg x=some (.ref f))(hk:PySem.W.keepIn X.K (.ref f)=true)(hb:Binds X.K fd ps ds)(hd:Vals dvs ds)(hx:Passes CX X E)
  (ha:PA X (e::es) t) (hdb:(x==("__debug__" : Str))=false:=by decide) (he:starEach (e::es) X.env=(false,eval e X.env)::starEach es X.env:=by rfl) (hpl:(backTo pos (starEach es X.env)).any (·.1)=false:=by rfl) :
  PE X (.Call (.Name x p) (e::es) [] pos) (Ay sp dvs E t):=by
 intro pins s σ H Q I h;refine abB (ou I hg hm ?_ hdb);refine aeA (h₀:=X.base) I.ok.mod.BP hk (aH (ha pos pins s σ H _ I h) λus s1 ⟨vs,H1,I1,r,q⟩=>⟨I1.eQ,?_⟩) he hpl;exact B4 F hr hb hd hx I1 r q
theorem cm{pl:Sem Bool}(he:PE X o ta)(c:oR X.K C)(hm:Meth X.K C m f)(F:av X.prog X.w X.K X.mg X.base CX k f fd ps sp)(hr:cW k X.A)(hb:Binds X.K fd ps ds)(hd:Vals dvs ds)(hx:Passes CX X E)
  (ht:eval (.Call (.Attribute o m apos) [] [] pos) X.env=(do
   let ov <-eval o X.env
   standAt apos.atName
   let (f,first) <-holding [ov] (getMethod ov m pl)
   callWith pos f first (backTo pos (starEach [] X.env)) (backToKw pos (keywordEach [] X.env))):=by rfl) :
  PE X (.Call (.Attribute o m apos) [] [] pos) (Pd C m sp dvs E ta d7):=by
 intro pins s σ H Q I h;refine PySem.W.methodCall_KW (pl:=pl) (aH (he pins s σ H _ I h) λu s1 ⟨x,H1,I1,rx,a,dx,fs,ex,ea,l,q⟩=>?_) ht;subst ex;obtain rfl:u=Value.ref a:=rx;refine Au I1 ea c hm l ?_;exact PySem.W.callWith_K0 (first:=[.ref a]) I1.eQ hm.kp (B4 (us:=[.ref a]) (vs:=[.ref a]) F hr hb hd hx I1 (.cons rfl .nil) q)
structure Mk(K:PySem.W.Frag)(C f:Addr):Prop where
 makes:PySem.W.makesIn K C=true
 init:PySem.W.findIn K (.ref C) "__init__" = some (some (.ref f))
 fn:PySem.W.isFn K (.ref f)=true
 kp:PySem.W.keepIn K (.ref C)=true
theorem EN{pins:List (Addr×Obj)}{σ:St}{H:Hp}{s:Shared}{Q:VK}{us:List Value}{vs:List V}(M:Mk X.K C f)(F:av X.prog X.w X.K X.mg X.base CX k f fd ps sp)(hr:cW (k+1) X.A)(hb:Binds X.K fd ps ds)(hd:Vals dvs ds)
  (hx:Passes CX X E) (I:Inv X pins σ H s) (r:Vals vs us)
  (h:∀x dx,H x=none->H dx=none->dx≠x->sp (.ref x::(vs++dvs)) (upd (upd H dx (.own x)) x (.ins C dx [])) (λv H2=>v=.bz/\Q (.ref x) H2) E) :
  wpAny (model X.prog X.w) X.A (call (.ref C) us) (EP X pins σ Q) X.xe s:=by
 have hq:=h (s.heap.objs.size+1) s.heap.objs.size (I.aR.fresh (abu _)) (I.aR.fresh (aal _)) (aaG (abg _));have I2:=Inv.made (C:=C) I;have r2:Vals (V.ref (s.heap.objs.size+1)::(vs++dvs)) (Value.ref (s.heap.objs.size+1)::(us++ds)):=.cons rfl (r.append hd);have hl:(Value.ref (s.heap.objs.size+1)::us++ds).length=ps.length:=by have e:=r2.length;rw[F.len _ _ _ _ hq] at e;exact e.symm
 refine aek (EL (f:=f) I.eQ M.makes M.init (beq_iff_eq.mp M.fn) (codeAny_mono (F.run _ X.stack _ _ ⟨Value.ref (s.heap.objs.size+1)::us,[]⟩ (Value.ref (s.heap.objs.size+1)::(us++ds)) _ _ E (hr.make C us [])
  (I2.EM.make C us []) (hb _ (Value.ref (s.heap.objs.size+1)::us) I2.eQ hl) r2 hq) λr s' B5=>?_))
 cases r with
 |error e=>exact hx pins σ _ _ e s' I2 B5
 |ok fl=>
  cases fl with
  |ret u =>obtain⟨v,H',I3,rv,ev,q3⟩:=I2.after B5;subst ev;exact⟨rv,⟨V.ref (s.heap.objs.size+1),H',I3,rfl,q3⟩⟩
  |next=>exact False.elim B5
  |brk=>exact False.elim B5
  |cont=>exact False.elim B5
theorem yI(M:Mk X.K C f)(F:av X.prog X.w X.K X.mg X.base CX k f fd ps sp)(hr:cW (k+1) X.A)(hg:Gl X x)(hm:X.mg x=some (.ref C))(hb:Binds X.K fd ps ds)(hd:Vals dvs ds)(hx:Passes CX X E)
  (ha:PA X (e::es) t) (hdb:(x==("__debug__" : Str))=false:=by decide) (he:starEach (e::es) X.env=(false,eval e X.env)::starEach es X.env:=by rfl) (hpl:(backTo pos (starEach es X.env)).any (·.1)=false:=by rfl) :
  PE X (.Call (.Name x p) (e::es) [] pos) (Pe C sp dvs E t):=by
 intro pins s σ H Q I h;refine abB (ou I hg hm ?_ hdb);refine aeA (h₀:=X.base) I.ok.mod.BP M.kp (aH (ha pos pins s σ H _ I h) λus s1 ⟨vs,H1,I1,r,q⟩=>⟨I1.eQ,?_⟩) he hpl;exact EN M F hr hb hd hx I1 r q
end
def PK(X:Cx)(kws:List Keyword)(t:TA):Prop:=
 ∀(pos:Pos) (pins:List (Addr×Obj)) (s:Shared) (σ:St) (H:Hp) (Q:List V->Hp->Prop),Inv X pins σ H s->t σ H Q->wpAny (model X.prog X.w) X.A (evalAll ((backToKw pos (keywordEach kws X.env)).map (·.2))) (AP X pins σ Q) X.xe s
section
variable {X:Cx}{CX:jJ}{k:Nat}{f C:Addr}{fd:FuncData}{ps ks:List Str}{sp:Sp}{E:XK}{x m:Str}{p pos apos Lh:Pos}{e o:Expr}{es:List Expr}{kws:List Keyword}{te ta:TE}{t tk:TA}{nm:Option Str}
theorem fj:PK X [] d7:=λ_ _ _ _ H Q I h=>wpAny_evalAll_nil ⟨[],H,I,.nil,h⟩
theorem br(ha:PE X e te)(hr:PK X kws t):PK X (⟨nm,e,Lh⟩::kws) (cw te t):=by
 intro pos pins s σ H Q I h;show wpAny _ _ (evalAll ((do let v <-eval e X.env;standAt pos;pure v)::(backToKw pos (keywordEach kws X.env)).map (·.2))) _ _ s
 refine wpAny_evalAll_cons (wpAny_bind (aH (ha pins s σ H _ I h) λu s1 ⟨x,H1,I1,r1,q1⟩=>wpAny_bind (wpAny_standAt (wpAny_pure ?_))));exact aH (hr pos pins s1 σ H1 _ I1 q1) λus s2 ⟨xs,H2,I2,r2,q2⟩=>⟨x::xs,H2,I2,.cons r1 r2,q2⟩
structure k9(K:PySem.W.Frag)(fd:FuncData)(ps ks:List Str)(g:List Value->List Value->List Value)(gV:List V->List V->List V):Prop where
 to:∀(s:Shared) (us ws:List Value),K.In s.heap->(g us ws).length=ps.length->BindsTo s fd ⟨us,ks.zip ws⟩ (ps.zip (g us ws))
 rel:∀{vs:List V} {us:List Value} {zs:List V} {ws:List Value},Vals vs us->Vals zs ws->Vals (gV vs zs) (g us ws)
def Li(sp:Sp)(gV:List V->List V->List V)(E:XK)(t tk:TA):TE:=λσ H Q=>t σ H λvs H1=>tk σ H1 λzs H2=>sp (gV vs zs) H2 Q E
variable {g:List Value->List Value->List Value}{gV:List V->List V->List V}
theorem Je{pins:List (Addr×Obj)}{σ:St}{H:Hp}{s:Shared}{Q:VK}{us ws:List Value}{vs zs:List V}(F:av X.prog X.w X.K X.mg X.base CX k f fd ps sp)(hr:cW k X.A)(hb:k9 X.K fd ps ks g gV)(hx:Passes CX X E)
  (I:Inv X pins σ H s) (r:Vals vs us) (rz:Vals zs ws) (h:sp (gV vs zs) H Q E):wpAny (model X.prog X.w) X.A (call (.ref f) us (ks.zip ws)) (EP X pins σ Q) X.xe s:=by
 have r2:=hb.rel r rz;have hl:(g us ws).length=ps.length:=by rw[<-r2.length];exact F.len _ _ _ _ h
 refine aek (codeAny_mono (F.run X.A X.stack s H ⟨us,ks.zip ws⟩ (g us ws) (gV vs zs) Q E hr I.EM (hb.to s us ws I.eQ hl) r2 h) λr s' hq=>?_);cases r with
 |error e=>exact hx pins σ H s e s' I hq
 |ok fl=>
  cases fl with
  |ret u=>exact I.after hq
  |next=>exact False.elim hq
  |brk=>exact False.elim hq
  |cont=>exact False.elim hq
end
structure aG(N P:List Str)(sc:Scope):Prop where
 kind:sc.kind=.function
 co:sc.isCoroutine=false
 gen:sc.isGenerator=false
 nd:N.Nodup
 pre:N.take P.length=P
 par:∀x∈P,sc.names.lookup x=some .local\/sc.names.lookup x=some .cell
 Lj:∀y∈sc.names,y.2≠.free
theorem tV{kindOf:Str->Option NameKind}{x:Str}:∀{binds:List (Str×Value)} {m:Str->Option Value},(∀v,(x,v)∉binds)->bindL kindOf binds m x=m x
 |[],_,_=>rfl
 |(n,v)::r,m,h=>by
  unfold bindL;rw[tV λw hw=>h w (aaw _ hw)];split
  ·have:x≠n:=by rintro rfl;exact h v aau
   simp[this]
  ·rfl
theorem tW{kindOf:Str->Option NameKind}{x:Str}:∀{binds:List (Str×Value)} {m:Str->Option Value},(∀v,(x,v)∉binds)->bindC kindOf binds m x=m x
 |[],_,_=>rfl
 |(n,v)::r,m,h=>by
  unfold bindC;rw[tW λw hw=>h w (aaw _ hw)];split
  ·rfl
  ·have:x≠n:=by rintro rfl;exact h v aau
   simp[this]
theorem tX{kindOf:Str->Option NameKind}{x:Str}{v:Value}:∀{P:List Str} {vs:List Value} {i:Nat} {m:Str->Option Value},P.Nodup->P[i]?=some x->vs[i]?=some v->kindOf x=some .local ->
  bindL kindOf (P.zip vs) m x=some v
 |[],_,_,_,_,h,_,_=>by simp at h
 |_::_,[],_,_,_,_,h,_=>by simp at h
 |p::P,w::vs,0,m,nd,h1,h2,hk=>by
  simp at h1 h2;subst h1;subst h2;show bindL kindOf ((p,w)::P.zip vs) m p=_
  unfold bindL;rw[tV λv hv=>(aa6.mp nd).1 (acG hv).1,if_pos hk];simp
 |p::P,w::vs,i+1,m,nd,h1,h2,hk=>by
  show bindL kindOf ((p,w)::P.zip vs) m x=_
  unfold bindL;exact tX (i:=i) (aa6.mp nd).2 (by simpa using h1) (by simpa using h2) hk
theorem tY{kindOf:Str->Option NameKind}{x:Str}{v:Value}:∀{P:List Str} {vs:List Value} {i:Nat} {m:Str->Option Value},P.Nodup->P[i]?=some x->vs[i]?=some v->kindOf x≠some .local ->
  bindC kindOf (P.zip vs) m x=some v
 |[],_,_,_,_,h,_,_=>by simp at h
 |_::_,[],_,_,_,_,h,_=>by simp at h
 |p::P,w::vs,0,m,nd,h1,h2,hk=>by
  simp at h1 h2;subst h1;subst h2;show bindC kindOf ((p,w)::P.zip vs) m p=_
  unfold bindC;rw[tW λv hv=>(aa6.mp nd).1 (acG hv).1,if_neg hk];simp
 |p::P,w::vs,i+1,m,nd,h1,h2,hk=>by
  show bindC kindOf ((p,w)::P.zip vs) m x=_
  unfold bindC;exact tY (i:=i) (aa6.mp nd).2 (by simpa using h1) (by simpa using h2) hk
def start(N:List Str)(vs:List V):St:=vs.map some++List.replicate (N.length-vs.length) none
def pI(CX:jJ)(P:Program)(w:World)(K:PySem.W.Frag)(mg:Str->Option Value)(base:Heap)(N:List Str)(qual:Str)(scope:Scope)(f:Addr)(cd:Value)(A:Around)(outer:List Env)(s:Shared)(H:Hp)(E:XK):Cx where
 prog:=P
 w:=w
 K:=K
 mg:=mg
 base:=base
 A:=A.deeper (envOfC qual scope s.heap.objs.size f cd)
 N:=N
 s₀:=s
 H₀:=H
 env:=envOfC qual scope s.heap.objs.size f cd
 outer:=outer
 stack:=envOfC qual scope s.heap.objs.size f cd::outer
 ex:=[]
 calm:=true
 fn:=λ_=>true
 pn:=[]
 xe:=λe s'=>wpAny (model P w) (A.deeper (envOfC qual scope s.heap.objs.size f cd)) (leaving (envOfC qual scope s.heap.objs.size f cd) e) (λ_ vH=>CX outer H s E e vH) (λe' vH=>CX outer H s E e' vH) s'
theorem vI{sc:Scope}{n:Nat}{x:Str}(h:sc.names.lookup x=some .cell):∃c,(cellsFrom n sc.names []).lookup x=some c:=by have q:=ad1 sc.names n [] (.inl h);exact Option.isSome_iff_exists.mp q
theorem B6{CX:jJ}{P:Program}{w:World}{K:PySem.W.Frag}{mg:Str->Option Value}{base:Heap}{N ps:List Str}{qual:Str}{scope:Scope}{f:Addr}{cd:Value}{A:Around}{outer:List Env}{s s1:Shared}{H:Hp}{E:XK}{us:List Value}{vs:List V}
  (S:aG N ps scope) (hd:A.handled=none) (e0:pH P w K mg base A outer s H) (hl:vs.length=ps.length) (r:Vals vs us)
  (x:InCallC s s.heap.objs.size (bindL (envOfC qual scope s.heap.objs.size f cd).kindOf (ps.zip us) λ_=>none) (cellsFrom (s.heap.objs.size+1) scope.names []) (bindC (envOfC qual scope s.heap.objs.size f cd).kindOf (ps.zip us) λ_=>none) s1) :
  Inv (pI CX P w K mg base N qual scope f cd A outer s H E) [] (start N vs) H s1:=by
 have hpl:ps.length<=N.length:=by have:=congrArg List.length S.pre;rw[aaR] at this;omega
 obtain⟨h1,tk,rfl,hk⟩:=x.done;have noA:∀b:Addr,b∉(pI CX P w K mg base N qual scope f cd A outer s H E).ex:=λb z=>absurd (show b∈([]:List Addr) from z) (by simp);refine⟨⟨e0.mod,S.kind,rfl,rfl,aal _,λy z c h1 h2=>?_,λy hy=>?_,λy c _ h=>?_,λ_=>hd,Around.frames_deeper e0.frames,.inr ⟨rfl,rfl⟩,λb z=>absurd z (noA b),e0.bs,e0.qo,λb _ _=>noA b,λb z=>absurd z (noA b),e0.jj,e0.vq⟩,
  rfl,e0.bare,Un.kept hk,⟨_,x.toInCall.ns,λi y v h1 h2 h3=>?_⟩,λy c h=>⟨_,x.cell y c h⟩,e0.aR.fresh (aal _),λy c h=>?_,λp hp=>absurd (show p∈([]:List (Addr×Obj)) from hp) (by simp),e0.aR.kept hk,?_⟩
 ·exact name_of_addr x.apart (abb h1) (abb h2)
 ·have hy:scope.names.lookup y=some .cell\/scope.names.lookup y=some .free:=hy;rcases hy with hy|hy
  ·exact vI hy
  ·exact absurd rfl (S.Lj _ (abb hy))
 ·exact abe (x.above y c (abb h))
 ·have hi:i<vs.length:=by
   unfold start at h2;by_cases hi:i<vs.length
   ·exact hi
   ·rw[abn (by simpa using hi)] at h2;rw[abO] at h2;split at h2<;>cases h2
  have ha:vs[i]?=some v:=by
   unfold start at h2;rw[abf (by simpa using hi),aaq] at h2;cases e:vs[i]? with
   |none=>rw[e] at h2;cases h2
   |some a=>rw[e] at h2;cases h2;rfl
  obtain⟨u,hu,rv⟩:=r.get ha;have hp:ps[i]?=some y:=by rw[<-S.pre,List.getElem?_take_of_lt (by omega)];exact h1
  have QS:ps.Nodup:=by rw[<-S.pre];exact S.nd.sublist (List.take_sublist _ _)
  refine⟨u,rv,?_⟩;rcases S.par y (aat hp) with k|k
  ·exact .inl ⟨k,tX QS hp hu k⟩
  ·obtain⟨c,e⟩:=vI (n:=s.heap.objs.size+1) k;refine .inr ⟨.inl k,c,e,?_⟩;have q:=x.cell y c e;rw[tY QS hp hu (by show scope.names.lookup y≠_;rw[k];decide)] at q;exact q
 ·exact e0.aR.fresh (abe (x.above y c (abb h)))
 ·unfold start;show _=N.length
  rw[aaM,aak,abI];omega
theorem Pf{CX:jJ}{P:Program}{w:World}{K:PySem.W.Frag}{mg:Str->Option Value}{base:Heap}{k:Nat}{f:Addr}{name qual:Str}{params:Arguments}{body:List Stmt}{scope:Scope}{dV kV doc pm cdv ct oc:Value}{an od:Option Addr}
  {osl:Array (Option Value)} {N ps:List Str} {sp:Sp} (lk:K.lookup f=some ⟨oc,od,.func (PySem.W.fnOf name qual params body scope dV kV doc pm an cdv ct),osl⟩) (hcd:PySem.W.codeIn K cdv qual=true) (S:aG N ps scope)
  (len:∀vs H Q E,sp vs H Q E->vs.length=ps.length)
  (hbody:∀(A:Around) (outer:List Env) (s:Shared) (H:Hp) (vs:List V) (Q:VK) (E:XK),cW k (A.deeper (envOfC qual scope s.heap.objs.size f cdv))->sp vs H Q E ->
   ∃t,j9 (pI CX P w K mg base N qual scope f cdv A outer s H E) body t/\t {nx:=λ_ H'=>Q .bz H',rt:=Q} (start N vs) H) :
  av P w K mg base CX (k+1) f (PySem.W.fnOf name qual params body scope dV kV doc pm an cdv ct) ps sp:=by
 refine⟨len,λA outer s H args us vs Q E hr e0 hb r hsp=>?_⟩;have hl:=len _ _ _ _ hsp;have KX:K.In s.heap:=e0.mod.BP.keeps λb o e=>(e0.bs b o e).1;have lim:s.heap.NoLimit:=e0.mod.nolimit.keeps λb o e=>(e0.bs b o e).1;have Pg:∀y∈ps.zip us,scope.names.lookup y.1=some .local\/(scope.names.lookup y.1=some .cell/\((cellsFrom (s.heap.objs.size+1) scope.names []).lookup y.1).isSome=true):=λ⟨n,v⟩ hy=>by
  rcases S.par n (acG hy).1 with q|q
  ·exact .inl q
  ·exact .inr ⟨q,ad1 _ _ _ (.inl q)⟩
 refine codeAny_call_function hr.depth (KX _ _ lk) rfl S.co S.gen rfl (PySem.W.codeRec_of KX hcd) (hb _ _ _ _ ?_);refine wpAny_newFunctionEnv_cells S.kind Pg λenv he s1 x=>?_;subst he;refine⟨lim.keeps x.toInCall.keep,codeAny_func ?_⟩;obtain⟨t,ht,hq⟩:=hbody A outer s H vs Q E (hr.deeper _) hsp;have I:Inv (pI CX P w K mg base N qual scope f cdv A outer s H E) [] (start N vs) H s1:=B6 S hr.hd e0 hl r x;refine wpAny_mono (ht [] s1 (start N vs) H _ I hq) (λfl s' hs=>?_) λe s' hs=>hs;have fin:∀{σ':St} {H':Hp} {v:V} {u:Value},Inv (pI CX P w K mg base N qual scope f cdv A outer s H E) [] σ' H' s'->RelV v u->Q v H'->CE outer P w H s Q u s':=
  λ{σ' H' v u} J rv q=>⟨v,H',J.os,J.bare,J.base,J.aR,rv,q⟩
 cases fl with
 |ret u =>obtain⟨v,σ',H',J,rv,q⟩:=hs;exact fin J rv q
 |next =>obtain⟨σ',H',J,q⟩:=hs;exact fin (v:=V.bz) (u:=Value.none) J rfl q
 |brk =>obtain⟨_,_,_,q⟩:=hs;exact False.elim q
 |cont =>obtain⟨_,_,_,q⟩:=hs;exact False.elim q
section
variable {X:Cx}{x:Str}{p pos:Pos}{e:Expr}{es:List Expr}{t:TA}{id T:String}{r:List V->Hp->VK->Prop}
def tZ(r:List V->Hp->VK->Prop)(t:TA):TE:=λσ H Q=>t σ H λvs H1=>r vs H1 Q
theorem ay(hc:dj X (.builtin id) r)(hg:Gl X x)(hm:X.mg x=none)(hv:bootBuiltins x=some (.builtin id))(ha:PA X (e::es) t)(hn:x≠"__name__" := by decide)(hdb:(x==("__debug__" : Str))=false:=by decide)
  (he:starEach (e::es) X.env=(false,eval e X.env)::starEach es X.env:=by rfl) (hpl:(backTo pos (starEach es X.env)).any (·.1)=false:=by rfl):PE X (.Call (.Name x p) (e::es) [] pos) (tZ r t):=by
 intro pins s σ H Q I h;refine abB (ir I hg hm hv ?_ hn hdb);exact ac4 (aH (ha pos pins s σ H _ I h) λus s1 ⟨vs,H1,I1,r1,q1⟩=>hc pins s1 σ H1 vs us Q I1 r1 q1) he hpl
theorem bp(hc:dj X (.type T) r)(hg:Gl X x)(hm:X.mg x=none)(hv:bootBuiltins x=some (.type T))(ha:PA X (e::es) t)(hn:x≠"__name__" := by decide)(hdb:(x==("__debug__" : Str))=false:=by decide)
  (he:starEach (e::es) X.env=(false,eval e X.env)::starEach es X.env:=by rfl) (hpl:(backTo pos (starEach es X.env)).any (·.1)=false:=by rfl):PE X (.Call (.Name x p) (e::es) [] pos) (tZ r t):=by
 intro pins s σ H Q I h;refine abB (ir I hg hm hv ?_ hn hdb);exact abA (aH (ha pos pins s σ H _ I h) λus s1 ⟨vs,H1,I1,r1,q1⟩=>hc pins s1 σ H1 vs us Q I1 r1 q1) he hpl
end
end L2
namespace HT
open PySem PyProof.Rows
section
open PySem.SeqAt
open PySem.AutoSeq1 (wpAny_loadPart')
open PySem.MeetsSeq PySem.MeetsSeq2 PySem.MeetsSeq3
end
section
variable {prog:Program}{w:World}{A:Around}{E:Value->Shared->Prop}{s:Shared}
def i6(n d:Nat):Option Int->Nat
 |none=>d
 |some v=>if v<0 then (v+(n:Int)).toNat else min v.toNat n
theorem EO(n d:Nat):i6 n d none=d:=rfl
end
end HT
namespace L2
open PySem PySem.Spec PyProof.Rows
abbrev TO:=St->Hp->(Option Int->Hp->Prop)->Prop
def PO(X:Cx)(e:Option Expr)(t:TO):Prop:=
 ∀(pins:List (Addr×Obj)) (s:Shared) (σ:St) (H:Hp) (Q:Option Int->Hp->Prop),Inv X pins σ H s->t σ H Q ->
  wpAny (model X.prog X.w) X.A (evalPart e X.env) (λu s'=>∃o H',Inv X pins σ H' s'/\IsPart u o/\Q o H') X.xe s
def Jf:TO:=λ_ H Q=>Q none H
def Ph(t:TE):TO:=λσ H Q=>t σ H λx H1=>∃i,x=.int i/\Q (some i) H1
section
variable {X:Cx}{e:Expr}{te:TE}{lo hi:Option Expr}{tl th:TO}{pos p2:Pos}
theorem yJ:PO X none Jf:=by intro pins s σ H Q I h;rw[afu];exact wpAny_pure ⟨none,H,I,.none,h⟩
theorem yK(h:PE X e te):PO X (some e) (Ph te):=by intro pins s σ H Q I hw;rw[evalPart_some];refine aH (h pins s σ H _ I hw) λu s1 ⟨x,H1,I1,r1,q1⟩=>?_;obtain⟨i,rfl,q⟩:=q1;obtain⟨t,rfl⟩:=r1;exact⟨some i,H1,I1,.int i t,q⟩
def QT(X:Cx)(r:V->Option Int->Option Int->Hp->VK->Prop):Prop:=
 ∀(pins:List (Addr×Obj)) (s:Shared) (σ:St) (H:Hp) (x:V) (v vl vu:Value) (lo hi:Option Int) (sl:Addr) (Q:VK),Inv X pins σ H s->RelV x v->s.heap.IsSliceOf sl vl vu .none->IsPart vl lo->IsPart vu hi->r x lo hi H Q ->
  ∃T id,typeLookup (.type T) "__getitem__" = pure (some (.builtin id))/\s.TypeIs v T/\wpAny (model X.prog X.w) X.A (getItem v (.ref sl)) (EP X pins σ Q) X.xe s
def Wz(r:V->Option Int->Option Int->Hp->VK->Prop)(te:TE)(tl th:TO):TE:=λσ H Q=>te σ H λx H1=>tl σ H1 λl H2=>th σ H2 λu H3=>r x l u H3 Q
theorem vJ{r:V->Option Int->Option Int->Hp->VK->Prop}(hr:QT X r)(he:PE X e te)(hl:PO X lo tl)(hu:PO X hi th):PE X (.Subscript e (.Slice lo hi none p2) pos) (Wz r te tl th):=by
 intro pins s σ H Q I h;refine afe (aH (he pins s σ H _ I h) λv s1 ⟨x,H1,I1,r1,q1⟩=>?_);refine wpAny_Slice (aH (hl pins s1 σ H1 _ I1 q1) λvl s2 ⟨l,H2,I2,pl,q2⟩=>aH (hu pins s2 σ H2 _ I2 q2) λvu s3 ⟨u,H3,I3,pu,q3⟩=>?_);rw[afu];refine wpAny_pure ?_;have I4:Inv X pins σ H3 {s3 with heap:=s3.heap.push {cls:=.type "slice",data:=.fields #[vl,vu,.none]} }:=I3.kept (t':=s3.toks) λb ob q=>aao _ q;obtain⟨T,id,hT,ht,hg⟩:=hr pins {s3 with heap:=s3.heap.push {cls:=.type "slice",data:=.fields #[vl,vu,.none]} } σ H3 x v vl vu l u s3.heap.objs.size Q I4 r1 (age ..) pl pu q3;show wpAny (model X.prog X.w) X.A (subscriptTail e (.Slice lo hi none p2) v (.ref s3.heap.objs.size)) (EP X pins σ Q) X.xe {s3 with heap:=s3.heap.push {cls:=.type "slice",data:=.fields #[vl,vu,.none]} }
 exact tail_any (ops:=[.ref s3.heap.objs.size,v]) ht hT hg (by with_unfolding_all rfl)
def rN(xs:List V)(lo hi:Option Int):List V:=(xs.drop (HT.i6 xs.length 0 lo)).take (HT.i6 xs.length xs.length hi-HT.i6 xs.length 0 lo)
theorem yi(xs:List V)(lo hi:Option Int):(rN xs lo hi).length<=xs.length:=by unfold rN;rw[aaR,List.length_drop];omega
end
def nr(n:Nat)(i:Int):Option Nat:=if 0<=i then (if i<n then some i.toNat else none) else if -(n:Int)<=i then some (i+n).toNat else none
def eF{α:Type}(xs:List α)(i:Int):Option α:=(nr xs.length i).bind λj=>xs[j]?
theorem yL{n:Nat}{i:Int}{j:Nat}(h:nr n i=some j):seqIndex? i n=some j/\j<n/\-(n:Int)<=i/\i<n:=by
 unfold nr at h;by_cases h0:0<=i
 ·rw[if_pos h0] at h;by_cases h1:i<n
  ·rw[if_pos h1] at h;have e:i.toNat=j:=aaS h;exact⟨by rw[ae0 h0 h1,e],by omega,by omega,h1⟩
  ·rw[if_neg h1] at h;cases h
 ·rw[if_neg h0] at h;by_cases h1:-(n:Int)<=i
  ·rw[if_pos h1] at h;have e:(i+n).toNat=j:=aaS h;exact⟨by rw[aeB (by omega) h1,e],by omega,h1,by omega⟩
  ·rw[if_neg h1] at h;cases h
theorem oB{α:Type}{xs:List α}{i:Int}{v:α}(h:eF xs i=some v):∃j,seqIndex? i xs.length=some j/\xs[j]?=some v/\j<xs.length/\-(xs.length:Int)<=i/\i<xs.length:=by
 unfold eF at h;cases e:nr xs.length i with
 |none=>rw[e] at h;cases h
 |some j =>rw[e] at h;obtain⟨h1,h2,h3,h4⟩:=yL e;exact⟨j,h1,h,h2,h3,h4⟩
theorem bc{α:Type}{xs:List α}{j:Nat}{v:α}(h:xs[j]?=some v):eF xs (j:Int)=some v:=by
 have hj:j<xs.length:=(aaH.mp h).1;have e:nr xs.length (j:Int)=some j:=by unfold nr;rw[if_pos (by omega),if_pos (by omega)];simp
 unfold eF;rw[e];exact h
def Jg(b:Expr):Prop:=∀o i,subscripted b false o i=operate [o,i] (getItem o i)
def G8(X:Cx)(r:R2):Prop:=
 ∀(value slice:Expr) (pins:List (Addr×Obj)) (s:Shared) (σ:St) (H:Hp) (x y:V) (v u:Value) (Q:VK),Inv X pins σ H s->RelV x v->RelV y u->r x y H Q ->
  subscripted slice false v u=operate [v,u] (getItem v u)->wpAny (model X.prog X.w) X.A (subscriptTail value slice v u) (EP X pins σ Q) X.xe s
def Lk(X:Cx)(id:String)(r:V->List V->Hp->VK->Prop):Prop:=
 ∀(pins:List (Addr×Obj)) (s:Shared) (σ:St) (H:Hp) (x:V) (xs:List V) (v:Value) (us:List Value) (Q:VK),Inv X pins σ H s->RelV x v->Vals xs us->r x xs H Q ->
  wpAny (model X.prog X.w) X.A (call (.builtin id) (v::us)) (EP X pins σ Q) X.xe s
section
variable {X:Cx}{a b:Expr}{ta tb:TE}{pos:Pos}
theorem bj{r:R2}(hr:G8 X r)(ha:PE X a ta)(hb:PE X b tb)(hs:Jg b):PE X (.Subscript a b pos) (ni r ta tb):=by intro pins s σ H Q I h;exact afe (EI ha hb I h λv u s2 x y H2 I2 rx ry q=>hr a b pins s2 σ H2 x y v u Q I2 rx ry q (hs _ _))
def pJ(K:PySem.W.Frag):R2:=λx y H Q=>∃p xs i v,x=.ref p/\y=.int i/\aj K H p xs/\eF xs i=some v/\Q v H
def Ui(K:PySem.W.Frag):R2:=λx y H Q=>∃p xs i v,x=.ref p/\y=.int i/\aL K H p xs/\eF xs i=some v/\Q v H
def Uj:R2:=λx y H Q=>∃z i c,x=.str z/\y=.int i/\z.length<=sizeLine/\eF z.cps.toList i=some c/\Q (.str ⟨#[c]⟩) H
theorem aX:G8 X (pJ X.K):=by
 intro value slice pins s σ H x y v u Q I rx ry h hs;obtain⟨p,xs,i,z,rfl,rfl,hq,he,q⟩:=h;cases rx;obtain⟨t,rfl⟩:=ry;obtain⟨its,r,pl,hz⟩:=I.list hq;obtain⟨j,h1,h2,h3,h4,h5⟩:=oB he;obtain⟨w,ew,jI⟩:=r.get h2;have hl:=r.length;have hn:=i4;have fin:EP X pins σ Q w s:=⟨z,H,I,jI,q⟩
 by_cases h0:0<=i
 ·have hj:i.toNat=j:=by rw[ae0 h0 h5] at h1;exact aaS h1
  exact item_listR pl.isList h0 (by omega) (by rw[hj];simpa using ew) fin hs
 ·have hj:(i+(its.toArray.size:Int)).toNat=j:=by rw[aeB (by omega) h4] at h1;rw[aas,<-hl];exact aaS h1
  exact ad2 (x:=w) pl.isList.typeIs slot_list_getitem.lookup
   (wpAny_getItem_list_neg (Q:=λr s'=>r=w/\EP X pins σ Q r s') pl.isList (by omega) (by rw[aas]<;>omega) (by omega) (by rw[hj];simpa using ew) ⟨rfl,fin⟩) hs
theorem jK:G8 X (Ui X.K):=by
 intro value slice pins s σ H x y v u Q I rx ry h hs;obtain⟨p,xs,i,z,rfl,rfl,hq,he,q⟩:=h;cases rx;obtain⟨t,rfl⟩:=ry;obtain⟨its,r,pl,hz⟩:=I.tuple hq;obtain⟨j,h1,h2,h3,h4,h5⟩:=oB he;obtain⟨w,ew,jI⟩:=r.get h2;have hl:=r.length;have hn:=i4;have fin:EP X pins σ Q w s:=⟨z,H,I,jI,q⟩
 exact ad2 (x:=w) pl.typeIs slot_tuple_getitem.lookup
  (getItem_tuple (j:=j) (Q:=λr s'=>r=w/\EP X pins σ Q r s') pl (by omega) (by omega) (by rw[aas,<-hl];exact h1) (by simpa using ew) ⟨rfl,fin⟩) hs
theorem B7:G8 X Uj:=by
 intro value slice pins s σ H x y v u Q I rx ry h hs;obtain⟨z,i,c,rfl,rfl,hz,he,q⟩:=h;obtain⟨t,rfl⟩:=rx;obtain⟨t',rfl⟩:=ry;obtain⟨j,h1,h2,h3,h4,h5⟩:=oB he;have hl:z.cps.toList.length=z.length:=by simp[Str.length]
 rw[hl] at h1 h4 h5;have hn:=i4;exact tail_any (typeIs_str s z t) slot_str_getitem.lookup (getItem_str (c:=c) (by have e1:decide (i < -(2 ^ 63:Int))=false:=aaz (by omega);have e2:decide (i ≥ 2 ^ 63)=false:=aaz (by omega);rw[e1,e2,aer]) (by rw[h1];simpa using h2) ⟨.str ⟨#[c]⟩,H,I.tok _,⟨_,rfl⟩,q⟩) hs
theorem Az(its:List Value)(n j:Nat)(u:Value):Obj.mapSeq (·.setIfInBounds j u) {cls:=.type "list",data:=.seq its.toArray n}={cls:=.type "list",data:=.seq (its.set j u).toArray n}:=by simp[Obj.mapSeq]
theorem Inv.lst{pins:List (Addr×Obj)}{σ:St}{H:Hp}{s:Shared}{p:Addr}{xs:List V}(I:Inv X pins σ H s)(h:H p=some (.lst xs)) :
  ∃(its:List Value) (n:Nat),Vals xs its/\s.heap.get? p=some {cls:=.type "list",data:=.seq its.toArray n}/\xs.length<=sizeLine:=by
 obtain⟨z,its,n,r,e⟩:=I.aR p _ h;exact⟨its,n,r,e,z⟩
theorem Inv.Ll{pins:List (Addr×Obj)}{σ:St}{H:Hp}{s:Shared}{p:Addr}{xs ys:List V}{its its':List Value}{n n':Nat}{f:Obj->Obj}(I:Inv X pins σ H s)(h:H p=some (.lst xs))
  (ho:s.heap.get? p=some {cls:=.type "list",data:=.seq its.toArray n}) (hf:f {cls:=.type "list",data:=.seq its.toArray n}={cls:=.type "list",data:=.seq its'.toArray n' }) (r:Vals ys its') (hz:ys.length<=sizeLine) (t:Nat) :
  Inv X pins σ (upd H p (.lst ys)) {s with heap:=s.heap.update p f,toks:=t}:=by
 have e:(s.heap.update p f).get? p=some {cls:=.type "list",data:=.seq its'.toArray n' }:=by rw[aby f ho (by rw[hf]<;>rfl),hf]
 refine I.write (x:=p) (e:=p) (by rw[h];trivial) (.inl rfl) (λb u hb q=>(abq _ _ (aaX hb)).trans q) ⟨_,e⟩ ?_;exact⟨hz,its',n',r,e⟩
def Pj:V->V->V->Hp->(Hp->Prop)->Prop:=λo i v H Q=>∃p xs k j,o=.ref p/\i=.int k/\H p=some (.lst xs)/\nr xs.length k=some j/\Q (upd H p (.lst (xs.set j v)))
theorem set_list:EG X Pj:=by
 rintro pins s σ H o i v ov iv u Q I ro ri rv ⟨p,xs,k,j,rfl,rfl,hp,hj,q⟩;cases ro;obtain⟨t,rfl⟩:=ri;obtain⟨its,n,r,ho,hz⟩:=I.lst hp;obtain⟨h1,h2,h3,h4⟩:=yL hj;have hl:=r.length;have hn:=i4;have I':Inv X pins σ (upd H p (.lst (xs.set j v))) {s with heap:=s.heap.update p (Obj.mapSeq (·.setIfInBounds j u))}:=
  I.Ll hp ho (Az its n j u) (r.set rv j) (by rw[aff];exact hz) s.toks
 by_cases h0:0<=k
 ·have hk:k.toNat=j:=by rw[ae0 h0 h4] at h1;exact aaS h1
  exact PySem.W.ki_setAt ho h0 (by omega) (by rw[aas,<-hl];exact h4) (by rw[hk];exact⟨_,I',q⟩)
 ·have hk:(k+(its.toArray.size:Int)).toNat=j:=by rw[aeB (by omega) h3] at h1;rw[aas,<-hl];exact aaS h1
  exact PySem.W.ki_setBack ho (by omega) (by rw[aas,<-hl];exact h3) (by omega) (by rw[hk];exact⟨_,I',q⟩)
theorem vK(lo hi:Option Int)(n:Nat):(sliceBounds lo hi none n).1=((HT.i6 n 0 lo:Nat):Int)/\(sliceBounds lo hi none n).2.1=((HT.i6 n n hi:Nat):Int)/\(sliceBounds lo hi none n).2.2=1:=by
 refine⟨?_,?_,rfl⟩
 ·cases lo with
  |none=>simp[sliceBounds,HT.i6]
  |some i=>
   simp only[sliceBounds,HT.i6,ae6,show(1:Int) > 0 by decide,aa4];by_cases h:i<0
   ·simp only[h,aa4]<;>omega
   ·simp only[h,aa3]<;>omega
 ·cases hi with
  |none=>simp[sliceBounds,HT.i6]
  |some i=>
   simp only[sliceBounds,HT.i6,ae6,show(1:Int) > 0 by decide,aa4];by_cases h:i<0
   ·simp only[h,aa4]<;>omega
   ·simp only[h,aa3]<;>omega
theorem uY(its:List Value)(lo hi:Option Int):slicePick its.toArray lo hi none=((its.drop (HT.i6 its.length 0 lo)).take (HT.i6 its.length its.length hi-HT.i6 its.length 0 lo)).toArray:=by obtain⟨h1,h2,h3⟩:=vK lo hi its.toArray.size;unfold slicePick;rw[h1,h2,h3];simp only[sliceRange_one,pick_run,aas]<;>rfl
def Uk(K:PySem.W.Frag):V->Option Int->Option Int->Hp->VK->Prop:=λx lo hi H Q=>∃a xs,x=.ref a/\aj K H a xs/\∀p,H p=none->Q (.ref p) (upd H p (.lst (rN xs lo hi)))
theorem yM:QT X (Uk X.K):=by rintro pins s σ H x v vl vu lo hi sl Q I rx hs pl pu ⟨a,xs,rfl,hx,q⟩;cases rx;obtain⟨its,r,ht,hz⟩:=I.list hx;have hlen:=r.length;refine⟨"list",_,slot_list_getitem.lookup,ht.isList.typeIs,?_⟩;refine wpAny_getItem_list_slice ht.isList hs pl pu .none (by simp) ?_ (by rw[aas]<;>omega);rw[uY,<-hlen];refine⟨.ref s.heap.objs.size,_,I.laid (t':=s.toks) (o:=.lst (rN xs lo hi)) (λb ob q=>aao _ q) (aal _) ?_,rfl,q _ (I.aR.fresh (aal _))⟩;exact⟨aap (yi xs lo hi) hz,_,0,(r.drop (HT.i6 xs.length 0 lo)).take (HT.i6 xs.length xs.length hi-HT.i6 xs.length 0 lo),aaC _ rfl⟩
def dk:V->Bool
 |.bz=>true
 |.bl _=>true
 |.int _=>true
 |.str _=>true
 |_=>false
def g8:V->V->Bool
 |.bz,.bz=>true
 |.bl a,.bl b=>a==b
 |.bl a,.int b=>(if a then 1 else 0)==b
 |.int a,.bl b=>a==(if b then 1 else 0)
 |.int a,.int b=>a==b
 |.str a,.str b=>a==b
 |_,_=>false
theorem qz{A:Around}{s:Shared}{y x:V}{u v:Value}(ry:RelV y u)(rx:RelV x v)(fy:dk y=true)(fx:dk x=true):SeqAt.EqAt A s u v (g8 y x):=by
 cases y with
 |bz=>
  cases ry;cases x with
  |bz=>cases rx;exact adO _
  |bl b=>cases rx;exact af2 b
  |int b=>obtain⟨t,rfl⟩:=rx;exact af5 b t
  |str b=>obtain⟨t,rfl⟩:=rx;exact af6 b t
  |_=>exact absurd (show false=true from fx) aaK
 |bl a=>
  cases ry;cases x with
  |bz=>cases rx;exact af3 a
  |bl b=>cases rx;exact af4 a b
  |int b=>obtain⟨t,rfl⟩:=rx;exact af7 a b t
  |str b=>obtain⟨t,rfl⟩:=rx;exact af8 a b t
  |_=>exact absurd (show false=true from fx) aaK
 |int a=>
  obtain⟨t',rfl⟩:=ry;cases x with
  |bz=>cases rx;exact af9 a t'
  |bl b=>cases rx;exact af' a t' b
  |int b=>obtain⟨t,rfl⟩:=rx;exact agf a t' b t
  |str b=>obtain⟨t,rfl⟩:=rx;exact aev a t' b t
  |_=>exact absurd (show false=true from fx) aaK
 |str a=>
  obtain⟨t',rfl⟩:=ry;cases x with
  |bz=>cases rx;exact aga a t'
  |bl b=>cases rx;exact agb a t' b
  |int b=>obtain⟨t,rfl⟩:=rx;exact aew a t' b t
  |str b=>obtain⟨t,rfl⟩:=rx;exact agg a t' b t
  |_=>exact absurd (show false=true from fx) aaK
 |_=>exact absurd (show false=true from fy) aaK
def jL(x:V)(u:Value):Bool:=match u with
 |.none=>g8 .bz x
 |.bool b=>g8 (.bl b) x
 |.int i _=>g8 (.int i) x
 |.str z _=>g8 (.str z) x
 |_=>false
theorem B8{x y:V}{u:Value}(r:RelV y u)(f:dk y=true):jL x u=g8 y x:=by
 cases y with
 |bz=>cases r;rfl
 |bl b=>cases r;rfl
 |int i=>obtain⟨t,rfl⟩:=r;rfl
 |str z=>obtain⟨t,rfl⟩:=r;rfl
 |_=>exact absurd (show false=true from f) aaK
theorem lh{x:V}:∀{xs:List V} {us:List Value},Vals xs us->xs.all dk=true->us.any (jL x)=xs.any λy=>g8 y x
 |_,_,.nil,_=>rfl
 |y::xs,u::us,.cons r t,f=>by rw[acA,abh] at f;rw[ab9,ab9,B8 r f.1,lh t f.2]
theorem jM{A:Around}{s:Shared}{x:V}{v:Value}(rx:RelV x v)(fx:dk x=true):∀{xs:List V} {us:List Value},Vals xs us->xs.all dk=true->∀u∈us,SeqAt.EqAt A s u v (jL x u)
 |_,_,.nil,_=>λu hu=>by cases hu
 |y::xs,u::us,.cons r t,f=>λu' hu=>by
  rw[acA,abh] at f;rcases aav.mp hu with rfl|hu
  ·rw[B8 r f.1];exact qz r rx f.1 fx
  ·exact jM rx fx t f.2 u' hu
def ua(x:V)(xs:List V):Bool:=xs.any λy=>g8 y x
def gb(K:PySem.W.Frag)(neg:Bool):R2:=λx y H Q=>∃p xs,y=.ref p/\(aj K H p xs\/aL K H p xs)/\dk x=true/\xs.all dk=true/\Q (.bl (if neg then !ua x xs else ua x xs)) H
theorem cn:cL X (compareOp .In) (gb X.K false):=by
 rintro pins s σ H x y v u Q I rx ry ⟨p,xs,rfl,hq,fx,fs,q⟩;cases ry;rcases hq with hq|hq
 ·obtain⟨its,r,pl,hz⟩:=I.list hq;refine afg (jL x) pl.isList (λw hw=>jM rx fx r fs w (by simpa using hw)) ⟨.bl _,H,I,rfl,?_⟩;rw[show its.toArray.any (jL x)=its.any (jL x) by simp,lh r fs];exact q
 ·obtain⟨its,r,pl,hz⟩:=I.tuple hq;refine SeqAt.in_tupleAt (jL x) pl (λw hw=>jM rx fx r fs w (by simpa using hw)) ⟨.bl _,H,I,rfl,?_⟩;rw[show its.toArray.any (jL x)=its.any (jL x) by simp,lh r fs];exact q
theorem cD:cL X (compareOp .NotIn) (gb X.K true):=by
 rintro pins s σ H x y v u Q I rx ry ⟨p,xs,rfl,hq,fx,fs,q⟩;cases ry;rcases hq with hq|hq
 ·obtain⟨its,r,pl,hz⟩:=I.list hq;refine SeqAt.notIn_listAt (jL x) pl.isList (λw hw=>jM rx fx r fs w (by simpa using hw)) ⟨.bl _,H,I,rfl,?_⟩;rw[show its.toArray.any (jL x)=its.any (jL x) by simp,lh r fs];exact q
 ·obtain⟨its,r,pl,hz⟩:=I.tuple hq;refine SeqAt.notIn_tupleAt (jL x) pl (λw hw=>jM rx fx r fs w (by simpa using hw)) ⟨.bl _,H,I,rfl,?_⟩;rw[show its.toArray.any (jL x)=its.any (jL x) by simp,lh r fs];exact q
theorem aA:dj X (.builtin "len") (λxs H Q=>∃p ys,xs=[.ref p]/\(aj X.K H p ys\/aL X.K H p ys)/\Q (.int ys.length) H):=by
 rintro pins s σ H xs us Q I r ⟨p,ys,rfl,hq,q⟩;obtain⟨u,rfl,rx⟩:=vals1 r;cases rx;have hn:=i4;rcases hq with hq|hq
 ·obtain⟨its,r',pl,hz⟩:=I.list hq;have hlen:=r'.length;exact Calls.call_len_list pl.isList (by simp only[aas]<;>omega) ⟨.int ys.length,H,I.tok _,⟨s.toks+1,by rw[aas,hlen]⟩,q⟩
 ·obtain⟨its,r',pl,hz⟩:=I.tuple hq;have hlen:=r'.length;exact len_tuple pl (by simp only[aas]<;>omega) ⟨.int ys.length,H,I.tok _,⟨s.toks+1,by rw[aas,hlen]⟩,q⟩
theorem vL:dj X (.builtin "len") (λxs H Q=>∃z,xs=[.str z]/\z.length<=sizeLine/\Q (.int z.length) H):=by rintro pins s σ H xs us Q I r ⟨z,rfl,hz,q⟩;obtain⟨u,rfl,t,rfl⟩:=vals1 r;have hn:=i4;exact len_str (by omega) ⟨.int z.length,H,I.tok _,⟨_,rfl⟩,q⟩
theorem cE:dj X (.type "list") (λxs H Q=>∃p ys,xs=[.ref p]/\(aj X.K H p ys\/aL X.K H p ys)/\∀l,H l=none->Q (.ref l) (upd H l (.lst ys))):=by
 rintro pins s σ H xs us Q I r ⟨p,ys,rfl,hq,q⟩;obtain⟨u,rfl,rx⟩:=vals1 r;cases rx;have fin:∀(its:List Value),Vals ys its->ys.length<=sizeLine->∀(h':Heap) (c':Nat),(∀b o',s.heap.get? b=some o'->h'.get? b=some o') ->
   h'.get? s.heap.objs.size=some {cls:=.type "list",dict:=none,data:=.seq its.toArray c',slots:=#[]}->EP X pins σ Q (.ref s.heap.objs.size) {s with heap:=h' }:=λits r' hz h' c' kp e=>
  ⟨.ref s.heap.objs.size,_,I.laid (t':=s.toks) kp (aal _) (show bD X.prog X.w _ h' _ (.lst ys) from⟨hz,its,c',r',e⟩),rfl,q _ (I.aR.fresh (aal _))⟩
 rcases hq with hq|hq
 ·obtain⟨its,r',pl,hz⟩:=I.list hq;have hlen:=r'.length;obtain⟨o,ho,hc,n,hd⟩:=pl.isList;exact afv p (.inl rfl) ho hc hd (λh' c' kp e=>fin its r' hz h' c' kp e) (by simp only[aas]<;>omega)
 ·obtain⟨its,r',pl,hz⟩:=I.tuple hq;have hlen:=r'.length;obtain⟨o,ho,hc,n,hd⟩:=pl;exact afv p (.inr rfl) ho hc hd (λh' c' kp e=>fin its r' hz h' c' kp e) (by simp only[aas]<;>omega)
theorem cH:dj X (.type "tuple") (λxs H Q=>∃p ys,xs=[.ref p]/\((aj X.K H p ys/\∀l,H l=none->Q (.ref l) (upd H l (.tup ys)))\/(aL X.K H p ys/\Q (.ref p) H))):=by
 rintro pins s σ H xs us Q I r ⟨p,ys,rfl,h⟩;obtain⟨u,rfl,rx⟩:=vals1 r;cases rx;rcases h with⟨hq,q⟩|⟨hq,q⟩
 ·obtain⟨its,r',pl,hz⟩:=I.list hq;have hlen:=r'.length;refine call_tuple_list pl.isList (λh' kp=>?_) (by simp only[aas]<;>omega);have I1:Inv X pins σ H {s with heap:=h' }:=I.kept (t':=s.toks) kp;have I2:Inv X pins σ (upd H h'.objs.size (.tup ys)) {s with heap:=h'.push {cls:=.type "tuple",data:=.seq its.toArray} }:=
   I1.laid (t':=s.toks) (λb o e=>aao _ e) (aal _) (show bD X.prog X.w _ _ _ (.tup ys) from⟨hz,its,r',agc _ _⟩)
  exact⟨.ref h'.objs.size,_,I2,rfl,q _ (I1.aR.fresh (aal _))⟩
 ·obtain⟨its,r',pl,hz⟩:=I.tuple hq;exact call_tuple_same pl ⟨.ref p,H,I,rfl,q⟩
def Lm(K:PySem.W.Frag)(T:String)(x:V)(H:Hp):Prop:=match x with
 |.str _=>T="str"
 |.int _=>T="int"
 |.ref p=>(T="list" /\ ∃xs,aj K H p xs)\/(T="tuple" /\ ∃o,K.lookup p=some o/\o.cls=.type "tuple" /\ o.dict=none) \/
   (T="dict" /\ ((∃kvs,H p=some (.dK kvs))\/∃kvs,H p=some (.dT kvs)))\/(T="set" /\ ∃S n,H p=some (.set S n))
 |_=>False
theorem B9{pins:List (Addr×Obj)}{σ:St}{H:Hp}{s:Shared}{T:String}{x:V}{v:Value}(I:Inv X pins σ H s)(r:RelV x v)(ty:Lm X.K T x H) :
  s.TypeIs v T/\∀a,v=.ref a->∃ob,s.heap.get? a=some ob/\ob.dict=none:=by
 cases x with
 |str z =>obtain⟨t,rfl⟩:=r;cases (show T="str" from ty);exact⟨typeIs_str s z t,λ_ e=>nomatch e⟩
 |int i =>obtain⟨t,rfl⟩:=r;cases (show T="int" from ty);exact⟨typeIs_int s i t,λ_ e=>nomatch e⟩
 |ref p=>
  cases r;rcases ty with⟨rfl,xs,hq⟩|⟨rfl,o,hk,hc,hd⟩|⟨rfl,hk⟩|⟨rfl,S,n,hk⟩
  ·obtain⟨its,_,pl,_⟩:=I.list hq;refine⟨pl.isList.typeIs,λa e=>?_⟩;cases e;obtain⟨o,n,e,c,hd,_⟩:=pl;exact⟨o,e,hd⟩
  ·refine⟨⟨o,I.eQ p o hk,hc⟩,λa e=>?_⟩;cases e;exact⟨o,I.eQ _ o hk,hd⟩
  ·have z:∃o,s.heap.get? p=some o/\o.ExactDict:=by
    rcases hk with⟨kvs,hk⟩|⟨kvs,hk⟩
    ·obtain⟨_,_,_,_,o,_,_,e,ex,_⟩:=I.aR p _ hk;exact⟨o,e,ex⟩
    ·obtain⟨_,_,_,_,o,_,_,e,ex,_⟩:=I.aR p _ hk;exact⟨o,e,ex⟩
   obtain⟨o,e,ex⟩:=z;refine⟨⟨o,e,ex.1⟩,λa e2=>?_⟩;cases e2;exact⟨o,e,ex.2.1⟩
  ·obtain⟨o,_,_,_,e,ex,_⟩:=I.aR p _ hk;refine⟨⟨o,e,ex.1⟩,λa e2=>?_⟩;cases e2;exact⟨o,e,ex.2.1⟩
 |_=>exact False.elim ty
def Ul(K:PySem.W.Frag)(T:String)(r:V->List V->Hp->VK->Prop)(to:TE):TE:=λσ H Q=>to σ H λx H1=>Lm K T x H1/\r x [] H1 Q
def yN(K:PySem.W.Frag)(T:String)(r:V->List V->Hp->VK->Prop)(to:TE)(t:TA):TE:=λσ H Q=>to σ H λx H1=>Lm K T x H1/\t σ H1 λxs H2=>r x xs H2 Q
variable {o e:Expr}{es:List Expr}{to:TE}{t:TA}{name:Str}{apos kF:Pos}{T id:String}{r:V->List V->Hp->VK->Prop}
theorem Ln(pa:PlainAttrs T)(slot:Slot T name id)(hty:typeOf (.builtin id)=pure (.type "method_descriptor"))(hm:Lk X id r)(ho:PE X o to)
  (hbase:attributeBase o name X.env (eval o X.env)=eval o X.env:=by rfl) (hline:(apos.endLine==kF.line)=true:=by rfl):PE X (.Call (.Attribute o name apos) [] [] kF) (Ul X.K T r to):=by
 intro pins s σ H Q I h;refine wpAny_Call_method0_late hbase hline (aH (ho pins s σ H _ I h) λv s1 ⟨x,H1,I1,r1,ty,q1⟩=>?_);obtain⟨h1,h2⟩:=B9 I1 r1 ty;exact⟨T,id,pa,slot,hty,h1,h2,ad3 rfl (PySem.evalArgs_none (hm pins s1 σ H1 x [] v [] Q I1 r1 .nil q1))⟩
theorem cT(pa:PlainAttrs T)(slot:Slot T name id)(hty:typeOf (.builtin id)=pure (.type "method_descriptor"))(hm:Lk X id r)(ho:PE X o to)(ha:PA X (e::es) t)
  (hbase:attributeBase o name X.env (eval o X.env)=eval o X.env:=by rfl)
  (hfew:((backTo kF (starEach (e::es) X.env)).all (λx=>!x.1)&&(backToKw kF (keywordEach [] X.env)).all (λx=>x.1.isSome)
  &&decide ((e::es).length+([]:List Keyword).length+(if ([]:List Keyword).isEmpty then 0 else 1)<30))=true:=by rfl)
  (hline:(apos.endLine==kF.line)=true:=by rfl) (hs:starEach (e::es) X.env=(false,eval e X.env)::starEach es X.env:=by rfl) (hplain:(backTo kF (starEach es X.env)).any (·.1)=false:=by rfl) :
  PE X (.Call (.Attribute o name apos) (e::es) [] kF) (yN X.K T r to t):=by
 intro pins s σ H Q I h;refine wpAny_Call_method_late hbase hfew hline rfl (aH (ho pins s σ H _ I h) λv s1 ⟨x,H1,I1,r1,ty,q1⟩=>?_);obtain⟨h1,h2⟩:=B9 I1 r1 ty;refine⟨T,id,pa,slot,hty,h1,h2,?_⟩;have hA:=ha kF pins s1 σ H1 _ I1 q1;rw[hs] at hA⊢;refine ad3 (by show(false||(backTo kF (starEach es X.env)).any (·.1))=false;rw[hplain]<;>rfl) (Calls.evalArgs_plain ?_);exact aH hA λus s2 ⟨vs,H2,I2,r2,q2⟩=>hm pins s2 σ H2 x vs v us Q I2 r1 r2 q2
end
def G9(X:Cx)(id:String)(r:V->List V->Hp->VK->Prop):Prop:=
 ∀(pins:List (Addr×Obj)) (s:Shared) (σ:St) (H:Hp) (x:V) (xs:List V) (v:Value) (us:List Value) (Q:VK),Inv X pins σ H s->RelV x v->Vals xs us->r x xs H Q ->
  wpAny (model X.prog X.w) X.A (call (.builtin id) (v::us)) (EP X pins σ Q) X.xe s
theorem Vals.one:∀{x:V} {us:List Value},Vals [x] us->∃u,us=[u]/\RelV x u
 |_,_,.cons r .nil=>⟨_,rfl,r⟩
theorem Vals.zero:∀{us:List Value},Vals [] us->us=[]
 |_,.nil=>rfl
theorem Vals.dropLast{xs:List V}{us:List Value}(h:Vals xs us):Vals xs.dropLast us.dropLast:=by
 induction h with
 |nil=>exact .nil
 |cons r t ih=>
  cases t with
  |nil=>exact .nil
  |cons q t'=>exact .cons r ih
theorem Vals.eraseIdx:∀{xs:List V} {us:List Value} (i:Nat),Vals xs us->Vals (xs.eraseIdx i) (us.eraseIdx i)
 |_,_,_,.nil=>.nil
 |_,_,0,.cons _ t=>t
 |_,_,i+1,.cons r t=>.cons r (Vals.eraseIdx i t)
theorem Vals.rep{xs:List V}{us:List Value}(h:Vals xs us):∀k:Nat,Vals (List.replicate k xs).flatten (List.replicate k us).flatten
 |0=>.nil
 |k+1=>by rw[acm,acm,acO,acO];exact Vals.append h (Vals.rep h k)
theorem AA{α:Type}(l:List α):l.eraseIdx (l.length-1)=l.dropLast:=by
 induction l with
 |nil=>rfl
 |cons a r ih=>
  cases r with
  |nil=>rfl
  |cons b r=>
   have e:(a::b::r).length-1=((b::r).length-1)+1:=by have h1:(a::b::r).length=r.length+2:=rfl;have h2:(b::r).length=r.length+1:=rfl;omega
   rw[e,adJ,ih];all_goals rfl
theorem ub{α:Type}:∀(l:List α) (i:Nat),(l.eraseIdx i).length<=l.length
 |[],_=>aal _
 |_::_,0=>abu _
 |_::r,i+1=>adB (ub r i)
theorem foldl_rep(its:List Value):∀(k:Nat) (acc:List Value),
  List.foldl (λx1 x2=>x1++x2) acc.toArray (List.replicate k its.toArray)=(acc++(List.replicate k its).flatten).toArray
 |0,acc=>by simp
 |k+1,acc=>by
  have e:acc.toArray++its.toArray=(acc++its).toArray:=by simp
  have e2:(acc++its)++(List.replicate k its).flatten=acc++(List.replicate (k+1) its).flatten:=by rw[acm,acO,acr]
  rw[<-e2,<-foldl_rep its k (acc++its),<-e,acm,abV]
section
variable {X:Cx}{pins:List (Addr×Obj)}{σ:St}{H:Hp}{s:Shared}{l b:Addr}{xs ys zs:List V}
theorem Inv.AB{its its':List Value}{n:Nat}{f:Array Value->Array Value}{t':Nat}(I:Inv X pins σ H s)(hH:H l=some (.lst xs))
  (e:s.heap.get? l=some {cls:=.type "list",data:=.seq its.toArray n}) (hf:f its.toArray=its'.toArray) (hv:Vals ys its') (hz:ys.length<=sizeLine) :
  Inv X pins σ (upd H l (.lst ys)) {s with heap:=s.heap.update l (Obj.mapSeq f),toks:=t' }:=by
 have q:=agj e f;rw[hf] at q;refine I.write (x:=l) (e:=l) (by rw[hH];exact trivial) (.inl rfl) (λb' u hb hu=>(abq s.heap (Obj.mapSeq f) (aaX hb)).trans hu) ⟨_,q⟩ ?_;exact⟨hz,its',_,hv,q⟩
theorem Inv.Lo{its:List Value}{t':Nat}(I:Inv X pins σ H s)(hv:Vals ys its)(hz:ys.length<=sizeLine) :
  Inv X pins σ (upd H s.heap.objs.size (.lst ys)) {s with heap:=s.heap.push {cls:=.type "list",data:=.seq its.toArray},toks:=t' }:=
 I.laid (λ_ _ q=>aao _ q) (aal _) ⟨hz,its,0,hv,aaC _ rfl⟩
theorem Inv.fresh(I:Inv X pins σ H s):H s.heap.objs.size=none:=I.aR.fresh (aal _)
theorem Inv.nu(I:Inv X pins σ H s)(hH:H l=some (.lst xs)):xs.length<=sizeLine/\∃(its:List Value) (n:Nat),Vals xs its/\xs.length=its.length/\s.heap.get? l=some {cls:=.type "list",data:=.seq its.toArray n}:=by obtain⟨z,its,n,r,e⟩:=I.aR l _ hH;exact⟨z,its,n,r,r.length,e⟩
theorem vM{n:Nat}(h:n<=sizeLine):Builtin.List.listTooLong n=false:=by unfold Builtin.List.listTooLong;exact aaz (by omega)
end
section
variable {X:Cx}
def jD:V->List V->Hp->VK->Prop:=λx vs H Q=>∃l xs y,x=.ref l/\vs=[y]/\H l=some (.lst xs)/\xs.length<sizeLine/\Q .bz (upd H l (.lst (xs++[y])))
theorem bH:G9 X "list.append" jD:=by rintro pins s σ H x vs v us Q I rx rv ⟨l,xs,y,rfl,rfl,hH,hz,q⟩;cases rx;obtain⟨u,rfl,ru⟩:=rv.one;obtain⟨z,its,n,r,hl,e⟩:=I.nu hH;refine call_meets aaO ⟨_,e,rfl⟩ F.entry_list_append (F.args_list_append_2 _ _) (PySem.list_append l its.toArray n u (by rw[aas];omega)) ⟨e,?_⟩;refine⟨.bz,_,I.AB (its':=its++[u]) hH e (by simp) (r.append (.cons ru .nil)) ?_,rfl,q⟩;rw[aaM,abT];omega
def Jh:V->List V->Hp->VK->Prop:=λx vs H Q=>∃l b xs zs,x=.ref l/\vs=[.ref b]/\H l=some (.lst xs)/\H b=some (.lst zs)/\xs.length+zs.length<=sizeLine/\Q .bz (upd H l (.lst (xs++zs)))
theorem Ca:G9 X "list.extend" Jh:=by
 rintro pins s σ H x vs v us Q I rx rv ⟨l,b,xs,zs,rfl,rfl,hH,hB,hz,q⟩;cases rx;obtain⟨u,rfl,ru⟩:=rv.one;cases ru;obtain⟨z,its,n,r,hl,e⟩:=I.nu hH;obtain⟨z2,kG,n2,r2,hl2,e2⟩:=I.nu hB;have hsz:its.toArray.size+kG.toArray.size<=sizeLine:=by rw[aas,aas];omega
 have AD:¬ (!its.toArray.isEmpty&&Builtin.List.listTooLong (its.toArray.size+kG.toArray.size))=true:=by rw[vM hsz,acu];exact aaK
 refine call_meets F.slot_list_extend ⟨_,e,rfl⟩ F.entry_list_extend (F.args_list_extend_2 _ _)
  (AutoSeq1.list_extend_list_list_0 l its.toArray n b kG.toArray n2 AD (by rw[aas];omega) (by omega)) ⟨e,e2,?_⟩
 refine⟨.bz,_,I.AB (its':=its++kG) hH e (by simp) (r.append r2) ?_,rfl,q⟩;rw[aaM];omega
def Um:V->List V->Hp->VK->Prop:=λx vs H Q=>∃l xs y,x=.ref l/\vs=[]/\H l=some (.lst xs)/\xs[xs.length-1]?=some y/\Q y (upd H l (.lst xs.dropLast))
theorem Lp:G9 X "list.pop" Um:=by
 rintro pins s σ H x vs v us Q I rx rv ⟨l,xs,y,rfl,rfl,hH,hy,q⟩;cases rx;have WB:=rv.zero;subst WB;obtain⟨z,its,n,r,hl,e⟩:=I.nu hH;obtain⟨u,hu,ru⟩:=r.get hy;have uc:its.toArray[its.toArray.size-1]?=some u:=by
  show its.toArray[its.length-1]?=some u
  rw[<-aa9,<-hl];exact hu
 refine call_meets aec ⟨_,e,rfl⟩ ae7 (F.args_list_pop_1 _) (MeetsSeq.list_pop_last l its.toArray n u uc (by rw[aas];omega)) ⟨e,?_⟩;refine⟨y,_,I.AB (its':=its.dropLast) hH e ?_ r.dropLast ?_,ru,q⟩
 ·show its.toArray.eraseIdxIfInBounds (its.toArray.size-1)=its.dropLast.toArray
  rw[aas,ac2,AA]
 ·rw[List.length_dropLast];omega
def Lq:V->List V->Hp->VK->Prop:=λx vs H Q=>∃l xs i k y,x=.ref l/\vs=[.int i]/\H l=some (.lst xs)/\-(2 ^ 63)<=i/\i<2 ^ 63/\seqIndex? i xs.length=some k/\xs[k]?=some y/\Q y (upd H l (.lst (xs.eraseIdx k)))
theorem ER:G9 X "list.pop" Lq:=by
 rintro pins s σ H x vs v us Q I rx rv ⟨l,xs,i,k,y,rfl,rfl,hH,h1,h2,hk,hy,q⟩;cases rx;obtain⟨u,rfl,ru⟩:=rv.one;obtain⟨t,rfl⟩:=ru;obtain⟨z,its,n,r,hl,e⟩:=I.nu hH;obtain⟨w,hw,jI⟩:=r.get hy;refine call_meets aec ⟨_,e,rfl⟩ ae7 (F.args_list_pop_2 _ _)
  (MeetsSeq.list_pop_at l its.toArray n i t k w (fitsIndex_both h1 h2) (by rw[aas,<-hl];exact hk) (by rw[<-aa9];exact hw) (by rw[aas];omega)) ⟨e,?_⟩
 refine⟨y,_,I.AB (its':=its.eraseIdx k) hH e ?_ (r.eraseIdx k) ?_,jI,q⟩
 ·show its.toArray.eraseIdxIfInBounds k=(its.eraseIdx k).toArray
  rw[ac2]
 ·have:=ub xs k
  omega
def Uo:R2:=λx y H Q=>∃l b xs zs,x=.ref l/\y=.ref b/\H l=some (.lst xs)/\H b=some (.lst zs)/\xs.length+zs.length<=sizeLine/\∀p,H p=none->Q (.ref p) (upd H p (.lst (xs++zs)))
theorem Cb:cL X (binaryOp .Add) Uo:=by
 rintro pins s σ H x y v u Q I rx ry ⟨l,b,xs,zs,rfl,rfl,hH,hB,hz,q⟩;cases rx;cases ry;obtain⟨z,its,n,r,hl,e⟩:=I.nu hH;obtain⟨z2,kG,n2,r2,hl2,e2⟩:=I.nu hB;refine PySem.P.add_list e e2 ?_ (by rw[aas,aas];omega);have ea:its.toArray++kG.toArray=(its++kG).toArray:=by simp
 rw[ea];exact⟨.ref _,_,I.Lo (t':=s.toks) (r.append r2) (by rw[aaM];omega),rfl,q _ I.fresh⟩
def Up:R2:=λx y H Q=>∃l k xs,x=.ref l/\y=.int k/\H l=some (.lst xs)/\-(2 ^ 63)<=k/\k<2 ^ 63/\xs.length*k.toNat<=sizeLine /\
 ∀p,H p=none->Q (.ref p) (upd H p (.lst (List.replicate k.toNat xs).flatten))
theorem len_rep{α:Type}(xs:List α)(k:Nat):(List.replicate k xs).flatten.length=k*xs.length:=by
 induction k with
 |zero=>simp
 |succ k ih=>rw[acm,acO,aaM,ih,aeC,Nat.add_comm]
theorem Lr:cL X (binaryOp .Mult) Up:=by
 rintro pins s σ H x y v u Q I rx ry ⟨l,k,xs,rfl,rfl,hH,h1,h2,hz,q⟩;cases rx;obtain⟨t,rfl⟩:=ry;obtain⟨z,its,n,r,hl,e⟩:=I.nu hH;have hlen:its.toArray.size*k.toNat<=sizeLine:=by rw[aas,<-hl];exact hz
 have Uq:¬ its.toArray.size*k.toNat > (2 ^ 63-1) / 8:=by
  have:(sizeLine:Nat)<=(2 ^ 63-1) / 8:=by decide
  omega
 have Ur:¬ (!Builtin.List.listFitsIndex k)=true:=by rw[fitsIndex_both h1 h2];exact aaK
 have AD:¬ Builtin.List.listTooLong (its.toArray.size*k.toNat)=true:=by rw[vM hlen];exact aaK
 have Us:List.foldl (λx1 x2=>x1++x2) #[] (List.replicate (if its.toArray.isEmpty=true then 0 else k.toNat) its.toArray)=(List.replicate k.toNat its).flatten.toArray:=by
  have f0:∀m:Nat,List.foldl (λx1 x2=>x1++x2) #[] (List.replicate m its.toArray)=(List.replicate m its).flatten.toArray:=λm=>by
   have:=foldl_rep its m []
   rw[List.nil_append] at this;exact this
  rw[f0];cases its with
  |nil=>simp
  |cons a r'=>rw[if_neg (by simp)]
 refine wpAny_binaryOp_repeat_ref (T:="list") (U:="int") (by decide) ⟨_,e,rfl⟩ (λs'=>typeIs_int s' k t) noFill_list_mul F.fills_int_mul afh repeat_list F.slot_int_index.lookup
  (call_meets afh (typeIs_int s k t) F.entry_int_rmul (F.args_int_rmul_2 _ _) (int___rmul___int_list k t l its.toArray n)
   ⟨e,rfl,⟨_,e,rfl⟩,call_meets F.slot_list_mul ⟨_,e,rfl⟩ F.entry_list_mul (F.args_list_mul_2 _ _) (ae1 l its.toArray n k t Ur Uq AD) ⟨e,?_⟩⟩)
 rw[Us];exact⟨.ref _,_,I.Lo (t':=s.toks) (r.rep k.toNat) (by rw[len_rep,adC];exact hz),rfl,q _ I.fresh⟩
end
end L2
namespace QU
open PySem PySem.W PySem.Calls PyProof.Rows
theorem qA{P:Params}{h:Heap}:∀(ns:List Int) (vs:List Value),WellAll P h vs (ns.map WData.int)->IntsAre vs ns:=by
 intro ns;induction ns with
 |nil =>intro vs w;rw[adD] at w;cases w;exact .nil
 |cons n ns ih=>
  intro vs w;rw[aaQ] at w;cases w with
  |cons a b =>cases a;exact .cons _ _ (ih _ b)
theorem Cc{l:OpenLaw}{n:Nat}(hn:l.most=some n){P:Params}{h:Heap}{args:List WData}{vals:List Value}
  (hpre:l.row.toRowW.claim.pre args=true) (hwl:WellAll P h vals args) :
  ∃a vs ns,vals=[Value.ref a]/\args=[WData.list (ns.map WData.int)]/\h.get? a=some {cls:=.type "list",data:=.seq vs.toArray}/\IntsAre vs ns/\ns.length<=n:=by
 have ud:WShape.hasAll [] args [.list .int]=true:=(pre_splitW hpre).1;have hc:l.pre.holds [] {args:=args}=true:=(pre_splitW hpre).2;obtain⟨d,r,rfl,h1,h2⟩:=hasAllW_cons ud;obtain rfl:=hasAllW_nil h2;obtain⟨xs,rfl,h3⟩:=hasW_list h1;obtain⟨ns,rfl⟩:=items_int h3;have hlen:ns.length<=n:=by
  unfold OpenLaw.pre at hc;have h4:(WTm.not (.lt (.lit (.int (n:Int))) (.len (.arg 0)))).holds [] {args:=[.list (ns.map .int)]}=true:=by have h4:=(holds_andW hc).1;rw[hn] at h4;exact h4
  have h5:=condW_of h4 (w_not (w_lt w_lit (w_len_list (w_arg rfl))));rw[aak] at h5;refine adE λq=>?_;have q':(n:Int)<((ns.length:Nat):Int):=by omega
  first
   |(rw[decide_eq_true q'] at h5;exact absurd h5 (by decide))
   |(simp at h5;omega)
 cases hwl with
 |cons w1 w2=>
  cases w2;cases w1 with
  |list ho hall=>exact⟨_,_,ns,rfl,rfl,ho,qA ns _ hall,hlen⟩
theorem Ce(l:OpenLaw)(args:List WData):l.row.toRowW.claim.post args (.bool true) args=true:=
 postW_of (r:=l.row.toRowW) (X:=(true==true))
  (show WShape.has [] (.bool true) .bool=true by first|rfl|decide|simp[WShape.has,WShape.arms,WShape.armsAll])
  (show(WTm.eq .res (.lit (.bool true))).value [] {args:=args,res:=some (.bool true),after:=args}=some (.bool (true==true)) from w_eq_bool (w_res rfl) w_lit) rfl
theorem yk{l:OpenLaw}{n:Nat}{q:Program}{loose:List Str}{XP:(Str->Option Value)->Heap->Prop}{YP:World->Heap->Prop}{d:DefRec}
  (hn:l.most=some n) (hdf:d.params.defaults=[])
  (call:∀(w:World) (s₀ s₁:Shared) (mg mb:Str->Option Value) (fa:Addr) (o:Obj) (pm cd doc:Value) (a:Addr) (vs:List Value) (ns:List Int),
   Ground q loose [] XP w s₀ mg mb s₁.heap->YP w s₁.heap ->
   s₁.heap.get? fa=some o->o.data=.func (docDef d.name d.params d.body d.scope pm cd doc)->s₁.heap.CodeRec cd d.name->mg d.name=some (.ref fa) ->
   s₁.heap.get? a=some {cls:=.type "list",data:=.seq vs.toArray}->IntsAre vs ns->ns.length<=n->s₁.gens=#[] ->
   codeAny (model l.prog w) callerA (.call (.ref fa) ⟨[.ref a],[]⟩) (λr s'=>r=.ok (.ret (.bool true))/\OldK s₁.heap s'.heap/\s'.os=s₁.os/\AllBare s'.gens) s₁) :
  WalkO q loose XP YP l.row.toRowW d [] (λf vs=>PySem.call f vs):=by
 intro w s₀ s₁ mg mb G Y fa o pm cd doc dV kV ho hd hcd hD Cf hg args vals as hpre aad hrd hwl G';obtain rfl:dV=.none:=Dflts.none hD hdf;obtain rfl:kV=.none:=Dflts.noKw hD;obtain⟨a,vs,ns,rfl,rfl,ES,hints,hlen⟩:=Cc hn hpre hwl;refine enter_call (codeAny_mono (call w s₀ s₁ mg mb fa o pm cd doc a vs ns G Y ho (fd_plain hd) hcd Cf ES hints hlen hg) λr s' hq=>?_);obtain⟨rfl,h2,h3,h4⟩:=hq;exact⟨.inl ⟨.bool true,.bool true,[],rfl,λ_=>rfl,.bool true,Ce l _,λ_=>⟨List.Pairwise.nil,λ_ hm=>(nomatch hm)⟩⟩,h2,h3,h4⟩
section
variable {prog:Program}{w:World}{A:Around}{E:Value->Shared->Prop}{s:Shared}{K:Frag}
def ledger(h:Heap)(L d:Addr):List (Addr×Obj):=(List.range h.objs.size).filterMap λa=>if a=L\/a=d then none else (h.get? a).map λo=>(a,o)
end
end QU
namespace L2
open PySem PySem.Spec PyProof.Rows
theorem ue:∀{vs:List Value} {ns:List Int},IntsAre vs ns->Vals (ns.map V.int) vs
 |_,_,.nil=>.nil
 |_,_,.cons n t h=>.cons ⟨t,rfl⟩ (ue h)
def ET(H:Hp):Prop:=∀b,H b=none\/∃o xs,H b=some (.i3 o (.lst xs))
theorem EU{P:Program}{w:World}{K:PySem.W.Frag}{mg mb:Str->Option Value}{CX:jJ}{k:Nat}{fa a:Addr}{fd:FuncData}{x:Str}{sp:Sp}{s₁:Shared}{vs:List Value}{ns:List Int}
  (KX:K.In s₁.heap) (hns:s₁.heap.Ns mainGlobals mg) (hb:s₁.heap.Ns builtinsNs mb) (hbb:∀x:Str,x≠"__name__" -> mb x=bootBuiltins x) (hlim:s₁.heap.NoLimit) (hg:s₁.gens=#[])
  (ha:s₁.heap.get? a=some {cls:=.type "list",data:=.seq vs.toArray}) (hi:IntsAre vs ns) (hl:ns.length<=sizeLine) (hr:cW k callerA)
  (F:∀base:Heap,K.In base->base.Ns mainGlobals mg->av P w K mg base CX k fa fd [x] sp) (hbind:∀(s:Shared) (u:Value),BindsTo s fd ⟨[u],[]⟩ [(x,u)])
  (hsp:∀H:Hp,ET H->aj K H a (ns.map V.int)->sp [.ref a] H (λv _=>v=.bl true) λ_ _ _=>False)
  (hCX:∀H e s',CX [] H s₁ (λ_ _ _=>False) e s'->False) :
  codeAny (model P w) callerA (.call (.ref fa) ⟨[.ref a],[]⟩) (λr s'=>r=.ok (.ret (.bool true))/\OldK s₁.heap s'.heap/\s'.os=s₁.os/\AllBare s'.gens) s₁:=by
 have rv:=ue hi;have Ut:=hi.length;have core:∀H:Hp,ET H->aj K H a (ns.map V.int)->dP P w H s₁.heap->(∀b,H b≠none->b=a)->(H a≠none->K.lookup a=none) ->
   codeAny (model P w) callerA (.call (.ref fa) ⟨[.ref a],[]⟩) (λr s'=>r=.ok (.ret (.bool true))/\OldK s₁.heap s'.heap/\s'.os=s₁.os/\AllBare s'.gens) s₁:=by
  intro H hO hS aR hA hK;have base_of:∀{b:Addr} {o:Obj},s₁.heap.get? b=some o->H b=none->(lV s₁.heap H).get? b=some o:=λe n=>ED e n;have noA:∀{b:Addr} {o:Obj} {es:Array DictEntry} {ep:Nat},s₁.heap.get? b=some o->o.data=.dict es ep->H b=none:=λ{b o es ep} e d=>by
   cases q:H b with
   |none=>rfl
   |some u =>have e':b=a:=hA b (by rw[q];simp);subst e';rw[ha] at e;cases e;have d':Data.seq vs.toArray _=Data.dict es ep:=d;cases d'
  have nsK:∀{b:Addr} {m:Str->Option Value},s₁.heap.Ns b m->(lV s₁.heap H).Ns b m:=λ{b m} ⟨o,es,ep,e,d,r⟩=>⟨o,es,ep,base_of e (noA e d),d,r⟩
  have QV:K.In (lV s₁.heap H):=λb o e=>base_of (KX b o e) (by
   cases q:H b with
   |none=>rfl
   |some u =>have e':b=a:=hA b (by rw[q];simp);subst e';rw[hK (by rw[q];simp)] at e;cases e)
  have hM:Mod K mg (lV s₁.heap H):=⟨QV,nsK hns,⟨mb,nsK hb,hbb⟩,let ⟨mc,h1,h2⟩:=hlim;⟨mc,nsK h1,h2⟩⟩
  have e0:pH P w K mg (lV s₁.heap H) callerA [] s₁ H:=⟨rfl,hM,λb o e=>I9 e,aey (BN _ _),trivial,λb hb=>absurd (show b∈([]:List Addr) from hb) (by simp),aR,.of_eq hg⟩
  refine codeAny_mono ((F _ QV (nsK hns)).run callerA [] s₁ H ⟨[.ref a],[]⟩ [.ref a] [.ref a] _ _ hr e0 (hbind s₁ (.ref a)) (.cons rfl .nil) (hsp H hO hS)) λr s' h=>?_;cases r with
  |error e=>exact(hCX H e s' h).elim
  |ok fl=>
   cases fl with
   |next=>exact False.elim h
   |brk=>exact False.elim h
   |cont=>exact False.elim h
   |ret u=>
    obtain⟨v,H',os,bare,un,Uu,r',q⟩:=h;have q':v=.bl true:=q;subst q';obtain rfl:u=Value.bool true:=r';refine⟨rfl,OldK.of_keep λb o e=>?_,os,bare⟩;cases q:H b with
    |none=>exact un.keep b o e q (by intro z;exact absurd (show b∈([]:List Addr) from z) (by simp)) (by simp)
    |some u=>
     rcases hO b with z|⟨ob,xs,z⟩
     ·rw[q] at z;cases z
     ·have z2:=un.kD b ob _ z;obtain⟨e1,_⟩:=aR b _ z;obtain⟨e2,_⟩:=Uu b _ z2;rw[e] at e1;cases e1;exact e2
 cases hk:K.lookup a with
 |some o =>have e:=KX a o hk;rw[ha] at e;cases e;refine core (λ_=>none) (λ_=>.inl rfl) (.inr ⟨_,vs.toArray,_,hk,rfl,rfl,rfl,by rw[aas,Ut];exact hl,by simpa using rv⟩) (λb u z=>by have z':(none:Option HO)=some u:=z;cases z') (λb z=>absurd rfl z) λz=>absurd rfl z
 |none=>
  refine core (λb=>if b=a then some (.i3 {cls:=.type "list",data:=.seq vs.toArray} (.lst (ns.map V.int))) else none) (λb=>?_) (.inl (.inr ⟨{cls:=.type "list",data:=.seq vs.toArray},if_pos rfl⟩)) (λb u z=>?_) (λb z=>?_) λ_=>hk
  ·by_cases hb:b=a
   ·exact .inr ⟨_,_,if_pos hb⟩
   ·exact .inl (if_neg hb)
  ·by_cases hb:b=a
   ·have z':=(if_pos hb).symm.trans z;cases z';subst hb;exact⟨ha,by rw[aak];exact hl,vs,_,rv,ha⟩
   ·have z':=(if_neg hb).symm.trans z;cases z'
  ·by_cases hb:b=a
   ·exact hb
   ·exact absurd (if_neg hb) z
abbrev KOf{K:PySem.W.Frag}{h:Heap}(_:K.In h):PySem.W.Frag:=K
theorem Ji{l:PySem.W.OpenLaw}{n k:Nat}{q:Program}{loose:List Str}{XP:(Str->Option Value)->Heap->Prop}{YP:World->Heap->Prop}{d:DefRec}{K:Params->PySem.W.Frag}{CX:World->jJ}{sp:World->Sp}{x:Str}
  (hn:l.most=some n) (hn2:n<=sizeLine) (hdf:d.params.defaults=[]) (hr:cW k callerA)
  (hY:∀(w:World) (h:Heap),YP w h->(K w.params).In h)
  (F:∀(w:World) (mg:Str->Option Value) (fa:Addr) (h:Heap),(K w.params).In h->h.Ns mainGlobals mg->mg d.name=some (.ref fa) ->
   ∃fd:FuncData,(∀(s:Shared) (u:Value),BindsTo s fd ⟨[u],[]⟩ [(x,u)]) /\
    ∀base:Heap,(K w.params).In base->base.Ns mainGlobals mg->av l.prog w (K w.params) mg base (CX w) k fa fd [x] (sp w))
  (hsp:∀(w:World) (H:Hp) (a:Addr) (ns:List Int),ns.length<=n->ET H->aj (K w.params) H a (ns.map V.int)->sp w [.ref a] H (λv _=>v=.bl true) λ_ _ _=>False)
  (hCX:∀(w:World) (H:Hp) (s:Shared) (e:Value) (s':Shared),CX w [] H s (λ_ _ _=>False) e s'->False) :
  PySem.W.WalkO q loose XP YP l.row.toRowW d [] (λf vs=>PySem.call f vs):=by
 refine QU.yk hn hdf λw s₀ s₁ mg mb fa o pm cd doc a vs ns G Y ho hd hcd Cf ES hints hlen hg=>?_;have KX:=hY w _ Y;obtain⟨fd,hb,hF⟩:=F w mg fa _ KX G.T.g Cf;exact EU KX G.T.g G.T.b G.T.builtins G.T.nolimit hg ES hints (aap hlen hn2) hr hF hb (λH hO hS=>hsp w H a ns hlen hO hS) λH e s'=>hCX w H s₁ e s'
def inClass(s:Stmt)(j:Nat):Stmt:=match s with
 |.ClassDef _ _ _ body _ _ _ _ _ _ _=>body.getD j (.Pass ⟨0,0,0,0⟩)
 |_=>.Pass ⟨0,0,0,0⟩
def dG(s:Stmt):Arguments:=match s with
 |.FunctionDef _ a _ _ _ _ _ _ _ _=>a
 |_=>{posonlyargs:=[],args:=[],vararg:=none,kwonlyargs:=[],kw_defaults:=[],kwarg:=none,defaults:=[]}
def dm(s:Stmt):List Stmt:=match s with
 |.FunctionDef _ _ b _ _ _ _ _ _ _=>b
 |_=>[]
def ak(s:Stmt):Scope:=match s with
 |.FunctionDef _ _ _ _ _ _ sc _ _ _=>sc
 |_=>{kind:=.function,names:=[],isGenerator:=false,isCoroutine:=false}
abbrev aB:jJ:=λ_ _ _ _ _ _=>False
abbrev E0:XK:=λ_ _ _=>False
theorem ax{X:Cx}:Passes aB X E0:=λ_ _ _ _ _ _ _ h=>h.elim
structure a7(K:PySem.W.Frag)(x qual:Str)(st:Stmt)(f:Addr)(fd:FuncData):Prop where
 ex:∃(oc:Value) (od:Option Addr) (kV doc pm:Value) (an:Option Addr) (cdv ct:Value) (osl:Array (Option Value)),
  fd=PySem.W.fnOf x qual (dG st) (dm st) (ak st) .none kV doc pm an cdv ct/\K.lookup f=some ⟨oc,od,.func fd,osl⟩/\PySem.W.codeIn K cdv qual=true
 kp:PySem.W.keepIn K (.ref f)=true
section
variable {P:Program}{w:World}{K:PySem.W.Frag}{mg:Str->Option Value}{base:Heap}
theorem a7.ok{x qual:Str}{st:Stmt}{f:Addr}{fd:FuncData}{N ps:List Str}{k:Nat}{sp:Sp}(F:a7 K x qual st f fd)(S:aG N ps (ak st))(len:∀vs H Q E,sp vs H Q E->vs.length=ps.length)
  (hbody:∀(cdv:Value) (A:Around) (outer:List Env) (s:Shared) (H:Hp) (vs:List V) (Q:VK) (E:XK),cW k (A.deeper (envOfC qual (ak st) s.heap.objs.size f cdv))->sp vs H Q E ->
   ∃t,j9 (pI aB P w K mg base N qual (ak st) f cdv A outer s H E).yD (dm st) t/\t {nx:=λ_ H'=>Q .bz H',rt:=Q} (start N vs) H):av P w K mg base aB (k+1) f fd ps sp:=by
 obtain⟨oc,od,kV,doc,pm,an,cdv,ct,osl,rfl,lk,hcd⟩:=F.ex;refine Pf lk hcd S len λA outer s H vs Q E hr hsp=>?_;obtain⟨t,h,q⟩:=hbody cdv A outer s H vs Q E hr hsp;exact⟨t,h.yD,q⟩
theorem a7.binds{x qual:Str}{st:Stmt}{f:Addr}{fd:FuncData}{ps:List Str}(F:a7 K x qual st f fd)
  (h:∀(kV doc pm:Value) (an:Option Addr) (cdv ct:Value) (us:List Value),us.length=ps.length->bindArgs (PySem.W.fnOf x qual (dG st) (dm st) (ak st) .none kV doc pm an cdv ct) ⟨us,[]⟩=pure (ps.zip us)):Binds K fd ps []:=by
 obtain⟨oc,od,kV,doc,pm,an,cdv,ct,osl,rfl,lk,hcd⟩:=F.ex;exact .all (h kV doc pm an cdv ct)
theorem Cg{x qual:Str}{st:Stmt}{f:Addr}{oc:Value}{od an:Option Addr}{osl:Array (Option Value)}{kV doc pm cdv ct:Value}(l:K.lookup f=some ⟨oc,od,.func (PySem.W.fnOf x qual (dG st) (dm st) (ak st) .none kV doc pm an cdv ct),osl⟩)
  (c:W.codeIn K cdv qual=true) (k:W.keepIn K (.ref f)=true):a7 K x qual st f (W.fnOf x qual (dG st) (dm st) (ak st) .none kV doc pm an cdv ct):=⟨⟨oc,od,kV,doc,pm,an,cdv,ct,osl,rfl,l,c⟩,k⟩
end
theorem AE{A:Around}{k:Nat}(hr:cW k A):A.units+1<cLine:=abJ (Nat.add_le_add_left (by decide:1<=64) _) hr.units
theorem c8{n:Nat}(h:n<=1000):n<sizeLine:=abJ h (by decide)
section
variable {X:Cx}
theorem pv(i:Nat){x:Str}{pos:Pos}(hN:X.N[i]?=some x:=by rfl)(hv:KZ X.env.scope x:=by first|exact Or.inl rfl|exact Or.inr (Or.inl rfl)|exact Or.inr (Or.inr rfl))(hd:(x==("__debug__" : Str))=false:=by decide)
  (hcd:(x==("__classdict__" : Str))=false:=by decide):PE X (.Name x pos) (cf i):=K2 hN hv hd hcd
end
theorem aZ{A B:Prop}(h:B):if false=true then A else B:=by rw[if_neg aaK];exact h
theorem bo{A B:Prop}(h:A):if true=true then A else B:=by rw[if_pos rfl];exact h
theorem cR{c A B:Prop}[Decidable c](h1:c->A)(h2:¬ c->B):if c then A else B:=by
 by_cases h:c
 ·rw[if_pos h];exact h1 h
 ·rw[if_neg h];exact h2 h
def au(H H':Hp):Prop:=∀b o,H b=some o->H' b=some o
theorem au.refl(H:Hp):au H H:=λ_ _ h=>h
theorem au.trans{H H1 H2:Hp}(a:au H H1)(b:au H1 H2):au H H2:=λc o h=>b c o (a c o h)
theorem au.free{H H':Hp}(e:au H H'){l:Addr}(h:H' l=Option.none):H l=Option.none:=by
 cases q:H l with
 |none=>rfl
 |some o =>rw[e l o q] at h;cases h
theorem au.seq{K:PySem.W.Frag}{H H':Hp}{a:Addr}{xs:List V}(e:au H H')(h:aj K H a xs):aj K H' a xs:=by
 rcases h with(h|⟨o,h⟩)|h
 ·exact .inl (.inl (e _ _ h))
 ·exact .inl (.inr ⟨o,e _ _ h⟩)
 ·exact .inr h
end L2
set_option maxHeartbeats 4000000
namespace L2
open PySem PySem.Spec PyProof.Rows
section
variable {κ:Type}[DecidableEq κ]
def fc(kvs:List (κ×V))(k:κ):Option V:=(kvs.find? λkv=>decide (kv.1=k)).map (·.2)
def putK(kvs:List (κ×V))(k:κ)(v:V):List (κ×V):=
 if (kvs.any λkv=>decide (kv.1=k))=true then kvs.map (λkv=>if kv.1=k then (kv.1,v) else kv) else kvs++[(k,v)]
theorem jN{p:κ×V}{r:List (κ×V)}{k:κ}(e:p.1=k):fc (p::r) k=some p.2:=by simp[fc,aco,e]
theorem iQ{p:κ×V}{r:List (κ×V)}{k:κ}(e:¬ p.1=k):fc (p::r) k=fc r k:=by simp[fc,aco,e]
theorem pK(k:κ):∀kvs:List (κ×V),(kvs.any λkv=>decide (kv.1=k))=(fc kvs k).isSome
 |[]=>rfl
 |p::r=>by
  rw[ab9];by_cases e:p.1=k
  ·simp only[jN e,decide_eq_true e,Bool.true_or,Option.isSome_some]
  ·rw[iQ e,aaz e,Bool.false_or];exact pK k r
theorem kH(kvs:List (κ×V))(k:κ)(v:V):(putK kvs k v).length<=kvs.length+1:=by
 unfold putK;split
 ·rw[aak];omega
 ·rw[aaM,aa0,acH];omega
theorem pL{kvs:List (κ×V)}{k:κ}(v:V)(h:fc kvs k=none):putK kvs k v=kvs++[(k,v)]:=by unfold putK;rw[pK,h];exact if_neg (by decide)
theorem gM.nv{o:Option V}{u:Option Value}(r:gM o u):o.isSome=u.isSome:=by
 cases o with
 |none=>cases u with
  |none=>rfl
  |some _=>exact(show False from r).elim
 |some _=>cases u with
  |none=>exact(show False from r).elim
  |some _=>rfl
theorem KV.val{kvs:List (κ×V)}{vs:List (κ×Value)}(r:KV kvs vs)(k:κ):gM (fc kvs k) (valueAt vs k):=by
 unfold KV at r;induction r with
 |nil=>exact True.intro
 |@cons p q ps qs h t ih=>
  obtain⟨h1,h2⟩:=h;by_cases e:p.1=k
  ·have e':q.1=k:=h1.symm.trans e;have b:valueAt (q::qs) k=some q.2:=by simp[valueAt,aco,e']
   rw[jN e,b];exact h2
  ·have e':¬ q.1=k:=λz=>e (h1.trans z);have b:valueAt (q::qs) k=valueAt qs k:=by simp[valueAt,aco,e']
   rw[iQ e,b];exact ih
theorem KV.any{kvs:List (κ×V)}{vs:List (κ×Value)}(r:KV kvs vs)(k:κ):(kvs.any λkv=>decide (kv.1=k))=vs.any λkv=>decide (kv.1=k):=by
 unfold KV at r;induction r with
 |nil=>rfl
 |cons h t ih=>rw[ab9,ab9,ih,h.1]
theorem KV.EV{kvs:List (κ×V)}{vs:List (κ×Value)}(r:KV kvs vs)(k:κ){y:V}{u:Value}(ry:RelV y u) :
  KV (kvs.map λkv=>if kv.1=k then (kv.1,y) else kv) (vs.map λkv=>if kv.1=k then (kv.1,u) else kv):=by
 unfold KV at r⊢;induction r with
 |nil=>exact .nil
 |@cons p q ps qs h t ih=>
  rw[aaQ,aaQ];refine .cons ?_ ih;obtain⟨h1,h2⟩:=h;by_cases e:p.1=k
  ·rw[if_pos e,if_pos (h1.symm.trans e)];exact⟨h1,ry⟩
  ·rw[if_neg e,if_neg (λz=>e (h1.trans z))];exact⟨h1,h2⟩
theorem KV.put{kvs:List (κ×V)}{vs:List (κ×Value)}(r:KV kvs vs)(k:κ){y:V}{u:Value}(ry:RelV y u):KV (putK kvs k y) (stored vs k u):=by
 unfold putK stored;rw[r.any k];by_cases e:(vs.any λkv=>decide (kv.1=k))=true
 ·rw[if_pos e,if_pos e];exact r.EV k ry
 ·rw[if_neg e,if_neg e];exact ad4 r ⟨rfl,ry⟩
theorem KV.keys{kvs:List (κ×V)}{vs:List (κ×Value)}(r:KV kvs vs):kvs.map (·.1)=vs.map (·.1):=by
 unfold KV at r;induction r with
 |nil=>rfl
 |cons h t ih=>rw[aaQ,aaQ,ih,h.1]
theorem KV.length{kvs:List (κ×V)}{vs:List (κ×Value)}(r:KV kvs vs):kvs.length=vs.length:=acz r
end
theorem oC{P:Program}{w:World}{k:Key}{u:Value}(r:RelV (kV k) u):(bT P w).is k u=true:=by
 cases k with
 |inl i=>obtain⟨t,e⟩:=(show ∃t,u=Value.int i t from r);subst e;exact yf P w i t
 |inr x=>obtain⟨t,e⟩:=(show ∃t,u=Value.str x t from r);subst e;exact yg P w x t
theorem uf{P:Program}{w:World}:∀{ks:List Key} {us:List Value},Vals (ks.map kV) us->ItemsAre (bT P w) ks us
 |[],_,r=>by rw[adD] at r;cases r;exact .nil
 |k::ks,_,r=>by
  rw[aaQ] at r;cases r with
  |cons h t=>exact .cons (oC h) (uf t)
abbrev KT(H:Hp):List (List Key×V)->List (List Key×Addr×Value)->Prop:=Paired λp q=>p.1=q.1/\H q.2.1=some (.tup (p.1.map kV))/\RelV p.2 q.2.2
theorem KT.val{H:Hp}{kvs:List (List Key×V)}{xs:List (List Key×Addr×Value)}(r:KT H kvs xs)(k:List Key):gM (fc kvs k) ((atKey xs k).map (·.2)):=by
 induction r with
 |nil=>exact True.intro
 |@cons p q ps qs h t ih=>
  obtain⟨h1,_,h2⟩:=h;by_cases e:p.1=k
  ·have e':q.1=k:=h1.symm.trans e;have b:atKey (q::qs) k=some q.2:=by simp[atKey,aco,e']
   rw[jN e,b];exact h2
  ·have e':¬ q.1=k:=λz=>e (h1.trans z);have b:atKey (q::qs) k=atKey qs k:=by simp[atKey,aco,e']
   rw[iQ e,b];exact ih
theorem KT.EV{H:Hp}{kvs:List (List Key×V)}{xs:List (List Key×Addr×Value)}(r:KT H kvs xs)(k:List Key){y:V}{u:Value}(ry:RelV y u) :
  KT H (kvs.map λkv=>if kv.1=k then (kv.1,y) else kv) (xs.map (putAt k u)):=by
 induction r with
 |nil=>exact .nil
 |@cons p q ps qs h t ih=>
  rw[aaQ,aaQ];refine .cons ?_ ih;obtain⟨h1,h2,h3⟩:=h;unfold putAt;by_cases e:p.1=k
  ·rw[if_pos e,if_pos (h1.symm.trans e)];exact⟨h1,h2,ry⟩
  ·rw[if_neg e,if_neg (λz=>e (h1.trans z))];exact⟨h1,h2,h3⟩
theorem KT.put{H:Hp}{kvs:List (List Key×V)}{xs:List (List Key×Addr×Value)}(r:KT H kvs xs)(k:List Key){b:Addr}{y:V}{u:Value}(hb:H b=some (.tup (k.map kV)))(ry:RelV y u) :
  KT H (putK kvs k y) (storedH xs k b u):=by
 have e:(kvs.any λkv=>decide (kv.1=k))=(atKey xs k).isSome:=by rw[pK,(r.val k).nv,aeQ]
 unfold putK storedH;rw[e];by_cases q:(atKey xs k).isSome=true
 ·rw[if_pos q,if_pos q];exact r.EV k ry
 ·rw[if_neg q,if_neg q];exact ad4 r ⟨rfl,hb,ry⟩
theorem KT.keeps{H H':Hp}{kvs:List (List Key×V)}{xs:List (List Key×Addr×Value)}(r:KT H kvs xs)(ht:∀b ys,H b=some (.tup ys)->H' b=some (.tup ys)):KT H' kvs xs:=
 Paired.rK r λ_ _ z=>⟨z.1,ht _ _ z.2.1,z.2.2⟩
section
variable {P:Program}{w:World}{H:Hp}{h:Heap}{a:Addr}
theorem Ha{u:HO}(ok:dP P w H h)(e:Rd H a u):bD P w H h a u:=e.ok ok
theorem vc{kvs:List (Key×V)}(ok:dP P w H h)(e:Rd H a (.dK kvs)):kvs.length<=sizeLine/\(a==sysModules)=false/\∃vs,KV kvs vs/\h.DictOf (bT P w) a vs:=
 show bD P w H h a (.dK kvs) from Ha ok e
theorem AF{kvs:List (Key×V)}(ok:dP P w H h)(e:H a=some (.dK kvs)):kvs.length<=sizeLine/\(a==sysModules)=false/\∃vs,KV kvs vs/\h.DictOf (bT P w) a vs:=vc ok (.inl e)
theorem qB{ks:List Key}(ok:dP P w H h)(e:H a=some (.tup (ks.map kV))):(tupleKind (bT P w)).is h ks a:=by
 obtain⟨_,its,r,o,h1,h2,n,h3⟩:=(show bD P w H h a (.tup (ks.map kV)) from ok a _ e)
 exact⟨o,its.toArray,n,h1,h2,h3,by simpa using uf r⟩
theorem vd{kvs:List (List Key×V)}(ok:dP P w H h)(e:Rd H a (.dT kvs)):kvs.length<=sizeLine/\(a==sysModules)=false /\
  ∃xs,KT H kvs xs/\h.DictOfH (tupleKind (bT P w)) a xs:=by
 obtain⟨z,y,xs,r,o,es,ep,h1,h2,h3,h4,h5⟩:=(show bD P w H h a (.dT kvs) from Ha ok e)
 refine⟨z,y,xs,r,o,es,ep,h1,h2,h3,h4,λx hx=>?_,h5⟩;have all:∀{l:List (List Key×V)} {m:List (List Key×Addr×Value)},KT H l m->∀x∈m,(tupleKind (bT P w)).is h x.1 x.2.1:=by
  intro l m q;induction q with
  |nil=>intro x hx;exact nomatch hx
  |@cons p q ps qs hq t ih=>
   intro x hx;rcases aav.mp hx with e|hx
   ·subst e;exact qB ok (by rw[<-hq.1];exact hq.2.1)
   ·exact ih x hx
 exact all r x hx
theorem Pk{kvs:List (List Key×V)}(ok:dP P w H h)(e:H a=some (.dT kvs)):kvs.length<=sizeLine/\(a==sysModules)=false /\
  ∃xs,KT H kvs xs/\h.DictOfH (tupleKind (bT P w)) a xs:=vd ok (.inl e)
end
def iz(H:Hp)(a:Addr)(y:V)(r:Option V):Prop:=
 (∃kvs k,Rd H a (.dK kvs)/\y=kV k/\r=fc kvs k)\/∃kvs k b,Rd H a (.dT kvs)/\y=.ref b/\H b=some (.tup (k.map kV))/\r=fc kvs k
def vN(H:Hp)(a:Addr)(y v:V)(H':Hp):Prop:=
 (∃kvs k,H a=some (.dK kvs)/\y=kV k/\kvs.length<sizeLine/\H'=upd H a (.dK (putK kvs k v))) \/
 ∃kvs k b,H a=some (.dT kvs)/\y=.ref b/\H b=some (.tup (k.map kV))/\kvs.length<sizeLine/\H'=upd H a (.dT (putK kvs k v))
theorem iz.k{H:Hp}{a:Addr}{kvs:List (Key×V)}{k:Key}(e:H a=some (.dK kvs)):iz H a (kV k) (fc kvs k):=.inl ⟨kvs,k,.inl e,rfl,rfl⟩
theorem vN.k{H:Hp}{a:Addr}{kvs:List (Key×V)}{k:Key}{v:V}(e:H a=some (.dK kvs))(hl:kvs.length<sizeLine):vN H a (kV k) v (upd H a (.dK (putK kvs k v))):=.inl ⟨kvs,k,e,rfl,hl,rfl⟩
section
variable {X:Cx}{pins:List (Addr×Obj)}{σ:St}{H:Hp}{s:Shared}{a:Addr}{y v:V}{u r:Value}{o:Option V}{A:Around}{E:Value->Shared->Prop}
theorem Inv.big(I:Inv X pins σ H s):sysModules<s.heap.objs.size:=by have h:mainGlobals<s.heap.objs.size:=(I.mod.glob.keeps I.bk).lt;exact aeD (by decide) h
theorem Ci{Q:Value->Shared->Prop}(hu:A.units+1<cLine)(I:Inv X pins σ H s)(g:iz H a y (some v))(ry:RelV y u)(h:∀w' s',Inv X pins σ H s'->RelV v w'->Q w' s') :
  wpAny (model X.prog X.w) A (getItem (.ref a) u) Q E s:=by
 rcases g with⟨kvs,k,e,ey,l⟩|⟨kvs,k,b,e,ey,eb,l⟩
 ·subst ey;obtain⟨z,hd,vs,rel,dd⟩:=vc I.aR e;obtain⟨w',hw,jI⟩:=gM.some_of (v:=v) (o:=valueAt vs k) (by rw[l];exact rel.val k);exact wpAny_getItem_of (oC ry) dd.mapOf hw (h w' _ (I.tok _) jI)
 ·subst ey;cases (show u=Value.ref b from ry);obtain⟨z,hd,xs,rel,dd⟩:=vd I.aR e;obtain⟨w',hw,jI⟩:=gM.some_of (v:=v) (o:=(atKey xs k).map (·.2)) (by rw[l];exact rel.val k);obtain⟨p,hp,gR⟩:=aar.mp hw;refine wpAny_getItem_heap (tupleKind_room_in1 hu) (qB I.aR eb) dd hp ?_;rw[gR];exact h w' _ (I.tok _) jI
theorem Jj{Q:Value->Shared->Prop}(hu:A.units+1<cLine)(I:Inv X pins σ H s)(g:iz H a y o)(ry:RelV y u)(h:∀s',Inv X pins σ H s'->Q (.bool (!o.isSome)) s') :
  wpAny (model X.prog X.w) A (compareOp .NotIn u (.ref a)) Q E s:=by
 rcases g with⟨kvs,k,e,ey,l⟩|⟨kvs,k,b,e,ey,eb,l⟩
 ·subst ey;obtain⟨z,hd,vs,rel,dd⟩:=vc I.aR e;refine wpAny_notIn_of (oC ry) hd dd.mapOf ?_;rw[<-(rel.val k).nv,<-l];exact h _ (I.tok _)
 ·subst ey;cases (show u=Value.ref b from ry);obtain⟨z,hd,xs,rel,dd⟩:=vd I.aR e;refine wpAny_notIn_heap (tupleKind_room_in1 hu) (qB I.aR eb) hd dd ?_;have q:=(rel.val k).nv;rw[aeQ] at q;rw[<-q,<-l];exact h _ (I.tok _)
theorem rO{h':Heap}{t':Nat}{ob:HO}(I:Inv X pins σ H s)(mu:BM (H a))(hs:Heap.SameBut a s.heap h')(he:∃q,h'.get? a=some q)(new:bD X.prog X.w (upd H a ob) h' a ob) :
  Inv X pins σ (upd H a ob) {s with heap:=h',toks:=t' }:=
 I.write (x:=a) (e:=a) mu (.inl rfl) (λb q hb z=>(hs.2 b hb).trans z) he new
theorem Cj{P:Program}{w:World}{H':Hp}{h':Heap}{kvs:List (Key×V)}{vs:List (Key×Value)}(z:kvs.length<=sizeLine)(hd:(a==sysModules)=false)(rel:KV kvs vs)(dd:h'.DictOf (bT P w) a vs) :
  bD P w H' h' a (.dK kvs):=⟨z,hd,vs,rel,dd⟩
theorem Ck{H':Hp}{Q:Unit->Shared->Prop}(hu:A.units+1<cLine)(I:Inv X pins σ H s)(g:vN H a y v H')(ry:RelV y u)(rv:RelV v r)(h:∀s',Inv X pins σ H' s'->Q () s') :
  wpAny (model X.prog X.w) A (setItem (.ref a) u r) Q E s:=by
 rcases g with⟨kvs,k,e,ey,l,eH⟩|⟨kvs,k,b,e,ey,eb,l,eH⟩
 ·subst ey eH;obtain⟨z,hd,vs,rel,dd⟩:=AF I.aR e;have hz:vs.length<=sizeLine:=by rw[<-rel.length];exact z
  have hl:(putK kvs k v).length<=sizeLine:=by have:=kH kvs k v;omega
  refine wpAny_setItem_pairs (hsz:=hz) (oC ry) dd λh' vO hs=>h _ ?_;have he:∃q,h'.get? a=some q:=let ⟨q,_,_,hq,_⟩:=vO;⟨q,hq⟩
  exact rO I (by rw[e];exact True.intro) hs he (Cj hl hd (rel.put k rv) vO)
 ·subst ey eH;cases (show u=Value.ref b from ry);obtain⟨z,hd,xs,rel,dd⟩:=Pk I.aR e;have hz:xs.length<=sizeLine:=by rw[<-acz rel];exact z
  have hl:(putK kvs k v).length<=sizeLine:=by have:=kH kvs k v;omega
  refine wpAny_setItem_heap (hsz:=hz) (tupleKind_room_in1 hu) (qB I.aR eb) dd λh' vO hs=>h _ ?_;obtain⟨q,es,ep,hq,h2,h3,h4,_,h5⟩:=vO;refine rO I (by rw[e];exact True.intro) hs ⟨q,hq⟩ ⟨hl,hd,_,(rel.put k eb rv).keeps λc ys ec=>?_,q,es,ep,hq,h2,h3,h4,h5⟩;rw[aq (cF ec e (λz=>nomatch z))];exact ec
end
def Ls(i:Expr):Prop:=∀ov iv,subscripted i false ov iv=operate [ov,iv] (getItem ov iv)
theorem Jk{prog:Program}{w:World}{A:Around}{E:Value->Shared->Prop}{s:Shared}{env:Env}{value slice:Expr}{pos:Pos}{T id:String}{Q:Value->Shared->Prop}
  (hl:typeLookup (.type T) "__getitem__" = pure (some (.builtin id))) (hs:Ls slice)
  (h:wpAny (model prog w) A (eval value env) (λo s₁=>wpAny (model prog w) A (eval slice env) (λi s₂=>s₂.TypeIs o T/\wpAny (model prog w) A (getItem o i) Q E s₂) E s₁) E s) :
  wpAny (model prog w) A (eval (.Subscript value slice pos) env) Q E s:=by
 refine afe (wpAny_mono h (λo s₁ h₁=>wpAny_mono h₁ (λi s₂ h₂=>?_) λ_ _ x=>x) λ_ _ x=>x);obtain⟨hT,h₂⟩:=h₂;unfold subscriptTail;refine wpAny_bind ?_;rw[getitemInPython_of_ne hT.not_modules];refine wpAny_bind (wpAny_specialOf hT hl ?_);have fin:wpAny (model prog w) A (subscripted slice false o i) (λr s₃=>wpAny (model prog w) A (letTemporaryGo value o r>>=λ_=>pure r) Q E s₃) E s₂:=by rw[hs o i];exact wpAny_operating (wpAny_mono h₂ (λr s₃ h₃=>wpAny_bind (wpAny_letTemporaryGo (wpAny_pure h₃))) λ_ _ x=>x)
 first
  |exact wpAny_pure (wpAny_bind fin)
  |exact wpAny_bind (wpAny_pure (wpAny_bind fin))
  |exact wpAny_bind fin
theorem yl{X:Cx}{pins:List (Addr×Obj)}{σ:St}{H:Hp}{s:Shared}{a:Addr}{y:V}{o:Option V}(I:Inv X pins σ H s)(g:iz H a y o):s.TypeIs (.ref a) "dict" := by
 rcases g with⟨kvs,k,e,_,_⟩|⟨kvs,k,b,e,_,_,_⟩
 ·obtain⟨_,_,vs,_,dd⟩:=vc I.aR e;exact dd.typeIs
 ·obtain⟨_,_,xs,_,dd⟩:=vd I.aR e;exact dd.typeIs
def Pl(td ty:TE):TE:=λσ H Q=>td σ H λx H1=>ty σ H1 λy H2=>∃a v,x=.ref a/\iz H2 a y (some v)/\Q v H2
def Jl(ty td:TE):TE:=λσ H Q=>ty σ H λy H1=>td σ H1 λx H2=>∃a o,x=.ref a/\iz H2 a y o/\Q (.bl (!o.isSome)) H2
def Pm(td ty tv:TE):TS:=λD σ H=>tv σ H λv H1=>td σ H1 λx H2=>ty σ H2 λy H3=>∃a H4,x=.ref a/\vN H3 a y v H4/\D.nx σ H4
section
variable {X:Cx}{o i e value:Expr}{pos pos' EH:Pos}{td ty tv:TE}
theorem rP(hu:X.A.units+1<cLine)(ho:PE X o td)(hi:PE X i ty)(hs:Ls i):PE X (.Subscript o i pos) (Pl td ty):=by intro pins s σ H Q I h;refine Jk PySem.F.slot_dict_getitem.lookup hs (aH (ho pins s σ H _ I h) λu s1 ⟨x,H1,I1,rx,q1⟩=>aH (hi pins s1 σ H1 _ I1 q1) λiv s2 ⟨y,H2,I2,ry,a,v,ex,g,q2⟩=>?_);subst ex;obtain rfl:u=Value.ref a:=rx;exact⟨yl I2 g,Ci hu I2 g ry λw' s3 I3 jI=>⟨v,H2,I3,jI,q2⟩⟩
theorem Cm(hu:X.A.units+1<cLine)(hi:PE X i ty)(ho:PE X o td):PC X .NotIn i o (Jl ty td):=by intro pins s σ H Q I h;refine aH (hi pins s σ H _ I h) λiv s1 ⟨y,H1,I1,ry,q1⟩=>aH (ho pins s1 σ H1 _ I1 q1) λu s2 ⟨x,H2,I2,rx,a,ov,ex,g,q2⟩=>?_;subst ex;obtain rfl:u=Value.ref a:=rx;exact Jj hu I2 g ry λs3 I3=>⟨.bl (!ov.isSome),H2,I3,rfl,q2⟩
theorem Jm(hu:X.A.units+1<cLine)(ho:PE X o td)(hi:PE X i ty)(hv:PE X value tv)(hs:swapsWith value (some (.Subscript o i pos')) pos.line X.env=pure false) :
  PS X (.Assign [.Subscript o i pos'] value pos) (Pm td ty tv):=by
 intro pins s σ H D I h;refine wpAny_Assign_Subscript (aH (hv pins s σ H _ I h) λr s1 ⟨v,H1,I1,rv,q1⟩=>aH (ho pins s1 σ H1 _ I1 q1) λu s2 ⟨x,H2,I2,rx,q2⟩=>aH (hi pins s2 σ H2 _ I2 q2) λiv s3 ⟨y,H3,I3,ry,a,H4,ex,g,q3⟩=>?_) hs;subst ex;obtain rfl:u=Value.ref a:=rx;exact Ck hu I3 g ry rv λs4 I4=>⟨σ,H4,I4,q3⟩
end
theorem EW{P:Program}{w:World}{H:Hp}(h:Heap)(hb:sysModules<h.objs.size):bD P w H (h.push {cls:=.type "dict",data:=.dict #[]}) h.objs.size (.dK []):=
 ⟨aaZ _,beq_eq_false_iff_ne.mpr (aaX (aaG hb)),[],.nil,afi h⟩
def vP:List (TE×TE)->St->Hp->(List (V×V)->Hp->Prop)->Prop
 |[],_,H,Q=>Q [] H
 |(tk,tv)::r,σ,H,Q=>tk σ H λx H1=>tv σ H1 λy H2=>vP r σ H2 λps H3=>Q ((x,y)::ps) H3
abbrev VV:List (V×V)->List (Value×Value)->Prop:=Paired λp q=>RelV p.1 q.1/\RelV p.2 q.2
def Hc(X:Cx)(pos:Pos)(keys:List (Option Expr))(values:List Expr)(trs:List (TE×TE)):Prop:=
 ∀(pins:List (Addr×Obj)) (s:Shared) (σ:St) (H:Hp) (Q:List (V×V)->Hp->Prop),Inv X pins σ H s->vP trs σ H Q ->
  wpAny (model X.prog X.w) X.A (evalPairs (pairTrees keys values X.env pos)) (λvs s'=>∃ps H',Inv X pins σ H' s'/\VV ps vs/\Q ps H') X.xe s
theorem Jn{X:Cx}{pos:Pos}:Hc X pos [] [] []:=λpins s σ H Q I h=>pairTrees_nil_walk ⟨[],H,I,.nil,h⟩
theorem EX{X:Cx}{pos:Pos}{k v:Expr}{ks:List (Option Expr)}{vs:List Expr}{tk tv:TE}{trs:List (TE×TE)}(hk:PE X k tk)(hv:PE X v tv)(hr:Hc X pos ks vs trs) :
  Hc X pos (some k::ks) (v::vs) ((tk,tv)::trs):=λpins s σ H Q I h=>
 pairTrees_cons_walk (aH (hk pins s σ H _ I h) λu s1 ⟨x,H1,I1,rx,q1⟩=>aH (hv pins s1 σ H1 _ I1 q1) λw2 s2 ⟨y,H2,I2,ry,q2⟩ =>aH (hr pins s2 σ H2 _ I2 q2) λws s3 ⟨ps,H3,I3,rel,q3⟩=>⟨(x,y)::ps,H3,I3,.cons ⟨rx,ry⟩ rel,q3⟩)
def lA(kvs more:List (Key×V)):List (Key×V):=more.foldl (λacc kv=>putK acc kv.1 kv.2) kvs
theorem KV.merge:∀{more:List (Key×V)} {rs:List (Key×Value)} {kvs:List (Key×V)} {vs:List (Key×Value)},KV more rs->KV kvs vs->KV (lA kvs more) (merged vs rs):=by
 intro more rs kvs vs r;unfold KV at r;induction r generalizing kvs vs with
 |nil=>intro q;exact q
 |@cons p q ps qs h t ih=>
  intro r0;have e:KV (putK kvs p.1 p.2) (stored vs q.1 q.2):=by
   have:=r0.put p.1 h.2
   rw[<-h.1];exact this
  exact ih e
theorem mX:∀(more kvs:List (Key×V)),(lA kvs more).length<=kvs.length+more.length
 |[],kvs=>by show kvs.length<=kvs.length+0;omega
 |p::r,kvs=>by
  have h1:=mX r (putK kvs p.1 p.2);have h2:=kH kvs p.1 p.2;show(lA (putK kvs p.1 p.2) r).length<=_
  rw[aa0];omega
theorem qC{P:Program}{w:World}:∀{kvs:List (Key×V)} {ws:List (Value×Value)},VV (kvs.map λkv=>(kV kv.1,kv.2)) ws->∃rs,Carries (bT P w) ws rs/\KV kvs rs
 |[],_,r=>by rw[adD] at r;cases r;exact⟨[],True.intro,.nil⟩
 |p::kvs,_,r=>by
  rw[aaQ] at r;cases r with
  |@cons a b as bs h t =>obtain⟨rs,c,q⟩:=qC (P:=P) (w:=w) t;obtain⟨b1,b2⟩:=b;exact⟨(p.1,b2)::rs,⟨oC h.1,rfl,c⟩,.cons ⟨rfl,h.2⟩ q⟩
def Pn(trs:List (TE×TE)):TE:=λσ H Q=>∀p,H p=none->vP trs σ (upd H p (.dK [])) λps H2=>H2 p=some (.dK [])/\∃kvs:List (Key×V),ps=kvs.map (λkv=>(kV kv.1,kv.2))/\kvs.length<=15/\Q (.ref p) (upd H2 p (.dK (lA [] kvs)))
theorem Jo{X:Cx}{pos:Pos}{keys:List (Option Expr)}{values:List Expr}{trs:List (TE×TE)}(h:Hc X pos keys values trs)(hall:keys.all (·.isSome)=true)(hl:keys.length=values.length)(h0:keys≠[])
  (h15:keys.length<=15):PE X (.Dict keys values pos) (Pn trs):=by
 intro pins s σ H Q I q;have hn:=I.aR.fresh (aal s.heap.objs.size);have I1:=I.laid (a:=s.heap.objs.size) (o:=.dK []) (h':=s.heap.push {cls:=.type "dict",data:=.dict #[]}) (t':=s.toks) (λ_ _ q=>aao _ q) (aal _) (EW s.heap I.big);refine wpAny_Dict_walk (knd:=bT X.prog X.w) hall hl h0 h15 (aH (h pins _ σ _ _ I1 (q _ hn)) λws s2 ⟨ps,H2,I2,rel,e,kvs,ep,lk,q2⟩=>?_);subst ep;obtain⟨rs,c,rk⟩:=qC (P:=X.prog) (w:=X.w) rel;obtain⟨z,hd,vs0,r0,dd⟩:=AF I2.aR e;cases r0;refine⟨rs,c,dd,λh' vO hs=>⟨.ref s.heap.objs.size,_,?_,rfl,q2⟩⟩;have hz:(lA [] kvs).length<=sizeLine:=by have h1:=mX kvs [];rw[acH] at h1;rw[ad0];omega
 have he:∃q,h'.get? s.heap.objs.size=some q:=let ⟨q,_,_,hq,_⟩:=vO;⟨q,hq⟩
 exact rO I2 (by rw[e];exact True.intro) hs he (Cj hz hd (rk.merge .nil) vO)
section
variable {κ:Type}[DecidableEq κ]
theorem lB:∀{l:List κ} {k:κ},l.Nodup->¬ k∈l->(l++[k]).Nodup
 |[],k,_,_=>by simp
 |a::r,k,h,hk=>by
  obtain⟨h1,h2⟩:=aa6.mp h;show(a::(r++[k])).Nodup
  refine aa6.mpr ⟨λm=>?_,lB h2 λm=>hk (aav.mpr (Or.inr m))⟩;rcases aaD.mp m with q|q
  ·exact h1 q
  ·exact hk (aav.mpr (Or.inl (aaA.mp q).symm))
end
section
variable {M:Model}{A:Around}{E:Value->Shared->Prop}{s:Shared}
def cS(env:Env):List (Str×NameKind)->List (Str×Addr)->List (Str×Addr)
 |[],acc=>acc
 |(n,k)::r,acc=>if (k==NameKind.free)=true then cS env r ((n,(env.cells.lookup n).getD 0)::acc) else cS env r acc
theorem nA{env:Env}(f:Str×NameKind->List (Str×Addr)->Sem (ForInStep (List (Str×Addr))))
  (hf:∀n k cs,f (n,k) cs=if (k==NameKind.free)=true then (do let a <-cellOf env n;pure (.yield ((n,a)::cs))) else pure (.yield cs)) :
  ∀(names:List (Str×NameKind)) (acc:List (Str×Addr)),(∀p∈names,p.2=.free->∃c,env.cells.lookup p.1=some c)->forIn names acc f=pure (cS env names acc)
 |[],acc,_=>by rw[adg];rfl
 |(n,k)::r,acc,h=>by
  have hr:∀p∈r,p.2=.free->∃c,env.cells.lookup p.1=some c:=λp hp=>h p (aaw _ hp);rw[adP,hf,cS];by_cases hk:(k==NameKind.free)=true
  ·obtain⟨c,hc⟩:=h (n,k) aau (by simpa using hk);have jG:env.cells.lookup n=some c:=hc;rw[if_pos hk,if_pos hk];have e:cellOf env n=pure c:=by unfold cellOf;rw[jG]
   rw[e,jG];exact nA f hf r _ hr
  ·rw[if_neg hk,if_neg hk];exact nA f hf r _ hr
theorem dR{sc:Scope}{env:Env}(h:∀p∈sc.names,p.2=.free->∃c,env.cells.lookup p.1=some c):closureFor sc env=pure (cS env sc.names []):=by unfold closureFor;have e:=nA (env:=env) (λ(x:Str×NameKind) (r:List (Str×Addr))=>if (x.2==NameKind.free)=true then (do let a <-cellOf env x.1;pure (ForInStep.yield ((x.1,a)::r))) else pure (ForInStep.yield r)) (λ_ _ _=>rfl) sc.names [] h;exact(congrArg (λm=>m>>=λcs=>pure cs) e)
theorem pN{env:Env}{x:Str}{c:Addr}:∀{names:List (Str×NameKind)} {acc:List (Str×Addr)},(x,c)∈cS env names acc->(x,c)∈acc\/((x,NameKind.free)∈names/\c=(env.cells.lookup x).getD 0)
 |[],_,h=>.inl h
 |(n,k)::r,acc,h=>by
  unfold cS at h;split at h
  ·rename_i hk
   have gS:k=.free:=by simpa using hk
   rcases pN h with q|⟨q,e⟩
   ·rcases aav.mp q with q|q
    ·cases q;exact .inr ⟨by rw[gS];exact aau,rfl⟩
    ·exact .inl q
   ·exact .inr ⟨aaw _ q,e⟩
  ·rcases pN h with q|⟨q,e⟩
   ·exact .inl q
   ·exact .inr ⟨aaw _ q,e⟩
theorem iA{β:Type}{x:Str}{c:β}:∀{l:List (Str×β)},(x,c)∈l->∃c',l.lookup x=some c'
 |[],h=>nomatch h
 |(n,k)::r,h=>by
  cases hx:x==n with
  |true=>exact⟨k,by simp[aba,hx]⟩
  |false=>
   rcases aav.mp h with q|q
   ·cases q;simp at hx
   ·obtain⟨c',e⟩:=iA q;exact⟨c',by simp[aba,hx,e]⟩
theorem mf{env:Env}{x:Str}:∀{names:List (Str×NameKind)} {acc:List (Str×Addr)},((x,NameKind.free)∈names\/∃c,(x,c)∈acc)->∃c,(x,c)∈cS env names acc
 |[],acc,h=>by
  rcases h with h|⟨c,h⟩
  ·exact nomatch h
  ·exact⟨c,h⟩
 |(n,k)::r,acc,h=>by
  unfold cS;split
  ·rename_i hk
   apply mf;rcases h with h|⟨c,h⟩
   ·rcases aav.mp h with q|q
    ·cases q;exact .inr ⟨_,aau⟩
    ·exact .inl q
   ·exact .inr ⟨c,aaw _ h⟩
  ·rename_i hk
   apply mf;rcases h with h|⟨c,h⟩
   ·rcases aav.mp h with q|q
    ·cases q;simp at hk
    ·exact .inl q
   ·exact .inr ⟨c,h⟩
theorem dI:∀(names:List (Str×NameKind)) (n:Nat) (acc:List (Str×Addr)),cellsFrom n names acc=cellsFrom n names []++acc
 |[],_,_=>rfl
 |(x,k)::r,n,acc=>by
  unfold cellsFrom;split
  ·rw[dI r (n+1) ((x,n)::acc),dI r (n+1) [(x,n)]];simp
  ·exact dI r n acc
theorem jo{x:Str}{c:Addr}:∀{names:List (Str×NameKind)} {n:Nat} {acc:List (Str×Addr)},(x,c)∈cellsFrom n names acc->(x,c)∈acc\/(x,NameKind.cell)∈names
 |[],_,_,h=>.inl h
 |(m,k)::r,n,acc,h=>by
  unfold cellsFrom at h;split at h
  ·rename_i hk
   have gS:k=.cell:=by simpa using hk
   rcases jo h with q|q
   ·rcases aav.mp q with q|q
    ·cases q;exact .inr (by rw[gS];exact aau)
    ·exact .inl q
   ·exact .inr (aaw _ q)
  ·rcases jo h with q|q
   ·exact .inl q
   ·exact .inr (aaw _ q)
theorem g5{x:Str}:∀{names:List (Str×NameKind)} {n:Nat} {acc:List (Str×Addr)},((x,NameKind.cell)∈names\/∃c,(x,c)∈acc)->∃c,(x,c)∈cellsFrom n names acc
 |[],n,acc,h=>by
  rcases h with h|⟨c,h⟩
  ·exact nomatch h
  ·exact⟨c,h⟩
 |(m,k)::r,n,acc,h=>by
  unfold cellsFrom;split
  ·apply g5;rcases h with h|⟨c,h⟩
   ·rcases aav.mp h with q|q
    ·cases q;exact .inr ⟨_,aau⟩
    ·exact .inl q
   ·exact .inr ⟨c,aaw _ h⟩
  ·rename_i hk
   apply g5;rcases h with h|⟨c,h⟩
   ·rcases aav.mp h with q|q
    ·cases q;simp at hk
    ·exact .inl q
   ·exact .inr ⟨c,h⟩
theorem mh{β:Type}{x:Str}:∀(l1 l2:List (Str×β)),(l1++l2).lookup x=(l1.lookup x).or (l2.lookup x)
 |[],_=>by simp
 |(n,k)::r,l2=>by
  cases hx:x==n with
  |true=>simp[aba,hx]
  |false=>simp[aba,hx,mh r l2]
theorem iX{scope:Scope}{globals:Addr}{cl:List (Str×Addr)}{qual:Str}{env:Env}{Q:Env->Shared->Prop}
  (hQ:Q {scope,locals:=s.heap.objs.size,globals,cells:=cellsFrom (s.heap.objs.size+1) scope.names cl,qual,func:=none,code:=env.code,frame:=env.frame,builtins:=env.builtins}
   {s with heap:=pushCells (s.heap.push {cls:=.type "dict",data:=.dict #[]}) scope.names}) :
  wpAny M A (newFunctionEnv scope globals cl [] qual none .none (some env)) Q E s:=by
 have z:(s.heap.push {cls:=.type "dict",data:=.dict #[]}).objs.size=s.heap.objs.size+1:=abk ..;show wpAny M A (alloc {cls:=.type "dict",data:=.dict #[]}>>=_) Q E s
 apply wpAny_bind;apply wpAny_alloc;apply wpAny_bind;refine wpAny_layCells _ (λ_ k _=>by by_cases y:k=NameKind.cell<;>simp[y]) _ _ _ _ ?_;dsimp only;rw[adg,z];exact wpAny_bind (wpAny_pure (wpAny_pure hQ))
theorem iR{env:Env}{x:Str}:∀(names:List (Str×NameKind)),
  (names.map λ(n,k)=>if (k==NameKind.free&&env.scope.kind==.function&&env.kindOf n==some .cell) then (n,NameKind.cell) else (n,k)).lookup x =
   (names.lookup x).map λk=>if (k==NameKind.free&&env.scope.kind==.function&&env.kindOf x==some .cell)=true then NameKind.cell else k
 |[]=>by simp
 |(n,k)::r=>by
  have ih:=iR (env:=env) (x:=x) r;cases hx:x==n with
  |true=>
   have e:x=n:=by simpa using hx
   subst e;rw[aaQ];dsimp only;by_cases hc:(k==NameKind.free&&env.scope.kind==.function&&env.kindOf x==some .cell)=true
   ·rw[if_pos hc,aba,aba,hx];dsimp only[ac5];rw[if_pos hc]
   ·rw[if_neg hc,aba,aba,hx];dsimp only[ac5];rw[if_neg hc]
  |false=>
   rw[aaQ];dsimp only;by_cases hc:(k==NameKind.free&&env.scope.kind==.function&&env.kindOf n==some .cell)=true
   ·rw[if_pos hc,aba,aba,hx];exact ih
   ·rw[if_neg hc,aba,aba,hx];exact ih
end
def cq(X:Cx)(own:List Str)(fr:List Nat)(scope:Scope)(s2:Shared)(H2:Hp)(fp:List Addr):Cx where
 prog:=X.prog
 w:=X.w
 K:=X.K
 mg:=X.mg
 base:=X.base
 A:=X.A
 N:=own++fr.map (λi=>X.N.getD i Str.empty)
 s₀:=s2
 H₀:=H2
 env:={scope:=relabel scope X.env,locals:=s2.heap.objs.size+1,globals:=X.env.globals,cells:=cellsFrom (s2.heap.objs.size+2) scope.names (cS X.env scope.names []),qual:=X.env.qual,func:=none,code:=X.env.code,frame:=X.env.frame,builtins:=X.env.builtins}
 outer:=X.stack
 stack:=X.stack
 ex:=fp
 fn:=λx=>scope.names.lookup x==some .cell
 calm:=X.calm
 pn:=[]
 xe:=λ_ _=>False
def dq(own:List Str)(fr:List Nat)(σ:St):St:=List.replicate own.length none++fr.map λi=>(σ[i]?).join
def Cn(osc:List (Str×NameKind))(N:List Str)(own:List Str)(fr:List Nat)(sc:Scope):Bool:=
 decide (sc.kind=.function)&&decide ((sc.names.map (·.1)).Nodup) &&
 sc.names.all (λy=>!(y.2==.free)||(osc.lookup y.1==some .cell||osc.lookup y.1==some .free)) &&
 fr.all (λi=>decide (i<N.length)&&(sc.names.lookup (N.getD i Str.empty)==some .free))
structure fk(X:Cx)(own:List Str)(fr:List Nat)(sc:Scope):Prop where
 kind:sc.kind=.function
 nd:(sc.names.map (·.1)).Nodup
 ug:∀y∈sc.names,y.2=.free->X.env.scope.names.lookup y.1=some .cell\/X.env.scope.names.lookup y.1=some .free
 WD:∀i∈fr,i<X.N.length
 WG:∀i∈fr,sc.names.lookup (X.N.getD i Str.empty)=some .free
theorem bq{X:Cx}{own:List Str}{fr:List Nat}{sc:Scope}{osc:List (Str×NameKind)}{N:List Str}(h1:X.env.scope.names=osc)(h2:X.N=N)(h:Cn osc N own fr sc=true):fk X own fr sc:=by
 unfold Cn at h;simp only[abh,abi,abE] at h;obtain⟨⟨⟨h3,h4⟩,h5⟩,h6⟩:=h;refine⟨h3,h4,λy hy hf=>?_,λi hi=>?_,λi hi=>?_⟩
 ·have:=h5 y hy
  rw[h1];simpa [hf] using this
 ·rw[h2];exact(h6 i hi).1
 ·rw[h2];simpa using(h6 i hi).2
theorem bW{x:Str}{k:NameKind}:∀{l:List (Str×NameKind)},(l.map (·.1)).Nodup->(x,k)∈l->l.lookup x=some k
 |[],_,h=>nomatch h
 |(n,q)::r,nd,h=>by
  rcases aav.mp h with e|e
  ·cases e;simp[aba]
  ·have nd':=aa6.mp nd;have yO:(x==n)=false:=by
    have:x≠n:=λz=>nd'.1 (by rw[<-z];exact aaN.mpr ⟨_,e,rfl⟩)
    simpa using this
   rw[aba,yO];exact bW nd'.2 e
section
variable {X:Cx}{pins:List (Addr×Obj)}{σ:St}{H:Hp}{s:Shared}{own:List Str}{fr:List Nat}{sc:Scope}{fp:List Addr}
abbrev hC(s:Shared)(sc:Scope)(h1:Heap):Heap:=pushCells (h1.push {cls:=.type "dict",data:=.dict #[]}) sc.names
theorem mi(I:Inv X pins σ H s)(S:fk X own fr sc)(hfp:∀b∈fp,d4 X pins H b){h1:Heap}(hz:h1.objs.size=s.heap.objs.size+1)(hk:∀b o,s.heap.get? b=some o->h1.get? b=some o)(hfl:∀b∈fp,@LT.lt Nat _ b s.heap.objs.size) :
  Inv (cq X own fr sc s H fp) [] (dq own fr σ) H {s with heap:=hC s sc h1}:=by
 have kk:∀b o,s.heap.get? b=some o->(hC s sc h1).get? b=some o:=λb o e=>pushCells_keeps _ _ b o (aao _ (hk b o e));have WH:(hC s sc h1).Ns (s.heap.objs.size+1) (λ_=>none):=by have q:=(Heap.Ns.new h1 (.type "dict")).keeps (pushCells_keeps sc.names _);rw[hz] at q;exact q
 have ok:=cellsFrom_ok sc.names (h1.push {cls:=.type "dict",data:=.dict #[]}) (s.heap.objs.size+2) [] ⟨λ_ _ hm=>(nomatch hm),List.Pairwise.nil⟩ (by rw[abk,hz];exact aal _);rw[abk,hz] at ok;have Po:∀y∈sc.names,y.2=.free->∃c,X.env.cells.lookup y.1=some c:=λy hy hf=>I.ok.has y.1 (by
  rcases S.ug y hy hf with q|q
  ·exact .inl q
  ·exact .inr q)
 have old:∀x c,(cS X.env sc.names []).lookup x=some c->X.env.cells.lookup x=some c/\(x,NameKind.free)∈sc.names:=λx c e=>by
  rcases pN (abb e) with q|⟨q,e2⟩
  ·exact nomatch q
  ·obtain⟨c',e3⟩:=Po _ q rfl;have QW:X.env.cells.lookup x=some c':=e3;rw[QW] at e2
   have:c=c':=e2
   subst this;exact⟨QW,q⟩
 have cs:∀x c,(cq X own fr sc s H fp).env.cells.lookup x=some c->((cellsFrom (s.heap.objs.size+2) sc.names []).lookup x=some c/\@LE.le Nat _ (s.heap.objs.size+2) c)\/(X.env.cells.lookup x=some c/\(x,NameKind.free)∈sc.names/\@LT.lt Nat _ c s.heap.objs.size):=λx c e=>by
  have e':(cellsFrom (s.heap.objs.size+2) sc.names (cS X.env sc.names [])).lookup x=some c:=e;rw[dI,mh] at e';cases q:(cellsFrom (s.heap.objs.size+2) sc.names []).lookup x with
  |some c'=>
   rw[q] at e'
   have:c'=c:=by simpa using e'
   subst this;exact .inl ⟨rfl,(ok.empty x c' (abb q)).2⟩
  |none =>rw[q] at e';obtain⟨e1,e2⟩:=old x c (by simpa using e');obtain⟨v,hv⟩:=I.cell x c e1;exact .inr ⟨e1,e2,hv.lt⟩
 have WJ:(cq X own fr sc s H fp).Ok:=by
  refine⟨I.ok.mod,S.kind,I.ok.glob,I.ok.blt,abu _,λx y c h1 h2=>?_,λx hx=>?_,λx c hf e=>?_,I.ok.hd,I.ok.frames,.inl rfl,λb hb=>⟨?_,λx c e=>?_⟩,λb o e=>I.bs b o e,aap I.ok.qo I.sz,λb o e hb=>?_,λb hb z=>?_,I.stack,I.yC⟩
  ·rcases cs x c h1 with⟨q1,g1⟩|⟨q1,_,g1⟩
   ·rcases cs y c h2 with⟨q2,g2⟩|⟨q2,_,g2⟩
    ·exact name_of_addr ok.apart (abb q1) (abb q2)
    ·omega
   ·rcases cs y c h2 with⟨q2,g2⟩|⟨q2,_,g2⟩
    ·omega
    ·exact I.ok.inj x y c q1 q2
  ·-- a cell or free name of WK block has its cell
   have hx':(relabel sc X.env).names.lookup x=some .cell\/(relabel sc X.env).names.lookup x=some .free:=hx;have hl:sc.names.lookup x=some .cell\/sc.names.lookup x=some .free:=by
    unfold relabel at hx';rw[iR] at hx';cases q:sc.names.lookup x with
    |none=>rw[q] at hx';simp at hx'
    |some k =>rw[q] at hx';cases k<;>simp at hx'⊢
   have hm:∃c,(x,c)∈cellsFrom (s.heap.objs.size+2) sc.names (cS X.env sc.names []):=by
    rcases hl with hl|hl
    ·exact g5 (.inl (abb hl))
    ·exact g5 (.inr (mf (.inl (abb hl))))
   obtain⟨c,hm⟩:=hm;exact iA hm
  ·have QX:sc.names.lookup x=some .cell:=by simpa using(show(sc.names.lookup x==some .cell)=true from hf)
   show @LE.le Nat _ s.heap.objs.size c
   rcases cs x c e with⟨_,g⟩|⟨_,q,_⟩
   ·omega
   ·rw[bW S.nd q] at QX;cases QX
  ·have:=hfl b hb
   show @Ne Nat b (s.heap.objs.size+1)
   omega
  ·intro z;subst z;rcases cs x c e with⟨_,g⟩|⟨q,_,_⟩
   ·have:=hfl c hb;omega
   ·exact(hfp c hb).2.2.2.2.1 x c q rfl
  ·rcases(hfp b hb).2.2.2.1 with z|z
   ·exact I.ok.vp b o e z
   ·have z1:@LT.lt Nat _ b X.base.objs.size:=aay e;have z2:X.base.objs.size<=X.s₀.heap.objs.size:=I.ok.qo;have z3:@LE.le Nat _ X.s₀.heap.objs.size b:=z;omega
  ·rcases aav.mp (I.fZ b z) with e|e
   ·exact(hfp b hb).2.1 e
   ·exact(hfp b hb).2.2.1 e
 refine⟨WJ,rfl,I.bare,Un.kept kk,⟨_,WH,λi x v h1 h2 h3=>?_⟩,λx c e=>?_,I.aR.fresh (abu _),λx c e=>?_,λp hp=>absurd (show p∈([]:List (Addr×Obj)) from hp) (by simp),I.aR.kept kk,?_⟩
 ·-- an outer name aae is read
  have hi:own.length<=i:=by
   by_cases hi:i<own.length
   ·exfalso;unfold dq at h2;rw[abf (by simpa using hi),abO] at h2;split at h2<;>cases h2
   ·omega
  have h1':(own++fr.map (λi=>X.N.getD i Str.empty))[i]?=some x:=h1;rw[abn hi,aaq] at h1';unfold dq at h2;rw[abn (by simpa using hi),aaq,abI] at h2;cases e:fr[i-own.length]? with
  |none=>rw[e] at h1';cases h1'
  |some k=>
   rw[e] at h1' h2;have QY:k∈fr:=aat e;have ex:X.N.getD k Str.empty=x:=by simpa using h1'
   have ev:(σ[k]?).join=some v:=by simpa using h2
   have WM:=S.WD k QY;have eN:X.N[k]?=some x:=by rw[<-ex];simp[List.getD,WM]
   have eσ:σ[k]?=some (some v):=by
    cases q:σ[k]? with
    |none=>rw[q] at ev;cases ev
    |some o=>rw[q] at ev;cases o with
     |none=>cases ev
     |some v'=>have:v'=v:=(by simpa using ev);subst this;rfl
   have Co:=S.WG k QY;rw[ex] at Co;have hmem:(x,NameKind.free)∈sc.names:=abb Co;have WN:=S.ug _ hmem rfl;have hkd':X.env.scope.names.lookup x=some .cell\/X.env.scope.names.lookup x=some .free:=WN;obtain⟨m,hn,hl⟩:=I.loc;obtain⟨u,r,l⟩:=hl k x v eN eσ (hkd'.elim (λz=>.inr (.inl z)) λz=>.inr (.inr z));refine⟨u,r,?_⟩;rcases l with⟨z,_⟩|⟨_,c,hc,lX⟩
   ·exfalso;have z':X.env.scope.names.lookup x=some .local:=z;rcases hkd' with q|q<;>(rw[q] at z';cases z')
   ·refine .inr ⟨?_,c,?_,lX.keeps kk⟩
    ·show(relabel sc X.env).names.lookup x=some .cell\/(relabel sc X.env).names.lookup x=some .free
     unfold relabel;rw[iR,Co];simp only[ac5];split
     ·exact .inl rfl
     ·exact .inr rfl
    ·show(cellsFrom (s.heap.objs.size+2) sc.names (cS X.env sc.names [])).lookup x=some c
     rw[dI,mh];have h0:(cellsFrom (s.heap.objs.size+2) sc.names []).lookup x=none:=by
      cases q:(cellsFrom (s.heap.objs.size+2) sc.names []).lookup x with
      |none=>rfl
      |some c'=>
       exfalso;rcases jo (abb q) with z|z
       ·exact nomatch z
       ·rw[bW S.nd z] at Co;cases Co
     rw[h0];obtain⟨c',Hd⟩:=mf (env:=X.env) (acc:=[]) (.inl hmem);obtain⟨c2,e2⟩:=iA Hd;obtain⟨e3,_⟩:=old x c2 e2;rw[hc] at e3;rw[e2];simpa using e3.symm
 ·rcases cs x c e with⟨q,_⟩|⟨q,_,_⟩
  ·exact⟨_,(ok.empty x c (abb q)).1⟩
  ·obtain⟨v,hv⟩:=I.cell x c q;exact⟨v,hv.keeps kk⟩
 ·rcases cs x c e with⟨_,g⟩|⟨q,_,_⟩
  ·exact I.aR.fresh (by omega)
  ·exact I.g0 x c q
 ·unfold dq;show _=(own++fr.map (λi=>X.N.getD i Str.empty)).length
  simp
theorem mj{own:List Str}{fr:List Nat}{sc:Scope}{fp:List Addr}{H1:Hp}{s1:Shared}{σ1:St}{Pp:List (Addr×Obj)}{h':Heap}{o:HO}{D:Addr}
  (I:Inv X pins σ H s) (hfp:∀b∈fp,d4 X pins H b) (I1:Inv (cq X own fr sc s H fp) Pp σ1 H1 s1) (hD:@LE.le Nat _ s.heap.objs.size D) (hDn:H1 D=none) (hDC:D≠s.heap.objs.size+1)
  (hs:Heap.SameBut (s.heap.objs.size+1) s1.heap h') (hO:bD X.prog X.w (upd H1 D o) h' D o) (tk:Nat):Inv X pins σ (upd H1 D o) {s1 with heap:=h',toks:=tk}:=by
 have u:=I1.base;have QZ:H1 (s.heap.objs.size+1)=none:=I1.free;have hDo:∀b ob,s.heap.get? b=some ob->b≠D:=λb ob e z=>by
  have:=aay e
  have z':@Eq Nat b D:=z;have q:@LT.lt Nat _ b s.heap.objs.size:=this;omega
 have hCo:∀b ob,s.heap.get? b=some ob->b≠s.heap.objs.size+1:=λb ob e z=>by have q:@LT.lt Nat _ b s.heap.objs.size:=aay e;have z':@Eq Nat b (s.heap.objs.size+1):=z;omega
 have Lu:H D=none:=I.aR.fresh hD;have cut:∀b ob,s.heap.get? b=some ob->∀oc,s1.heap.get? b=some oc->h'.get? b=some oc:=λb ob e oc q=>(hs.2 b (hCo b ob e)).trans q;refine Inv.u7 (ch:=fp) I (s':={s1 with heap:=h',toks:=tk}) I1.os ?_ ?_ I1.bare λb hb=>⟨(hfp b hb).2.2.2.1,(hfp b hb).2.1,(hfp b hb).2.2.2.2.1,(hfp b hb).2.2.2.2.2⟩
 ·refine⟨λb ob e n hb hx=>cut b ob e _ (u.keep b ob e n hb hx),λb ob e n hb hx=>?_,λb ob e n hx=>?_,λb ob e hx=>?_,λb xs e=>?_,λb ob xs e=>?_,λb ps e=>?_⟩
  ·obtain⟨sl,q⟩:=u.slot b ob e n hb hx;exact⟨sl,cut b ob e _ q⟩
  ·rw[aq (hDo b ob e)];exact u.free b ob e n hx
  ·obtain⟨o',q⟩:=u.there b ob e hx;exact⟨o',cut b ob e _ q⟩
  ·rw[aq (aw e Lu)];exact u.lS b xs e
  ·rw[aq (aw e Lu)];exact u.kD b ob xs e
  ·rw[aq (aw e Lu)];exact u.lU b ps e
 ·intro b ob e;by_cases hb:b=D
  ·subst hb;rw[af] at e;cases e;exact hO
  ·rw[aq hb] at e;refine(I1.aR b ob e).kC (λc q hc g=>?_) (λc q=>by rw[aq (aw q hDn)];exact q) λc xs q=>by rw[aq (aw q hDn)];exact q
   refine(hs.2 c ?_).trans g;rcases hc with z|z
   ·rw[z];exact aw e QZ
   ·exact aw z QZ
end
abbrev jw:Value->Shared->Prop:=λ_ _=>False
def Jp(env:Env)(c:Expr)(b:Bool):Sem (ForInStep Bool):=
 if b=true then (isTrue c env (eval c env)>>=λb'=>pure (.yield b')) else pure (.yield b)
def mr(env:Env)(cs:List Expr):Sem Bool:=forIn cs true (Jp env)
structure dU where
 add:Expr
 qD:Expr
 src:Expr
 cs:List Expr
 sc:Scope
 pos:Pos
namespace dU
variable (B:dU)
abbrev expr:Expr:=.ListComp B.add [⟨B.qD,B.src,B.cs,0⟩] B.sc B.pos
section
variable (prog:Program)(w:World)(A:Around)(env:Env)(it acc:Value)
abbrev Tame{α:Type}(e:Sem α)(Q:α->Shared->Prop)(s:Shared):Prop:=wpAny (model prog w) A e Q jw s
def EY(J:Shared->Prop):Bool->Shared->Prop
 |false,s=>J s
 |true,s=>Tame prog w A (eval B.add env) (λx=>Tame prog w A (call (.builtin "list.append") [acc,x]) λ_=>J) s
def AG(J:Shared->Prop)(v:Value):Shared->Prop:=
 Tame prog w A (letOwnedTupleGo B.qD it v) λ_=>Tame prog w A (assign B.qD env v) λ_=>Tame prog w A (mr env B.cs) (B.EY prog w A env acc J)
def AH(D J:Shared->Prop):Option Value->Shared->Prop
 |none=>D
 |some v=>B.AG prog w A env it acc J v
end
theorem loops{B:dU}{prog:Program}{w:World}{A:Around}{env:Env}{it acc:Value}{R:Result->Shared->Prop}(G:Nat->Shared->Prop)
  (turn:∀k t,G k t->Tame prog w A (pyNext it) (B.AH prog w A env it acc (R (.ok .next)) λu=>∃j,j<k/\G j u) t)
  {k:Nat} {t:Shared} (g:G k t):codeAny (model prog w) A (.compLoop B.expr 0 it acc env) R t:=by
 have one:∀k t,G k t->Tame prog w A (compTurn B.expr 0 it acc env) (λx t'=>match x with|.done r=>R (.ok r) t'|.again c=>c=.compLoop B.expr 0 it acc env/\∃j,j<k/\G j t') t:=by
  intro k t g;rw[show B.expr=.ListComp B.add [⟨B.qD,B.src,B.cs,0⟩] B.sc B.pos from rfl,compTurn_list];apply wpAny_bind;apply wpAny_standAt;apply wpAny_bind;refine aH (turn k t g) λx t1 h1=>?_;match x,h1 with
  |none,h1=>exact wpAny_pure h1
  |some v,h1=>
   apply wpAny_bind;refine aH h1 λ_ t2 h2=>?_;apply wpAny_bind;refine aH h2 λ_ t3 h3=>?_;apply wpAny_bind;refine aH h3 λb t4 h4=>?_;match b,h4 with
   |false,h4=>exact wpAny_pure ⟨rfl,h4⟩
   |true,h4 =>apply wpAny_bind;apply wpAny_bind;refine aH h4 λy t5 h5=>?_;apply wpAny_bind;refine aH h5 λ_ t6 h6=>?_;exact wpAny_pure (wpAny_pure ⟨rfl,h6⟩)
 exact ac6 rfl G (λk t g=>wpAny_noted (wpAny_mono (one k t g) (λ_ _ q=>q) λ_ _ f=>f.elim)) k g
end dU
def gc(X:Cx)(ifs:List Expr)(t:TT):Prop:=
 ∀(pins:List (Addr×Obj)) (s:Shared) (σ:St) (H:Hp) (Q:Bool->Hp->Prop),Inv X pins σ H s->t σ H Q ->
  wpAny (model X.prog X.w) X.A (mr X.env ifs) (TP X pins σ Q) X.xe s
def dB:TT:=λ_ H Q=>Q true H
theorem bK{X:Cx}:gc X [] dB:=λ_ _ _ H _ I h=>wpAny_tests_nil ⟨H,I,h⟩
theorem dA{X:Cx}{c:Expr}{t:TT}(h:PT X c t):gc X [c] t:=λpins s σ H Q I q=>wpAny_tests_one (h pins s σ H Q I q)
def GK(n:Nat)(g:TG):Prop:=∀v σ H Q,g v σ H Q->g v σ H λσ' H'=>Q σ' H'/\σ'.length=σ.length/\∀j,n<=j->σ'[j]?=σ[j]?
def Hf(n:Nat)(g:mW):Prop:=∀vs σ H Q,g vs σ H Q->g vs σ H λσ' H'=>Q σ' H'/\σ'.length=σ.length/\∀j,n<=j->σ'[j]?=σ[j]?
theorem bx{n i:Nat}(h:i<n):GK n (bh i):=λv σ H Q q=>⟨q,by simp,λj hj=>by rw[acf (by omega)]⟩
theorem yP{n:Nat}:Hf n m8:=λvs σ H Q q=>⟨q.1,q.2,rfl,λ_ _=>rfl⟩
theorem mw{n:Nat}{t:TG}{u:mW}(m:∀v σ H Q Q',(∀σ' H',Q σ' H'->Q' σ' H')->t v σ H Q->t v σ H Q')(mu:∀v σ H Q Q',(∀σ' H',Q σ' H'->Q' σ' H')->u v σ H Q->u v σ H Q')(h1:GK n t)(h2:Hf n u):Hf n (g4 t u):=λvs σ H Q ⟨v,r,e,q⟩ =>⟨v,r,e,m _ _ _ _ _ (λσ' H' ⟨q',l1,k1⟩=>mu _ _ _ _ _ (λσ2 H2 ⟨q2,l2,k2⟩=>⟨q2,l2.trans l1,λj hj=>(k2 j hj).trans (k1 j hj)⟩) (h2 _ _ _ _ q')) (h1 _ _ _ _ q)⟩
theorem Cp{K:PySem.W.Frag}{n k:Nat}{t:mW}(h:Hf n t):GK n (m9 K k t):=λv σ H Q ⟨a,xs,e,sq,l,q⟩=>⟨a,xs,e,sq,l,h _ _ _ _ q⟩
theorem g9{i:Nat}:∀v σ H Q Q',(∀σ' H',Q σ' H'->Q' σ' H')->bh i v σ H Q->bh i v σ H Q':=λ_ _ _ _ _ m q=>m _ _ q
theorem hG:∀v σ H Q Q',(∀σ' H',Q σ' H'->Q' σ' H')->m8 v σ H Q->m8 v σ H Q':=λ_ _ _ _ _ m q=>⟨q.1,m _ _ q.2⟩
theorem gD{t:TG}{u:mW}(m:∀v σ H Q Q',(∀σ' H',Q σ' H'->Q' σ' H')->t v σ H Q->t v σ H Q')(mu:∀v σ H Q Q',(∀σ' H',Q σ' H'->Q' σ' H')->u v σ H Q->u v σ H Q'):∀v σ H Q Q',(∀σ' H',Q σ' H'->Q' σ' H')->g4 t u v σ H Q->g4 t u v σ H Q':=
 λ_ _ _ _ _ mq ⟨v,r,e,q⟩=>⟨v,r,e,m _ _ _ _ _ (λ_ _ q'=>mu _ _ _ _ _ mq q') q⟩
theorem iB{K:PySem.W.Frag}{n k i j:Nat}(h1:i<n)(h2:j<n):GK n (m9 K k (g4 (bh i) (g4 (bh j) m8))):=
 Cp (mw g9 (gD g9 hG) (bx h1) (mw g9 hG (bx h2) yP))
def gT(own:List Str)(fr:List Nat)(g:TG)(tt:TT)(te:TE)(σ:St)(Q:VK)(J:It)(H1:Hp):Prop:=
 ∃W:Nat->Nat->List V->Hp->Prop,(∃m,W 0 m [] H1)/\∀i m ys H2,W i m ys H2->ys.length<=sizeLine /\
  ((J.stop i H2/\∀D,H2 D=none->Q (.ref D) (upd H2 D (.lst ys))) \/
  (J.go i H2/\∀x H3,J.oN i H2 x H3->g x (dq own fr σ) H3 λσ4 H4=>tt σ4 H4 λb H5=>if b=true then te σ4 H5 λy H6=>∃m',m'<m/\W (i+1) m' (ys++[y]) H6 else ∃m',m'<m/\W (i+1) m' ys H5))
def Hi(own:List Str)(fr:List Nat)(wi:TI)(g:TG)(tt:TT)(te:TE):TE:=λσ H Q=>wi σ H (gT own fr g tt te σ Q)
section
variable {X:Cx}{own:List Str}{fr:List Nat}{sc:Scope}{tg iter elt:Expr}{ifs:List Expr}{pos:Pos}{wi:TI}{g:TG}{tt:TT}{te:TE}
theorem yQ{pins:List (Addr×Obj)}{σ:St}{H2:Hp}{s2:Shared}{Q:VK}{it:Addr}{fp:List Addr}{tn:Nat->Heap->Prop}{J:It}{RR:Value->Addr->Result->Shared->Prop}{E:Value->Shared->Prop}(hc:X.calm=true)(S:fk X own fr sc)(gk:GK own.length g)
  (hg:∀s H fp,PG (cq X own fr sc s H fp) tg g) (ht:∀s H fp,gc (cq X own fr sc s H fp) ifs tt) (he:∀s H fp,PE (cq X own fr sc s H fp) elt te)
  (I2:Inv X pins σ H2 s2) (T:Turn X.prog X.w X.K tg J fp it tn) (st2:tn 0 s2.heap) (f2:∀b∈fp,d4 X pins H2 b) (L:gT own fr g tt te σ Q J H2)
  (hRR:∀D C s',(∃m,s'.heap.Ns C m)->@LE.le Nat _ s2.heap.objs.size C->(∃H',H' C=none/\Q (.ref D) H'/\∀h' tk,Heap.SameBut C s'.heap h'->Inv X pins σ H' {s' with heap:=h',toks:=tk})->RR (.ref D) C (.ok .next) s') :
  wpAny (model X.prog X.w) X.A (newList []) (λacc s₃=>wpAny (model X.prog X.w) X.A (newFunctionEnv sc X.env.globals (cS X.env sc.names []) [] X.env.qual none .none (some X.env)) (λjO s₄ =>codeAny (model X.prog X.w) X.A (.compStart (.ListComp elt [⟨tg,iter,ifs,0⟩] sc pos) 0 (.ref it) acc {jO with scope:=relabel sc X.env}) (RR acc jO.locals) s₄) E s₃) E s2:=by
 obtain⟨W,⟨m0,w0⟩,turn⟩:=L;refine wpAny_newObj_type (iX ?_);dsimp only;generalize dE:s2.heap.push {cls:=.type "list",dict:=none,data:=.seq ([]:List Value).toArray}=h1;have hz:h1.objs.size=s2.heap.objs.size+1:=by rw[<-dE,abk]
 have hk1:∀b o,s2.heap.get? b=some o->h1.get? b=some o:=λb o e=>by rw[<-dE];exact aao _ e
 have vQ:h1.get? s2.heap.objs.size=some {cls:=.type "list",data:=.seq ([]:List Value).toArray}:=by rw[<-dE];exact aaC _ rfl
 have hfl:∀b∈fp,@LT.lt Nat _ b s2.heap.objs.size:=λb hb=>by obtain⟨o,e,_⟩:=T.obj _ _ st2 b hb;exact aay e
 have I3:=mi I2 S f2 hz hk1 hfl;rw[hz];generalize hY:cq X own fr sc s2 H2 fp=Y at I3;have lC:(hC s2 sc h1).get? s2.heap.objs.size=some {cls:=.type "list",data:=.seq ([]:List Value).toArray}:=pushCells_keeps _ _ _ _ (aao _ vQ);have kc:tn 0 (hC s2 sc h1):=T.keep _ _ _ st2 λb _ o e=>pushCells_keeps _ _ _ _ (aao _ (hk1 b o e));have eP:Y.prog=X.prog:=by rw[<-hY];rfl
 have eW:Y.w=X.w:=by rw[<-hY];rfl
 have eK:Y.K=X.K:=by rw[<-hY];rfl
 have eA:Y.A=X.A:=by rw[<-hY];rfl
 have eX:Y.xe=jw:=by rw[<-hY];rfl
 have ecm:Y.calm=true:=by rw[<-hY];exact hc
 have pO:({scope:=relabel sc X.env,locals:=s2.heap.objs.size+1,globals:=X.env.globals,cells:=cellsFrom (s2.heap.objs.size+1+1) sc.names (cS X.env sc.names []),qual:=X.env.qual,func:=none,code:=X.env.code,frame:=X.env.frame,builtins:=X.env.builtins}:Env)=Y.env:=by rw[<-hY];rfl
 have eL:Y.env.locals=s2.heap.objs.size+1:=by rw[<-hY];rfl
 rw[pO];have qE:PG Y tg g:=hY▸hg s2 H2 fp;have vR:gc Y ifs tt:=hY▸ht s2 H2 fp;have qF:PE Y elt te:=hY▸he s2 H2 fp;have dfp:s2.heap.objs.size∉fp:=λz=>aa8 _ (hfl _ z);have dC:s2.heap.objs.size≠s2.heap.objs.size+1:=aaG (abg _);have my:∀x c,Y.env.cells.lookup x=some c->c≠s2.heap.objs.size:=λx c e z=>by obtain⟨v,o,q,d⟩:=I3.cell x c e;rw[z] at q;have q':=lC.symm.trans q;cases q';cases d
 have nB:s2.heap.objs.size∉Y.fs:=by
  rw[<-hY];intro z;rcases aav.mp (I2.fZ _ z) with e|e
  ·exact aa8 _ (by have:=I2.lt;rw[<-e] at this;exact this)
  ·exact I2.vt (aal _) e
 have i7:@LE.le Nat _ Y.s₀.heap.objs.size s2.heap.objs.size:=by rw[<-hY];exact aal _
 have fpY:∀{H':Hp} {pp:List (Addr×Obj)},(∀b∈fp,H' b=none)->(∀p∈pp,p.1∉fp)->∀b∈fp,d4 Y pp H' b:=λ{H' pp} hn hp b hb=>by
  refine⟨hn b hb,?_,?_,?_,?_,λp hq z=>?_⟩
  ·have:=hfl b hb;rw[eL];intro z;have z':@Eq Nat b (s2.heap.objs.size+1):=z;omega
  ·rw[<-hY];intro z;rcases aav.mp (I2.fZ _ z) with e|e
   ·exact(f2 b hb).2.1 e
   ·exact(f2 b hb).2.2.1 e
  ·exact .inl (by rw[<-hY];exact hb)
  ·exact(I3.ok.yB b (by rw[<-hY];exact hb)).2
  ·rcases aaD.mp hq with q|q
   ·have:p∈([]:List (Addr×Obj)):=by rw[<-hY] at q;exact q
    exact nomatch this
   ·exact hp p q (z▸hb)
 have mz:∀{H':Hp} {s':Shared} {σ':St} {ob:Obj},Inv Y [] σ' H' s'->H' s2.heap.objs.size=none->s'.heap.get? s2.heap.objs.size=some ob->(∀v,ob.data≠.cell v)->Inv Y [(s2.heap.objs.size,ob)] σ' H' s':=λ{H' s' σ' ob} J0 hn e d=>
  J0.cv λp hp=>by
   have:p=(s2.heap.objs.size,ob):=by simpa using hp
   subst this;exact⟨e,hn,by rw[eL];exact dC,nB,d⟩
 have jP:∀{ob:Obj} (p:Addr×Obj),p∈[(s2.heap.objs.size,ob)]->p.1∉fp:=λ{ob} p hp=>by
  have:p=(s2.heap.objs.size,ob):=by simpa using hp
  subst this;exact dfp
 have loop:codeAny (model X.prog X.w) X.A (.compLoop (.ListComp elt [⟨tg,iter,ifs,0⟩] sc pos) 0 (.ref it) (.ref s2.heap.objs.size) Y.env) (RR (.ref s2.heap.objs.size) (s2.heap.objs.size+1)) {s2 with heap:=hC s2 sc h1}:=by
  refine dU.loops (B:=⟨elt,tg,iter,ifs,sc,pos⟩) (λn s'=>∃i ys us k H',W i n ys H'/\Inv Y [] (dq own fr σ) H' s'/\tn i s'.heap/\(∀b∈fp,H' b=none)/\H' s2.heap.objs.size=none/\s'.heap.get? s2.heap.objs.size=some {cls:=.type "list",data:=.seq (List.toArray us) k}/\Vals ys us) ?_ (k:=m0)
   ⟨0,[],[],_,H2,w0,I3,kc,λb hb=>(f2 b hb).1,I2.aR.fresh (aal _),lC,.nil⟩
  rintro n s' ⟨i,ys,us,k,H',w',J0,fi,kf,hDn,hDo,rv⟩;obtain⟨qG,iC⟩:=turn i n ys H' w';have J1:=mz J0 hDn hDo (λv z=>nomatch z);rcases iC with⟨stop,fin⟩|⟨go,step⟩
  ·have d0:=T.done Y eP eW eK ecm i _ s' _ H' jw J1 (fpY kf jP) fi stop;rw[eA] at d0;refine wpAny_mono d0 (λr s4 ⟨hr,J4⟩=>?_) λ_ _ z=>z;subst hr;have pD:=(J4.pin (s2.heap.objs.size,_) (aan _ aau)).1;refine hRR _ _ s4 ?_ (abu _) ⟨upd H' s2.heap.objs.size (.lst ys),?_,fin _ hDn,λh' tk hs=>?_⟩
   ·obtain⟨m,hn,_⟩:=J4.loc;rw[eL] at hn;exact⟨m,hn⟩
   ·rw[aq (aaX dC),<-eL];exact J4.free
   ·subst hY;have hO:bD X.prog X.w (upd H' s2.heap.objs.size (.lst ys)) h' s2.heap.objs.size (.lst ys):=⟨qG,us,k,rv,(hs.2 _ dC).trans pD⟩
    exact mj I2 f2 J4 (aal _) hDn dC hs hO tk
  ·have d0:=T.item Y eP eW eK ecm i _ s' _ H' jw J1 (fpY kf jP) fi go;rw[eA] at d0;refine wpAny_mono d0 (λr s4 ⟨u,hr,h4⟩=>?_) λ_ _ z=>z;subst hr;refine wpAny_mono h4 (λ_ s5 ⟨x,H5,J5,r5,y5,st5,ng⟩=>?_) λ_ _ z=>z;have qH:=J5.pinned (fpY ng jP) (T.obj _ _ st5);have s1:=qE _ s5 _ H5 x u _ qH r5 (gk _ _ _ _ (step x H5 y5));rw[eP,eW,eA,eX] at s1;refine wpAny_mono s1 (λ_ s6 ⟨σ6,H6,J6,q6,nC⟩=>?_) λ_ _ z=>z;have i9:=vR _ s6 σ6 H6 _ J6 q6;rw[eP,eW,eA,eX] at i9;refine wpAny_mono i9 (λok s7 ⟨H7,J7,q7⟩=>?_) λ_ _ z=>z;have low:∀{H8:Hp} {s8:Shared},Inv Y ([(s2.heap.objs.size,({cls:=.type "list",data:=.seq (List.toArray us) k}:Obj))]++cV fp s5.heap) σ6 H8 s8 ->
     Inv Y (cV fp s5.heap) σ6 H8 s8/\H8 s2.heap.objs.size=none/\s8.heap.get? s2.heap.objs.size=some {cls:=.type "list",data:=.seq (List.toArray us) k}/\(∀b∈fp,H8 b=none)/\tn (i+1) s8.heap:=λ{H8 s8} J8=>by
    have p8:=J8.pin (s2.heap.objs.size,_) (aan _ (aaL _ aau));refine⟨J8.cv λp hp=>J8.pin p (aan _ (aan _ hp)),p8.2.1,p8.1,λb hb=>?_,T.keep _ _ _ st5 λb hb o e=>(J8.pin (b,o) (aan _ (aan _ (cG hb e)))).1⟩;obtain⟨o,e,d⟩:=T.obj _ _ st5 b hb;exact(J8.pin (b,o) (aan _ (aan _ (cG hb e)))).2.1
   have weak:∀{H8:Hp} {s8:Shared} {pp:List (Addr×Obj)},Inv Y pp σ6 H8 s8->Inv Y [] (dq own fr σ) H8 s8:=λ{H8 s8 pp} J8=>(J8.weak nC.1.symm (λj v e=>by
    by_cases hj:j<own.length
    ·exfalso;unfold dq at e;rw[abf (by simpa using hj),abO] at e;split at e<;>cases e
    ·rw[nC.2 j (adx.mp hj)];exact e)).cv λp hp=>nomatch hp
   cases ok with
   |false=>
    obtain⟨m',hm,w7⟩:=(show ∃m',m'<n/\W (i+1) m' ys H7 by simpa using q7)
    obtain⟨_,l1,l2,l3,l4⟩:=low J7;exact⟨m',hm,i+1,ys,us,k,H7,w7,weak J7,l4,l3,l1,l2,rv⟩
   |true=>
    have vS:te σ6 H7 λy H6=>∃m',m'<n/\W (i+1) m' (ys++[y]) H6:=by simpa using q7
    have s3:=qF _ s7 σ6 H7 _ J7 vS;rw[eP,eW,eA,eX] at s3;show wpAny _ _ _ _ _ _
    refine wpAny_mono s3 (λxv s8 ⟨y,H8,J8,r8,m',hm,w8⟩=>?_) λ_ _ z=>z;obtain⟨Lv,l1,l2,l3,l4⟩:=low J8;refine append_at (hsz:=by rw[aas,<-rv.length];exact qG) l2 λh' hs' Cq=>?_;have J9:Inv Y [] (dq own fr σ) H8 {s8 with heap:=h' }:=by
     refine(weak Lv).turned (t':=s8.toks) (it:=s2.heap.objs.size) (λb o hb e=>(hs'.2 b hb).trans e) l1 (by rw[eL];exact dC) (.inr i7) my λp hp=>?_
     have:p∈([]:List (Addr×Obj)):=by rw[<-hY] at hp;exact hp
     exact nomatch this
    refine⟨m',hm,i+1,ys++[y],us++[xv],k+1,H8,w8,J9,?_,l3,l1,?_,rv.append (.cons r8 .nil)⟩
    ·exact T.keep _ _ _ l4 λb hb o e=>(hs'.2 b (λz=>dfp (z▸hb))).trans e
    ·rw[Cq];simp
 exact ad5 loop (T.self X.A 0 _ _ _ kc loop)
theorem cZ(own:List Str)(fr:List Nat)(hc:X.calm=true)(S:fk X own fr sc)(gk:GK own.length g)(hi:PI X tg iter wi)
  (hg:∀s H fp,PG (cq X own fr sc s H fp) tg g) (ht:∀s H fp,gc (cq X own fr sc s H fp) ifs tt) (he:∀s H fp,PE (cq X own fr sc s H fp) elt te)
  (hs:∀x,foldedSetIterable iter X.env x=pure x:=by intro _;rfl):PE X (.ListComp elt [⟨tg,iter,ifs,0⟩] sc pos) (Hi own fr wi g tt te):=by
 intro pins s σ H Q I h;rw[afw];have iD:closureFor sc X.env=pure (cS X.env sc.names []):=dR λy hy hf=>I.ok.has y.1 (by
  rcases S.ug y hy hf with q|q
  ·exact .inl q
  ·exact .inr q)
 refine wpAny_comprehension_free (use:=none) rfl hs iD S.kind (λy hy hl=>bW S.nd (by rw[<-hl];exact hy)) ?_;refine aH (hi pins s σ H _ I h) λv s1 h1=>aH h1 λitv s2 h2=>?_;obtain⟨it,fp,tn,J,H2,e,I2,T,st2,f2,L⟩:=h2;subst e;exact yQ hc S gk hg ht he I2 T st2 f2 L λD C s' ⟨m,hn⟩ _ ⟨H',_,q,hi⟩=>⟨m,hn,λh' hs'=>⟨.ref D,H',hi h' s'.toks hs',rfl,q⟩⟩
end
theorem qI{X:Cx}{pins:List (Addr×Obj)}{σ:St}{H2:Hp}{s2 s':Shared}{i:Nat}{x:Str}{pos':Pos}{D:Addr}{C:Addr}{R:St->Hp->Prop}{E:Value->Shared->Prop}(I2:Inv X pins σ H2 s2)(hN:X.N.Nodup)(hi:X.N[i]?=some x)(hx:X.env.scope.names.lookup x=some .local)
  (ns:∃m,s'.heap.Ns C m) (le:@LE.le Nat _ s2.heap.objs.size C) (h:∃H',H' C=none/\R (σ.set i (some (.ref D))) H'/\∀h' tk,Heap.SameBut C s'.heap h'->Inv X pins σ H' {s' with heap:=h',toks:=tk}) :
  wpAny (model X.prog X.w) X.A (assign (.Name x pos') X.env (.ref D)) (λ_ vH=>∃m,vH.heap.Ns C m/\∀h',Heap.SameBut C vH.heap h'->∃σ1 H1,Inv X pins σ1 H1 {vH with heap:=h' }/\R σ1 H1) E s':=by
 obtain⟨H',hC,q,hv⟩:=h;have I':Inv X pins σ H' s':=hv s'.heap s'.toks (adq _ _);have lt:∀{b:Addr} {o:Obj},s2.heap.get? b=some o->b≠C:=λ{b o} e z=>by have l1:@LT.lt Nat _ b s2.heap.objs.size:=aay e;have z':@Eq Nat b C:=z;omega
 have Q0:X.env.locals≠C:=by obtain⟨m,⟨o,_,_,e,_⟩,_⟩:=I2.loc;exact lt e
 have lX:∀y c,X.env.cells.lookup y=some c->c≠C:=λy c e=>by obtain⟨v,o,e1,_⟩:=I2.cell y c e;exact lt e1
 refine aeM (tO I' hN hi (.inl hx) (show RelV (.ref D) (.ref D) from rfl) (λs3 I3 ⟨a,hs,ha⟩=>?_) (.inr hx));have aC:a≠C:=by
  rcases ha with e|e
  ·rw[e];exact Q0
  ·exact lX _ _ e
 obtain⟨m,hn⟩:=ns;refine⟨m,hn.sameBut hs (aaX aC),λh' hs'=>⟨_,H',?_,q⟩⟩;refine I3.turned (t':=s3.toks) (it:=C) (λb o hb e=>(hs'.2 b hb).trans e) hC (aaX Q0) (.inr ?_) lX λp hp=>?_
 ·have:=I2.sz
  exact aap this le
 ·exact lt (I2.pin p hp).1
theorem hJ{X:Cx}{sc:Scope}{tg iter elt:Expr}{ifs:List Expr}{pos vT pos':Pos}{wi:TI}{g:TG}{tt:TT}{te:TE}{i:Nat}{x:Str}(own:List Str)(fr:List Nat)(hN:X.N.Nodup)(hix:X.N[i]?=some x)(hx:X.env.scope.names.lookup x=some .local)(hc:X.calm=true)(S:fk X own fr sc)(gk:GK own.length g)(hi:PI X tg iter wi)
  (hg:∀s H fp,PG (cq X own fr sc s H fp) tg g) (ht:∀s H fp,gc (cq X own fr sc s H fp) ifs tt) (he:∀s H fp,PE (cq X own fr sc s H fp) elt te)
  (hsw:swapsWith (.ListComp elt [⟨tg,iter,ifs,0⟩] sc pos) (some (.Name x pos')) vT.line X.env=pure true:=by rfl)
  (hs:∀x,foldedSetIterable iter X.env x=pure x:=by intro _;rfl):PS X (.Assign [.Name x pos'] (.ListComp elt [⟨tg,iter,ifs,0⟩] sc pos) vT) (vB (Hi own fr wi g tt te) (bh i)):=by
 intro pins s σ H D I h;rw[ad' _ _ _ _ hsw];apply wpAny_bind;apply wpAny_standAt;apply wpAny_bind;show wpAny _ _ (comprehension (.ListComp elt [⟨tg,iter,ifs,0⟩] sc pos) sc X.env _ (newList []) false (eval iter X.env) (some (assign (.Name x pos') X.env))>>=_) _ _ s
 apply wpAny_bind;have iD:closureFor sc X.env=pure (cS X.env sc.names []):=dR λy hy hf=>I.ok.has y.1 (by
  rcases S.ug y hy hf with q|q
  ·exact .inl q
  ·exact .inr q)
 refine wpAny_mono (wpAny_comprehension_free (use:=some (assign (.Name x pos') X.env)) (Q:=λ_ s'=>SP X pins D .next s') rfl hs iD S.kind (λy hy hl=>bW S.nd (by rw[<-hl];exact hy)) ?_) (λ_ s' q=>wpAny_pure (wpAny_pure q)) λ_ _ z=>z;refine aH (hi pins s σ H _ I h) λv s1 h1=>aH h1 λitv s2 h2=>?_;obtain⟨it,fp,tn,J,H2,e,I2,T,st2,f2,L⟩:=h2;subst e;exact yQ hc S gk hg ht he I2 T st2 f2 L λD0 C s' ns le h=>qI (R:=D.nx) I2 hN hix hx ns le h
def Lw(x:Str):It:=⟨λi _=>i<x.cps.size,λi H v H'=>H'=H/\∃c,x.cps[i]?=some c/\v=.str ⟨#[c]⟩,λi _=>i=x.cps.size⟩
theorem Lx{M:Model}{A:Around}{E:Value->Shared->Prop}{s:Shared}{tg:Expr}{it:Addr}{x:Str}{t:Tok}{Q:Unit->Shared->Prop}(hQ:Q () s):wpAny M A (letOwnedTupleGo tg (.ref it) (.str x t)) Q E s:=by unfold letOwnedTupleGo;cases tg<;>exact wpAny_pure hQ
theorem EZ{P:Program}{w:World}{K:PySem.W.Frag}{tg:Expr}{it:Addr}{x:Str}{t:Tok}{ty:String}(W:∀A:Around,A.handled=none->Walks P w A it [it] [it] x.cps.size (SignAt x) (λi h=>h.IsStrIter it ty x t i))
  (hself:∀(A:Around) (i:Nat) (s:Shared) (Q:Value->Shared->Prop) (E:Value->Shared->Prop),s.heap.IsStrIter it ty x t i->Q (.ref it) s->wpAny (model P w) A (pyIter (.ref it)) Q E s) :
  Turn P w K tg (Lw x) [it] it (λi h=>h.IsStrIter it ty x t i) where
 mem:=by simp
 obj:=λi h st b hb=>by
  have e:b=it:=by simpa using hb
  subst e;obtain⟨o,e,c,d⟩:=st;exact⟨o,e,λv z=>by rw[d] at z;cases z⟩
 keep:=λi h h' st k=>by obtain⟨o,e,r⟩:=st;exact⟨o,k it (by simp) o e,r⟩
 item:=by intro X hP hw hK hc i pins s σ H E I hf st hg;subst hP hw hK;obtain⟨f0,f1,f2,f3,f4,f5⟩:=hf it (by simp);refine(W X.A (I.ok.hd hc)).item i s _ _ hg st λv h' tk hv fi kk=>?_;obtain⟨c,u,hx,rfl⟩:=hv;have I1:Inv X pins σ H {s with heap:=h',toks:=tk}:=I.turned (λb o hb e=>kk b o (by simpa using hb) e) f0 f1 f3 f4 f5;exact⟨_,rfl,Lx ⟨.str ⟨#[c]⟩,H,I1,⟨u,rfl⟩,⟨rfl,c,hx,rfl⟩,fi,λb hb=>(hf b hb).1⟩⟩
 done:=by intro X hP hw hK hc i pins s σ H E I hf st hg;subst hP hw hK;obtain⟨f0,f1,f2,f3,f4,f5⟩:=hf it (by simp);have qE:i=x.cps.size:=hg;subst qE;exact(W X.A (I.ok.hd hc)).done s _ _ st λh' tk kk=>⟨rfl,I.turned (λb o hb e=>kk b o (by simpa using hb) e) f0 f1 f3 f4 f5⟩
 self:=hself
section
variable {X:Cx}{tg:Expr}
def Uv(tl:TE):TI:=λσ H R=>tl σ H λx H1=>∃z,x=.str z/\R (Lw z) H1
theorem Ly{l:Expr}{tl:TE}(hl:PE X l tl):PI X tg l (Uv tl):=by
 intro pins s σ H R I h;refine aH (hl pins s σ H _ I h) λv s1 ⟨x,H1,I1,r1,q1⟩=>?_;obtain⟨z,rfl,q⟩:=q1;obtain⟨t,rfl⟩:=r1;have fin:∀ty:String,(∀A:Around,A.handled=none->Walks X.prog X.w A s1.heap.objs.size [s1.heap.objs.size] [s1.heap.objs.size] z.cps.size (SignAt z) (λi h=>h.IsStrIter s1.heap.objs.size ty z t i)) ->
   (∀(A:Around) (i:Nat) (s:Shared) (Q:Value->Shared->Prop) (E:Value->Shared->Prop),s.heap.IsStrIter s1.heap.objs.size ty z t i->Q (.ref s1.heap.objs.size) s->wpAny (model X.prog X.w) A (pyIter (.ref s1.heap.objs.size)) Q E s) ->
   K' X pins σ tg R (.ref s1.heap.objs.size) {s1 with heap:=s1.heap.push {cls:=.type ty,data:=.fields #[.str z t,.int 0 0]} }:=λty W hself=>by
  refine⟨s1.heap.objs.size,[s1.heap.objs.size],_,_,H1,rfl,I1.kept (t':=s1.toks) λb o e=>aao _ e,EZ W hself,⟨_,aaC _ rfl,rfl,rfl⟩,λb hb=>?_,q⟩;have e:b=s1.heap.objs.size:=by simpa using hb
  subst e;exact I1.rM (aal _) (I1.aR.fresh (aal _))
 cases ha:z.cps.all (· < 128)
 ·exact wpAny_pyIter_wide ha (fin _ (λA hA=>Walks.strWide hA _ z t) λA i s Q E st q=>wpAny_pyIter_striter_wide st q)
 ·exact wpAny_pyIter_ascii ha (fin _ (λA hA=>Walks.strAscii hA _ z t) λA i s Q E st q=>wpAny_pyIter_striter_ascii st q)
theorem kI:∀{bs:List Bool} {us:List Value} {i:Nat} {u:Value},Vals (bs.map V.bl) us->us[i]?=some u->∃b,bs[i]?=some b/\u=.bool b
 |[],_,i,u,.nil,e=>by simp at e
 |b::bs,_,0,u,.cons r _,e=>by simp at e;subst e;exact⟨b,rfl,r⟩
 |b::bs,_,i+1,u,.cons _ t,e=>by obtain⟨b',h1,h2⟩:=kI (i:=i) (u:=u) t (by simpa using e);exact⟨b',by simpa using h1,h2⟩
theorem range_all(bs:List Bool):((List.range bs.length).all λi=>bs.getD i false)=bs.all id:=by
 induction bs with
 |nil=>rfl
 |cons b bs ih=>
  rw[aa0,acQ,acA,acj,acA];have e:((λi=>(b::bs).getD i false)∘Nat.succ)=λi=>bs.getD i false:=by funext i;simp
  rw[e,ih];simp
theorem range_any(bs:List Bool):((List.range bs.length).any λi=>bs.getD i false)=bs.any id:=by
 induction bs with
 |nil=>rfl
 |cons b bs ih=>
  rw[aa0,acQ,ab9,ac7,ab9];have e:((λi=>(b::bs).getD i false)∘Nat.succ)=λi=>bs.getD i false:=by funext i;simp
  rw[e,ih];simp
theorem gg(hc:X.calm=true):dj X (.builtin "all") (λxs H Q=>∃(p:Addr) (bs:List Bool),xs=[.ref p]/\aj X.K H p (bs.map V.bl)/\Q (.bl (bs.all id)) H):=by
 rintro pins s σ H xs us Q I r ⟨p,bs,rfl,hq,q⟩;obtain⟨u,rfl,rx⟩:=vals1 r;cases rx;obtain⟨its,rv,pl,hz⟩:=I.list hq;have hlt:p<s.heap.objs.size:=by obtain⟨o,n,e,_⟩:=pl;exact aay e
 have hlen:its.length=bs.length:=by rw[<-rv.length,aak]
 refine call_all_walk (wpAny_pyIter_list pl.isList ?_);refine⟨s.heap.objs.size,_,_,its.toArray.size,_,_,λi=>bs.getD i false,rfl,ael (A:=X.A.in1) (I.ok.hd hc) s.heap.objs.size p (aaG hlt) its.toArray,⟨⟨_,aaC _ rfl,rfl,rfl⟩,pl.isList.push _⟩,λi v s' Q' E' hP hQ=>?_,λh' tk hk=>?_⟩
 ·obtain⟨b,h1,rfl⟩:=kI rv (by simpa using hP);refine wpAny_truthy_bool ?_;have e:bs.getD i false=b:=by rw[List.getD,h1];rfl
  rw[<-e];exact hQ
 ·rw[aas,hlen,range_all];refine⟨.bl _,H,?_,rfl,q⟩;have J:Inv X pins σ H {s with heap:=h',toks:=tk}:=I.kept λb o e=>hk b o (λz=>absurd (aay e) (by rw[aaA.mp z];exact aa8 _)) (aao _ e);exact J
theorem vU(hc:X.calm=true):dj X (.builtin "any") (λxs H Q=>∃(p:Addr) (bs:List Bool),xs=[.ref p]/\aj X.K H p (bs.map V.bl)/\Q (.bl (bs.any id)) H):=by
 rintro pins s σ H xs us Q I r ⟨p,bs,rfl,hq,q⟩;obtain⟨u,rfl,rx⟩:=vals1 r;cases rx;obtain⟨its,rv,pl,hz⟩:=I.list hq;have hlt:p<s.heap.objs.size:=by obtain⟨o,n,e,_⟩:=pl;exact aay e
 have hlen:its.length=bs.length:=by rw[<-rv.length,aak]
 refine call_any_walk (wpAny_pyIter_list pl.isList ?_);refine⟨s.heap.objs.size,_,_,its.toArray.size,_,_,λi=>bs.getD i false,rfl,ael (A:=X.A.in1) (I.ok.hd hc) s.heap.objs.size p (aaG hlt) its.toArray,⟨⟨_,aaC _ rfl,rfl,rfl⟩,pl.isList.push _⟩,λi v s' Q' E' hP hQ=>?_,λh' tk hk=>?_⟩
 ·obtain⟨b,h1,rfl⟩:=kI rv (by simpa using hP);refine wpAny_truthy_bool ?_;have e:bs.getD i false=b:=by rw[List.getD,h1];rfl
  rw[<-e];exact hQ
 ·rw[aas,hlen,range_any];refine⟨.bl _,H,?_,rfl,q⟩;have J:Inv X pins σ H {s with heap:=h',toks:=tk}:=I.kept λb o e=>hk b o (λz=>absurd (aay e) (by rw[aaA.mp z];exact aa8 _)) (aao _ e);exact J
theorem bQ{T:String}:dj X (.builtin "isinstance") (λxs H Q=>∃x t b,xs=[x,.ty T]/\dz X.K H x t/\PySem.W.kitOne X.K t (.type T)=some b/\Q (.bl b) H):=by rintro pins s σ H xs us Q I r ⟨x,t,b,rfl,ty,e,q⟩;obtain⟨u,v,rfl,ru,rv⟩:=vals2 r;cases rv;exact B3 I ru ty e λtk=>⟨.bl b,H,I.tok _,rfl,q⟩
theorem hZ:∀{ys:List Str} {us:List Value},Vals (ys.map V.str) us->StrsAre us ys
 |[],_,.nil=>.nil
 |y::ys,_,.cons r t=>by obtain⟨k,rfl⟩:=(show ∃k,_=Value.str y k from r);exact .cons y k (hZ t)
theorem Jq:Lk X "str.join" (λx vs H Q=>∃(sep:Str) (p:Addr) (ys:List Str),x=.str sep/\vs=[.ref p]/\aj X.K H p (ys.map V.str)/\(ys.map (·.length)).sum+ys.length*sep.length<=16777216/\Q (.str (Txt.join sep ys)) H):=by rintro pins s σ H x xs v us Q I rx r ⟨sep,p,ys,rfl,rfl,hq,hl,q⟩;obtain⟨u,rfl,ru⟩:=vals1 r;cases ru;obtain⟨t,rfl⟩:=rx;obtain⟨its,rv,pl,hz⟩:=I.list hq;exact join_list pl.isList (by simpa using hZ rv) hl λt' k=>⟨.str _,H,I.tok _,⟨t',rfl⟩,q⟩
theorem uh:cL X (compareOp .LtE) (λx y H Q=>∃i j,x=.str i/\y=.str j/\Q (.bl (!decide (j.cps.toList<i.cps.toList))) H):=by rintro pins s σ H x y v u Q I rx ry ⟨i,j,rfl,rfl,q⟩;obtain⟨t,rfl⟩:=rx;obtain⟨t',rfl⟩:=ry;exact PySem.P.le_str ⟨.bl _,H,I,rfl,by simpa using q⟩
end
theorem E1{own:List Str}{fr:List Nat}{g:TG}{tt:TT}{te:TE}{σ:St}{Q:VK}{lo:Int}{n:Nat}{H:Hp}(Pv:Nat->List V->Hp->Prop)(h0:Pv 0 [] H)(hlen:∀i ys H,i<=n->Pv i ys H->ys.length<=sizeLine)
  (hs:∀i ys H (R:List V->Hp->Prop),i<n->Pv i ys H->(∀fq H',Pv (i+1) fq H'->R fq H')->g (.int (lo+i)) (dq own fr σ) H λσ4 H4=>tt σ4 H4 λb H5=>if b=true then te σ4 H5 λy H6=>R (ys++[y]) H6 else R ys H5)
  (hd:∀ys H,Pv n ys H->∀D,H D=none->Q (.ref D) (upd H D (.lst ys))):gT own fr g tt te σ Q (tQ lo n) H:=by
 refine⟨λi m ys H=>m=n-i/\i<=n/\Pv i ys H,⟨n,rfl,aaZ _,h0⟩,?_⟩;rintro i m ys H2 ⟨rfl,hi,p⟩;refine⟨hlen i ys H2 hi p,?_⟩;by_cases h:i<n
 ·refine .inr ⟨h,λx H3 hy=>?_⟩;obtain⟨rfl,rfl⟩:=hy;exact hs i ys _ (λfq H'=>∃m',m'<n-i/\(m'=n-(i+1)/\i+1<=n/\Pv (i+1) fq H')) h p λfq H' q=>⟨n-(i+1),by omega,rfl,h,q⟩
 ·have e:i=n:=by omega
  subst e;exact .inl ⟨aal _,hd ys H2 p⟩
theorem cA{K:PySem.W.Frag}{a:Addr}{xs:List V}{own:List Str}{fr:List Nat}{g:TG}{tt:TT}{te:TE}{σ:St}{Q:VK}{H:Hp}(Pv:Nat->List V->Hp->Prop)(h0:Pv 0 [] H)(hlen:∀i ys H,i<=xs.length->Pv i ys H->ys.length<=sizeLine)
  (hl:∀i ys H,i<=xs.length->Pv i ys H->aj K H a xs)
  (hs:∀i x ys H (R:List V->Hp->Prop),xs[i]?=some x->Pv i ys H->(∀fq H',Pv (i+1) fq H'->R fq H')->g x (dq own fr σ) H λσ4 H4=>tt σ4 H4 λb H5=>if b=true then te σ4 H5 λy H6=>R (ys++[y]) H6 else R ys H5)
  (hd:∀ys H,Pv xs.length ys H->∀D,H D=none->Q (.ref D) (upd H D (.lst ys))):gT own fr g tt te σ Q (oO K a) H:=by
 refine⟨λi m ys H=>m=xs.length-i/\i<=xs.length/\Pv i ys H,⟨xs.length,rfl,aaZ _,h0⟩,?_⟩;rintro i m ys H2 ⟨rfl,hi,p⟩;refine⟨hlen i ys H2 hi p,?_⟩;have q:=hl i ys H2 hi p;by_cases h:i<xs.length
 ·refine .inr ⟨⟨xs,xs[i],q,by simp[h]⟩,λx H3 hy=>?_⟩;obtain⟨rfl,hy⟩:=hy;exact hs i x ys _ (λfq H'=>∃m',m'<xs.length-i/\(m'=xs.length-(i+1)/\i+1<=xs.length/\Pv (i+1) fq H')) (hy xs q) p λfq H' q=>⟨xs.length-(i+1),by omega,rfl,h,q⟩
 ·have e:i=xs.length:=by omega
  subst e;exact .inl ⟨⟨xs,q,aal _⟩,hd ys H2 p⟩
theorem vV{K:PySem.W.Frag}{a:Addr}{xs:List V}{own:List Str}{fr:List Nat}{g:TG}{tt:TT}{te:TE}{σ:St}{Q:VK}{H:Hp}(Pv:Nat->List V->Hp->Prop)(h0:Pv 0 [] H)(hlen:∀i ys H,i<=xs.length->Pv i ys H->ys.length<=sizeLine)
  (hl:∀i ys H,i<=xs.length->Pv i ys H->aL K H a xs)
  (hs:∀i x ys H (R:List V->Hp->Prop),xs[i]?=some x->Pv i ys H->(∀fq H',Pv (i+1) fq H'->R fq H')->g x (dq own fr σ) H λσ4 H4=>tt σ4 H4 λb H5=>if b=true then te σ4 H5 λy H6=>R (ys++[y]) H6 else R ys H5)
  (hd:∀ys H,Pv xs.length ys H->∀D,H D=none->Q (.ref D) (upd H D (.lst ys))):gT own fr g tt te σ Q (G6 K a) H:=by
 refine⟨λi m ys H=>m=xs.length-i/\i<=xs.length/\Pv i ys H,⟨xs.length,rfl,aaZ _,h0⟩,?_⟩;rintro i m ys H2 ⟨rfl,hi,p⟩;refine⟨hlen i ys H2 hi p,?_⟩;have q:=hl i ys H2 hi p;by_cases h:i<xs.length
 ·refine .inr ⟨⟨xs,xs[i],q,by simp[h]⟩,λx H3 hy=>?_⟩;obtain⟨rfl,hy⟩:=hy;exact hs i x ys _ (λfq H'=>∃m',m'<xs.length-i/\(m'=xs.length-(i+1)/\i+1<=xs.length/\Pv (i+1) fq H')) (hy xs q) p λfq H' q=>⟨xs.length-(i+1),by omega,rfl,h,q⟩
 ·have e:i=xs.length:=by omega
  subst e;exact .inl ⟨⟨xs,q,aal _⟩,hd ys H2 p⟩
def gN(σ:List Str)(z:Str):List Str:=if z∈σ then σ else z::σ
def dist(zs:List Str):List Str:=zs.foldl gN []
theorem mB{σ:List Str}{z k:Str}:k∈gN σ z ↔ k∈σ\/k=z:=by
 unfold gN;split
 ·exact⟨.inl,λh=>h.elim id λe=>by rw[e];assumption⟩
 ·rw[aav];exact or_comm
theorem mC(σ:List Str)(z:Str):(gN σ z).length=if z∈σ then σ.length else σ.length+1:=by unfold gN;split<;>simp
theorem nE(zs:List Str)(z:Str):dist (zs++[z])=gN (dist zs) z:=by simp[dist,ads]
theorem yR:∀(zs σ:List Str),(zs.foldl gN σ).length<=σ.length+zs.length
 |[],σ=>by simp
 |z::zs,σ=>by have h:=yR zs (gN σ z);rw[mC] at h;simp only[abV,aa0];split at h<;>omega
theorem rQ(zs:List Str):(dist zs).length<=zs.length:=by have h:=yR zs [];rw[acH,ab4] at h;exact h
theorem yS:∀(zs σ:List Str),zs.Nodup->(∀z∈zs,z∉σ)->(zs.foldl gN σ).length=σ.length+zs.length
 |[],σ,_,_=>by simp
 |z::zs,σ,nd,h=>by
  rw[aa6] at nd;simp only[abV,aa0];rw[yS zs (gN σ z) nd.2 λy hy q=>?_,mC,if_neg (h z aau)]
  ·omega
  ·rcases mB.mp q with q|q
   ·exact h y (aaw _ hy) q
   ·exact nd.1 (q▸hy)
theorem Jr{zs:List Str}(nd:zs.Nodup):(dist zs).length=zs.length:=by have h:=yS zs [] nd λ_ _ h=>nomatch h;rw[acH,ab4] at h;exact h
theorem rR:∀{its:List Value} {zs:List Str} {i:Nat} {v:Value},StrsAre its zs->its[i]?=some v->∃z t,zs[i]?=some z/\v=.str z t:=by
 intro its zs i v h;induction h generalizing i with
 |nil=>intro e;simp at e
 |cons z t _ ih=>
  intro e;cases i with
  |zero=>simp at e;exact⟨z,t,rfl,e.symm⟩
  |succ i=>exact ih (by simpa using e)
theorem gj:∀{its:List Value} {zs:List Str},StrsAre its zs->its.length=zs.length:=by
 intro its zs h;induction h with
 |nil=>rfl
 |cons z t _ ih=>simp[ih]
theorem rS:∀{its:List Value} {zs:List Str},StrsAre its zs->Vals (zs.map V.str) its:=by
 intro its zs h;induction h with
 |nil=>exact .nil
 |cons z t _ ih=>exact .cons ⟨t,rfl⟩ ih
section
variable {prog:Program}{w:World}{A:Around}{I S:Addr}{fp wr:List Addr}{G:Array GenState->Array GenState->Prop}{P:Nat->Value->Prop}{St:Nat->Shared->Prop}{zs:List Str}{R:Result->Shared->Prop}
abbrev gU(prog:Program)(w:World)(h:Heap)(S:Addr)(zs:List Str):Prop:=h.SetOf (strKind prog w) S (λk=>decide (k∈dist zs)) (dist zs).length
theorem gU.keep{h h':Heap}(x:gU prog w h S zs)(k:∀o,h.get? S=some o->h'.get? S=some o):gU prog w h' S zs:=by obtain⟨o,es,ep,t,ho,r⟩:=x;exact⟨o,es,ep,t,k o ho,r⟩
theorem gU.more{h:Heap}{z:Str}(x:h.SetOf (strKind prog w) S (λk=>decide (k∈dist zs)||decide (k=z)) (if decide (z∈dist zs)=true then (dist zs).length else (dist zs).length+1)):gU prog w h S (zs++[z]):=by
 have e1:(λk=>decide (k∈dist (zs++[z])))=λk=>decide (k∈dist zs)||decide (k=z):=by funext k;rw[nE,abH];simp[mB]
 have e2:(dist (zs++[z])).length=if decide (z∈dist zs)=true then (dist zs).length else (dist zs).length+1:=by rw[nE,mC];simp
 unfold gU;rw[e1,e2];exact x
theorem vW(W:WalksS prog w A.in1 I fp wr G zs.length P St)(off:S∉fp)(hz:∀i v,P i v->∃z t,zs[i]?=some z/\v=.str z t)(small:zs.length+1<scanBound) :
  ∀(left i:Nat) (s:Shared),i+left=zs.length->St i s->gU prog w s.heap S (zs.take i) ->
   (∀s',Moved (S::wr) G s s'->gU prog w s'.heap S zs->R (.ok (.ret .none)) s')->codeAny (model prog w) A (.builtin "set.update.loop" ⟨[.ref S,.ref I],[]⟩) R s
 |0,i,s,hi,st,x,k=>by have e:zs.take i=zs:=aaF (by omega);rw[show i=zs.length by omega] at st;refine codeAny_builtin acn ?_;rw[abM abP _];apply wpAny_bind;refine W.done s _ _ st λs' m=>?_;exact wpAny_pure (k s' (m.mono λb hb=>aaw _ hb) (by rw[e] at x;exact x.keep λo ho=>m.heap S o (λhs=>off (W.sub _ hs)) ho))
 |left+1,i,s,hi,st,x,k=>by
  refine codeAny_builtin acn ?_;rw[abM abP _];apply wpAny_bind;refine W.item i s _ _ (by omega) st λv s1 p Lz m=>?_;obtain⟨z,t,ez,rfl⟩:=hz i v p;have x1:=x.keep λo ho=>m.heap S o (λhs=>off (W.sub _ hs)) ho;have et:zs.take (i+1)=zs.take i++[z]:=by rw[aaI,ez];rfl
  have yes:(strKind prog w).is z (.str z t)=true:=by show Value.isStrOf z (.str z t)=true;simp[Value.isStrOf]
  show wpAny _ A.in1 (holding [Value.str z t] (setAdd S (.str z t))>>=_) _ _ s1
  apply wpAny_bind;apply wpAny_holding;show wpAny _ A.in1 (holding _ _) _ _ _
  apply wpAny_holding;apply wpAny_bind;refine(strKind prog w).pyHash yes ?_;have aJ:=rQ (zs.take i);rw[aaR] at aJ;refine wpAny_setAddHashed_of (knd:=strKind prog w) (s:={s1 with toks:=s1.toks+1}) yes rfl x1 (by omega) λh2 sb x2=>?_;refine wpAny_pure ⟨acB abP _,vW W off hz small left (i+1) _ (by omega) ?_ (by rw[et];exact gU.more x2) λs3 m3 x3=>?_⟩
  ·exact W.frame _ s1 _ _ Lz (abu _) λb hb o e=>(sb.2 b λz'=>off (z'▸hb)).trans e
  ·refine k s3 (afZ W.gtrans ((m.mono λb hb=>aaw _ hb).then_heap (abu _) λb o hb e=>?_) m3) x3;exact(sb.2 b λz'=>hb (by rw[z'];exact aau)).trans e
end
section
variable {prog:Program}{w:World}{A:Around}{E:Value->Shared->Prop}{s:Shared}
theorem rT{T newId Cr:String}{args:List Value}{Q:Value->Shared->Prop}(ft:TypeCalled T newId Cr)(hc:checkTypeCall T ⟨args,[]⟩=pure ())
  (h:codeAny (model prog w) A.in1 (.call (.builtin newId) ⟨.type T::args,[]⟩) (wants (λx t=>t.TypeIs x T/\codeAny (model prog w) A.in1 (.call (.builtin Cr) ⟨x::args,[]⟩) (wants (λr t'=>r=.none/\Q x t') E) t) E) s) :
  wpAny (model prog w) A (call (.type T) args) Q E s:=by
 have q1:=ft.made;have q2:=ft.sub;have q3:=ft.notType;have q4:=ft.canCreate;have q5:=ft.init.lookup;obtain⟨_,_,q6⟩:=ft.mro;apply aek;apply ac8;show wpAny _ _ (callAny (.type T) _) _ _ _
 apply wpAny_pure;refine⟨Code.quiet_builtin _ (by decide +kernel),codeAny_builtin PySem.F.entry_type_call ?_⟩;rw[Around.under_plain (weight_type_call_type T args []) rfl];repeat (any_goals (first|wp_step|assumption))
 apply codeAny_mono h;rintro(e|f) t k
 ·exact k
 cases f<;>first|exact k.elim|skip
 rename_i x
 have q7:=ft.init.bind x;obtain⟨ty,k⟩:=k;repeat (any_goals (first|wp_step|assumption))
 apply codeAny_mono k;rintro(e|f) t' k'
 ·exact k'
 cases f<;>first|exact k'.elim|skip
 obtain⟨z,k'⟩:=k';cases z;repeat (any_goals (first|wp_step|assumption))
theorem Cs{l:Addr}{its:List Value}{zs:List Str}{Q:Value->Shared->Prop}(hh:A.handled=none)(hl:s.heap.IsList l its.toArray)(hz:StrsAre its zs)(small:zs.length+1<scanBound)
  (h:∀(h':Heap) (tk:Nat),gU prog w h' s.heap.objs.size zs->(∀b o,s.heap.get? b=some o->h'.get? b=some o)->Q (.ref s.heap.objs.size) {s with heap:=h',toks:=tk}) :
  wpAny (model prog w) A (call (.type "set") [.ref l]) Q E s:=by
 refine rT ab5 (acR _) (code_set_new_1 (.ref l) λled=>?_);generalize dE:s.heap.push {cls:=.type "set",dict:=none,data:=.set #[] 0 (.fresh 0 0 led)}=h1;have kp:∀b o,s.heap.get? b=some o->h1.get? b=some o:=λb o e=>by rw[<-dE];exact aao _ e
 have sz:h1.objs.size=s.heap.objs.size+1:=by rw[<-dE];exact abk ..
 have new:h1.get? s.heap.objs.size=some {cls:=.type "set",dict:=none,data:=.set #[] 0 (.fresh 0 0 led)}:=by rw[<-dE];exact aaC _ rfl
 have ty:({s with heap:=h1}:Shared).TypeIs (.ref s.heap.objs.size) "set" := ⟨_,new,rfl⟩
 refine⟨ty,ac9 ab5.init.plain acS (check_set_init_1 ty ?_)⟩;have el:its.length=zs.length:=gj hz;obtain⟨⟨c,d,dt,sl⟩,ho,rfl,n,rfl⟩:=hl;have jx:=kp _ _ ho;have lt:@LT.lt Nat _ l s.heap.objs.size:=aay ho;have il:h1.IsList l its.toArray:=⟨_,jx,rfl,n,rfl⟩
 have n1:=aem;have n2:=adl;have n3:(Value.type "list"==Value.type "dict")=false:=by decide
 unfold Builtin.«set.__init__» noKeywords Builtin.Frozenset.updateFrom;generalize pi:pyIter=it;wp_walk
 subst pi;apply wpAny_pyIter_list il;apply wpAny_bind;apply wpAny_runValue;have W:=(ael (prog:=prog) (w:=w) (A:=A.in1.in1.in1) (by simpa using hh) h1.objs.size l (by rw[sz];exact aaG (abx lt)) its.toArray).toS;have e0:its.toArray.size=zs.length:=by rw[aas];exact el
 rw[e0] at W;refine vW (zs:=zs) W ?_ (λi v p=>?_) small zs.length 0 _ (ab4 _) ⟨⟨_,aaC _ rfl,rfl,rfl⟩,il.push _⟩ ?_ λt m x=>?_
 ·rw[sz];intro q;rcases aav.mp q with q|q
  ·exact absurd q (aaG (abg _))
  ·exact absurd (aaA.mp q) (ac3 lt)
 ·have p':its[i]?=some v:=by simpa using p
  exact rR hz p'
 ·exact(setObjOf_fresh (knd:=strKind prog w) led).setOf (aao _ new) (by decide)
 ·obtain⟨h2,g2,d2,t2,o2⟩:=t;cases (show g2=s.gens from m.gens);cases (show d2=s.drawn from m.drawn);cases (show o2=s.os from m.os);apply wpAny_pure;refine wpAny_pure ⟨rfl,h h2 t2 x λb o e=>m.heap b o ?_ (aao _ (kp b o e))⟩;have lb:@LT.lt Nat _ b s.heap.objs.size:=aay e;rw[sz];intro q;rcases aav.mp q with q|q
  ·exact absurd q (aaG lb)
  ·exact absurd (aaA.mp q) (aaG (abx lb))
end
theorem bD.there{P:Program}{w:World}{H:Hp}{h:Heap}{a:Addr}{o:HO}(x:bD P w H h a o):∃u,h.get? a=some u:=by
 cases o with
 |lst xs=>obtain⟨_,_,_,_,e⟩:=x;exact⟨_,e⟩
 |tup xs=>obtain⟨_,_,_,o,e,_⟩:=x;exact⟨_,e⟩
 |dK kvs=>obtain⟨_,_,_,_,o,_,_,e,_⟩:=x;exact⟨_,e⟩
 |dT kvs=>obtain⟨_,_,_,_,o,_,_,e,_⟩:=x;exact⟨_,e⟩
 |set S n=>obtain⟨o,_,_,_,e,_⟩:=x;exact⟨_,e⟩
 |ins C dx fs=>obtain⟨_,_,_,e,_⟩:=x;exact⟨_,e⟩
 |own y=>exact x
 |xd fs=>obtain⟨_,⟨_,_,_,e,_⟩,_⟩:=x;exact⟨_,e⟩
 |GU lo hi=>obtain⟨_,_,_,e⟩:=x;exact⟨_,e⟩
 |i3 ob u=>obtain⟨e,_⟩:=x;exact⟨_,e⟩
 |tN ps=>exact⟨_,(show h.get? a=some _ from x)⟩
 |met f y=>exact⟨_,(show h.get? a=some _ from x)⟩
 |ext φ=>obtain⟨_,e,_⟩:=x;exact e
section
variable {CX:jJ}{P:Program}{w:World}{K:PySem.W.Frag}{mg:Str->Option Value}{base:Heap}{N:List Str}{qual:Str}{scope:Scope}{f:Addr}{cdv:Value}{A:Around}{outer:List Env}{s s1 s2:Shared}{H H1 H2:Hp}{E:XK}
 {pins:List (Addr×Obj)} {σ:St} {a:Addr} {cls a0:Value} {B h':Heap}
end
def iN(a b:Str):Bool:=decide (a.cps.toList<=b.cps.toList)
theorem gE{a b:Str}:iN a b=true ↔ a.cps.toList<=b.cps.toList:=by simp[iN]
theorem ui{a b c:Str}(h:iN a b=true)(k:iN b c=true):iN a c=true:=gE.mpr (List.le_trans (gE.mp h) (gE.mp k))
theorem E2{a b:Str}(h:iN a b=true)(k:iN b a=true):a=b:=by have e:=ae8 (gE.mp h) (gE.mp k);cases a;cases b;simp only[afU];exact adF.mp e
theorem Ct(a b:Str):(iN a b||iN b a)=true:=by
 rcases List.le_total a.cps.toList b.cps.toList with h|h
 ·simp[gE.mpr h]
 ·simp[gE.mpr h]
def aF(zs:List Str):List Str:=zs.mergeSort iN
theorem fe(zs:List Str):(aF zs).Perm zs:=List.mergeSort_perm _ _
theorem lD(zs:List Str):(aF zs).Pairwise λa b=>iN a b=true:=List.pairwise_mergeSort (le:=iN) (λ_ _ _ h k=>ui h k) Ct zs
theorem uj:∀(l:List Str) (p:Str),risingS p l=true->(p::l).Pairwise λa b=>iN a b=true
 |[],p,_=>by simp
 |x::r,p,h=>by
  have h':(!ltCps x.cps.toList p.cps.toList&&risingS x r)=true:=h;rw[abh] at h';have ih:=uj r x h'.2;have px:iN p x=true:=by
   have:=h'.1
   rw[ltCps_eq] at this;refine gE.mpr ?_;intro q;rw[decide_eq_true q] at this;cases this
  refine acp.mpr ⟨λy hy=>?_,ih⟩;rcases aav.mp hy with rfl|hy
  ·exact px
  ·exact ui px ((acp.mp ih).1 y hy)
theorem uk:∀(l:List Str),sortedS l=true->l.Pairwise λa b=>iN a b=true
 |[],_=>.nil
 |x::r,h=>uj r x h
theorem yT:∀{l m:List Str},l.Perm m->(l.Pairwise λa b=>iN a b=true)->(m.Pairwise λa b=>iN a b=true)->l=m
 |[],m,p,_,_=>(List.nil_perm.mp p).symm
 |x::l,[],p,_,_=>absurd p (by simp)
 |x::l,y::m,p,a,b=>by
  have a':=acp.mp a;have b':=acp.mp b;have e:x=y:=by
   rcases aav.mp (p.mem_iff.mp aau) with q|q
   ·exact q
   rcases aav.mp (p.mem_iff.mpr aau) with q'|q'
   ·exact q'.symm
   ·exact E2 (a'.1 y q') (b'.1 x q)
  subst e;rw[yT ((List.perm_cons _).mp p) a'.2 b'.2]
theorem ja{zs ss:List Str}(p:ss.Perm zs)(h:ss.Pairwise λa b=>iN a b=true):ss=aF zs:=yT (p.trans (fe zs).symm) h (lD zs)
theorem cC(zs:List Str):(aF zs).length=zs.length:=(fe zs).length_eq
section
variable {X:Cx}
theorem kg:dj X (.builtin "sorted") (λxs H Q=>∃(p:Addr) (zs:List Str),xs=[.ref p]/\aj X.K H p (zs.map V.str)/\zs.length<64/\∀l,H l=none->Q (.ref l) (upd H l (.lst ((aF zs).map V.str)))):=by
 rintro pins s σ H xs us Q I r ⟨p,zs,rfl,hq,aJ,q⟩;obtain⟨u,rfl,rx⟩:=vals1 r;cases rx;obtain⟨its,rv,pl,hz⟩:=I.list hq;have el:=gj (hZ rv);refine sorted_strs pl.isList (hZ rv) (by omega) λout ss a1 a2 a3=>?_;have e:=ja a2 (uk ss a3);subst e;obtain⟨n,hn⟩:=sortedAll_at s.heap its out;have lb:((aF zs).map V.str).length<=sizeLine:=by rw[aak,cC];exact aap (abe aJ) (by decide)
 refine⟨.ref (s.heap.objs.size+1),_,I.laid (t':=s.toks) (o:=.lst ((aF zs).map V.str)) (λb o e=>sortedAll_old e) (abu _) ?_,rfl,q _ (I.aR.fresh (abu _))⟩;exact⟨lb,out.toList,n,rS a1,by rw[hn]⟩
end
def Al(K:PySem.W.Frag)(H:Hp):Nat->V->V->Prop
 |0,x,y=>dk x=true/\x=y
 |n+1,x,y=>(dk x=true/\x=y)\/∃p q xs ys,x=.ref p/\y=.ref q/\((aj K H p xs/\aj K H q ys)\/(aL K H p xs/\aL K H q ys))/\xs.length=ys.length/\∀(i:Nat) a b,xs[i]?=some a->ys[i]?=some b->Al K H n a b
def lE(K:PySem.W.Frag)(H:Hp)(n:Nat)(x y:V):Prop:=
 ∃p q xs ys,x=.ref p/\y=.ref q/\((aj K H p xs/\aj K H q ys)\/(aL K H p xs/\aL K H q ys))/\xs.length=ys.length/\∀(i:Nat) a b,xs[i]?=some a->ys[i]?=some b->Al K H n a b
theorem lE.al{K:PySem.W.Frag}{H:Hp}{n:Nat}{x y:V}(h:lE K H n x y):Al K H (n+1) x y:=.inr h
theorem Al.txt{K:PySem.W.Frag}{H:Hp}{n:Nat}{z:Str}:Al K H n (.str z) (.str z):=by
 cases n
 ·exact⟨rfl,rfl⟩
 ·exact .inl ⟨rfl,rfl⟩
theorem vX{x:V}(h:dk x=true):g8 x x=true:=by cases x<;>first|(exact absurd h aaK)|simp[g8]
theorem all_range(n:Nat):(List.range n).all (λ_=>true)=true:=by simp
section
variable {X:Cx}{pins:List (Addr×Obj)}{σ:St}{H:Hp}{s:Shared}
theorem Pq(I:Inv X pins σ H s):∀(n:Nat) (x y:V) (u v:Value) (A:Around),Al X.K H n x y->RelV x u->RelV y v->A.units+n<cLine->SeqAt.EqAt A s u v true:=by
 intro n;induction n with
 |zero =>rintro x y u v A ⟨f,rfl⟩ ru rv _;have h:=qz (A:=A) (s:=s) ru rv f f;rw[vX f] at h;exact h
 |succ n ih=>
  rintro x y u v A h ru rv hu;rcases h with⟨f,rfl⟩|⟨p,q,xs,ys,rfl,rfl,h,el,k⟩
  ·have h:=qz (A:=A) (s:=s) ru rv f f;rw[vX f] at h;exact h
  ·cases ru;cases rv;by_cases Q1:p=q
   ·subst Q1;exact adO _
   refine aeE Q1 ?_;have low:A.in1.units+n<cLine:=by rw[afs];omega
   have item:∀{is js:List Value},Vals xs is->Vals ys js->∀j (h1:j<is.toArray.size) (h2:j<js.toArray.size),SeqAt.EqAt A.in1 s is.toArray[j] js.toArray[j] true:=λ{is js} ri rj j h1 h2=>by
    have b1:j<xs.length:=by rw[ri.length];simpa using h1
    have b2:j<ys.length:=by rw[rj.length];simpa using h2
    obtain⟨u',e1,r1⟩:=ri.get (aam b1);obtain⟨v',e2,r2⟩:=rj.get (aam b2);have c1:is.toArray[j]=u':=by
     rw[abW]
     have:=aam (l:=is) (i:=j) (by simpa using h1)
     rw[this] at e1;exact aaS e1
    have c2:js.toArray[j]=v':=by
     rw[abW]
     have:=aam (l:=js) (i:=j) (by simpa using h2)
     rw[this] at e2;exact aaS e2
    rw[c1,c2];exact ih _ _ _ _ _ (k j _ _ (aam b1) (aam b2)) r1 r2 low
   rcases h with⟨hp,hq⟩|⟨hp,hq⟩
   ·obtain⟨is,ri,pi,_⟩:=I.list hp;obtain⟨js,rj,pj,_⟩:=I.list hq;have z:=agk (A:=A) (e:=λ_=>true) pi.isList pj.isList (by simp only[aas];rw[<-ri.length,<-rj.length];exact el) (by omega) (item ri rj);rw[all_range] at z;exact z
   ·obtain⟨is,ri,pi,_⟩:=I.tuple hp;obtain⟨js,rj,pj,_⟩:=I.tuple hq;have z:=aeR (A:=A) (e:=λ_=>true) pi pj (by omega) (item ri rj);have e:(is.toArray.size==js.toArray.size)=true:=by simp only[aas,beq_iff_eq];rw[<-ri.length,<-rj.length];exact el
    rw[all_range,e] at z;exact z
theorem kh(I:Inv X pins σ H s){n:Nat}{xs ys:List V}{A:Around}(low:A.in1.units+n<cLine)(k:∀(i:Nat) a b,xs[i]?=some a->ys[i]?=some b->Al X.K H n a b){is js:List Value}(ri:Vals xs is)(rj:Vals ys js) :
  ∀j (h1:j<is.toArray.size) (h2:j<js.toArray.size),SeqAt.EqAt A.in1 s is.toArray[j] js.toArray[j] true:=λj h1 h2=>by
 have b1:j<xs.length:=by rw[ri.length];simpa using h1
 have b2:j<ys.length:=by rw[rj.length];simpa using h2
 obtain⟨u',e1,r1⟩:=ri.get (aam b1);obtain⟨v',e2,r2⟩:=rj.get (aam b2);have c1:is.toArray[j]=u':=by
  rw[abW]
  have:=aam (l:=is) (i:=j) (by simpa using h1)
  rw[this] at e1;exact aaS e1
 have c2:js.toArray[j]=v':=by
  rw[abW]
  have:=aam (l:=js) (i:=j) (by simpa using h2)
  rw[this] at e2;exact aaS e2
 rw[c1,c2];exact Pq I n _ _ _ _ _ (k j _ _ (aam b1) (aam b2)) r1 r2 low
end
section
variable {X:Cx}
theorem ff(n:Nat)(hu:X.A.units+n+1<cLine):cL X (compareOp .Eq) (λx y H Q=>lE X.K H n x y/\Q (.bl true) H):=by
 rintro pins s σ H x y v u Q I rx ry ⟨⟨p,q,xs,ys,rfl,rfl,h,el,k⟩,fin⟩;cases rx;cases ry;have low:X.A.in1.units+n<cLine:=by rw[afs];omega
 rcases h with⟨hp,hq⟩|⟨hp,hq⟩
 ·obtain⟨is,ri,pi,_⟩:=I.list hp;obtain⟨js,rj,pj,_⟩:=I.list hq;refine afj (e:=λ_=>true) pi.isList pj.isList (by simp only[aas];rw[<-ri.length,<-rj.length];exact el) (by omega) (kh I low k ri rj) ?_;exact aY I fin (all_range _).symm
 ·obtain⟨is,ri,pi,_⟩:=I.tuple hp;obtain⟨js,rj,pj,_⟩:=I.tuple hq;refine ae9 (e:=λ_=>true) pi pj (by omega) (kh I low k ri rj) ?_;have e:(is.toArray.size==js.toArray.size)=true:=by simp only[aas,beq_iff_eq];rw[<-ri.length,<-rj.length];exact el
  refine aY I fin ?_;rw[all_range,e];rfl
theorem pP(n:Nat)(hu:X.A.units+n+1<cLine):cL X (compareOp .NotEq) (λx y H Q=>lE X.K H n x y/\Q (.bl false) H):=by
 rintro pins s σ H x y v u Q I rx ry ⟨⟨p,q,xs,ys,rfl,rfl,h,el,k⟩,fin⟩;cases rx;cases ry;have low:X.A.in1.units+n<cLine:=by rw[afs];omega
 rcases h with⟨hp,hq⟩|⟨hp,hq⟩
 ·obtain⟨is,ri,pi,_⟩:=I.list hp;obtain⟨js,rj,pj,_⟩:=I.list hq;refine abQ (aeF (e:=λ_=>true) pi.isList pj.isList (by simp only[aas];rw[<-ri.length,<-rj.length];exact el) (by omega) (kh I low k ri rj)) ?_;refine aY I fin ?_;rw[all_range];rfl
 ·obtain⟨is,ri,pi,_⟩:=I.tuple hp;obtain⟨js,rj,pj,_⟩:=I.tuple hq;refine abQ (aes (e:=λ_=>true) pi pj (by omega) (kh I low k ri rj)) ?_;have e:(is.toArray.size==js.toArray.size)=true:=by simp only[aas,beq_iff_eq];rw[<-ri.length,<-rj.length];exact el
  refine aY I fin ?_;rw[all_range,e];rfl
def Js(K:PySem.W.Frag)(te:TE):TE:=λσ H Q=>te σ H λx H1=>∃(p:Addr) (zs:List Str),x=.ref p/\aj K H1 p (zs.map V.str)/\zs.length+1<scanBound/\Q (.int (dist zs).length) H1
theorem Cu{e:Expr}{te:TE}{xl xs:Str}{p1 p2 Uw E3:Pos}(hc:X.calm=true)(he:PE X e te)(gl:Gl X xl)(ml:X.mg xl=none)(vl:bootBuiltins xl=some (.builtin "len"))(gs:Gl X xs)(ms:X.mg xs=none)(vs:bootBuiltins xs=some (.type "set"))
  (hn1:xl≠"__name__" := by decide) (hd1:(xl==("__debug__" : Str))=false:=by decide) (hn2:xs≠"__name__" := by decide) (hd2:(xs==("__debug__" : Str))=false:=by decide)
  (hs:starEach [e] X.env=[(false,eval e X.env)]:=by rfl):PE X (.Call (.Name xl p1) [.Call (.Name xs p2) [e] [] E3] [] Uw) (Js X.K te):=by
 intro pins s σ H Q I h;refine abB (ir I gl ml vl ?_ hn1 hd1);refine ac4 ?_ rfl rfl;show wpAny _ _ (spliced [(false,eval (.Call (.Name xs p2) [e] [] E3) X.env)]) _ _ s
 refine aez ?_;refine abB (ir I gs ms vs ?_ hn2 hd2);refine abA (aH (aa he ae hs E3 pins s σ H (λvs H1=>∃x,vs=[x]/\∃(p:Addr) (zs:List Str),x=.ref p/\aj X.K H1 p (zs.map V.str)/\zs.length+1<scanBound/\Q (.int (dist zs).length) H1) I ?_) λus s1 h1=>?_) hs rfl
 ·have mono:=h;refine ?_;show te σ H _
  exact(show te σ H (λx H1=>∃x',[x]=[x']/\∃(p:Addr) (zs:List Str),x'=.ref p/\aj X.K H1 p (zs.map V.str)/\zs.length+1<scanBound/\Q (.int (dist zs).length) H1) from by
   have e:(λ(x:V) (H1:Hp)=>∃x',[x]=[x']/\∃(p:Addr) (zs:List Str),x'=.ref p/\aj X.K H1 p (zs.map V.str)/\zs.length+1<scanBound/\Q (.int (dist zs).length) H1)=λx H1=>∃(p:Addr) (zs:List Str),x=.ref p/\aj X.K H1 p (zs.map V.str)/\zs.length+1<scanBound/\Q (.int (dist zs).length) H1:=by
    funext x H1
    refine propext ⟨λ⟨x',e,r⟩=>?_,λr=>⟨x,rfl,r⟩⟩;cases e;exact r
   rw[e];exact h)
 ·obtain⟨vs',H1,I1,r1,x,rfl,p,zs,rfl,hq,small,q⟩:=h1;obtain⟨u,rfl,ru⟩:=vals1 r1;cases ru;obtain⟨its,rv,pl,_⟩:=I1.list hq;refine Cs (I1.ok.hd hc) pl.isList (hZ rv) small λh' tk T kp=>?_;refine aeP ?_;obtain⟨o,es,ep,t,ho,hex,hd,_,_,hb,hf,hN⟩:=T;have I2:Inv X pins σ H1 {s1 with heap:=h',toks:=tk}:=I1.kept (t':=tk) kp;have fit:(es.size:Int)<2 ^ 63:=by
   have:es.size<scanBound:=hb
   have z:scanBound<=4096:=by decide
   have:(es.size:Int)<4096:=by omega
   exact Int.lt_of_lt_of_le this (by decide)
  rw[<-hN] at q;exact call_len_set ho hex hd hf fit ⟨.int es.size,H1,I2.tok _,⟨_,rfl⟩,q⟩
end
theorem vY:∀{us:List Value} {zs:List Str},us.length=zs.length->(∀(j:Nat) (u:Value),us[j]?=some u->∃z t,zs[j]?=some z/\u=.str z t)->StrsAre us zs
 |[],[],_,_=>.nil
 |[],_::_,h,_=>by simp at h
 |_::_,[],h,_=>by simp at h
 |u::us,z::zs,h,k=>by obtain⟨z',t,e1,e2⟩:=k 0 u rfl;cases e1;subst e2;exact .cons z t (vY (by simpa using h) λj w e=>by simpa using k (j+1) w (by simpa using e))
section
variable {prog:Program}{w:World}{A:Around}{E:Value->Shared->Prop}{s:Shared}
theorem uo{h:Heap}{tk:Nat}{us:List Value}{zs:List Str}{Q:Value->Shared->Prop}(hz:StrsAre us zs)(aJ:us.length<64)
  (q:∀(out:List Value) (n:Nat) (h2:Heap),StrsAre out (aF zs)->(∀b o,h.get? b=some o->h2.get? b=some o)->h2.get? h.objs.size=some {cls:=.type "list",data:=.seq out.toArray n}->Q (.ref h.objs.size) {s with heap:=h2,toks:=tk}) :
  wpAny (model prog w) A (call (.builtin "list.sort") [.ref h.objs.size]) (λ_ s'=>Q (.ref h.objs.size) s') E {s with heap:=h.push {cls:=.type "list",data:=.seq us.toArray},toks:=tk}:=by
 have vZ:(h.push {cls:=.type "list",data:=.seq us.toArray}).get? h.objs.size=some (seqObj "list" us.toArray 0):=aaC _ rfl;refine wpAny_call_entry ad6 ⟨_,vZ,rfl⟩ adK ?_ (args_list_sort _);refine list_sort_treeK strKind_oneLt vZ hz.keysOf (λa b r e=>keyKind_strs (by rw[<-e];exact hz)) aJ λst p1 p2=>⟨_,rfl,?_⟩
 obtain⟨ss,c1,c2,c3⟩:=sorted_out_str hz p1 p2;have e:=ja c2 (uk ss c3);subst e;obtain⟨n,hn⟩:=sortedHeap_at (out:=(arrOf st).map (·.2)) vZ;refine q _ n _ c1 (λb o eb=>?_) (by rw[hn]);have lt:b<h.objs.size:=aay eb;rw[sortedHeap_old (aaG lt) (by rw[abk];exact abx lt)];exact aao _ eb
end
theorem Inv.AI{X:Cx}{pins:List (Addr×Obj)}{σ:St}{H:Hp}{s:Shared}{h':Heap}{a:Addr}{o:HO}{t':Nat}(I:Inv X pins σ H s)(k:∀b u,s.heap.get? b=some u->h'.get? b=some u)(hp:s.heap.get? a=none)(hn:H a=none)(new:bD X.prog X.w (upd H a o) h' a o) :
  Inv X pins σ (upd H a o) {s with heap:=h',toks:=t' }:=by
 refine I.un ⟨λb u q _ _ _=>k b u q,λb u q _ _ _=>⟨u.slots,k b u q⟩,λb u q n _=>?_,λb u q _=>⟨u,k b u q⟩,λb xs q=>?_,λb u xs q=>?_,λb ps q=>⟨#[],?_⟩⟩ λb u e=>?_
 ·rw[aq (λz=>by rw[z,hp] at q;cases q)];exact n
 ·rw[aq (aw q hn)];exact q
 ·rw[aq (aw q hn)];exact q
 ·rw[aq (aw q hn),q];simp
 ·by_cases hb:b=a
  ·subst hb;rw[af] at e;cases e;exact new
  ·rw[aq hb] at e;refine(I.aR b u e).kC (λc v _ q=>k c v q) (λc q=>?_) λc xs q=>?_
   ·rw[aq (aw q hn)];exact q
   ·rw[aq (aw q hn)];exact q
def E4(kvs:List (Key×V))(zs:List Str):Prop:=kvs.map (·.1)=zs.map Sum.inr
section
variable {X:Cx}
theorem rV(hc:X.calm=true):dj X (.builtin "sorted") (λxs H Q=>∃(p:Addr) (kvs:List (Key×V)) (zs:List Str),xs=[.ref p]/\H p=some (.dK kvs)/\E4 kvs zs/\zs.length<64/\∀l,H l=none->Q (.ref l) (upd H l (.lst ((aF zs).map V.str)))):=by
 rintro pins s σ H xs us Q I r ⟨p,kvs,zs,rfl,hp,hk,aJ,q⟩;obtain⟨u,rfl,rx⟩:=vals1 r;cases rx;obtain⟨z,lo,vs,rel,dd⟩:=AF I.aR hp;obtain⟨ep,da⟩:=dd.dictAt;have hl:vs.length=zs.length:=by rw[<-rel.length,<-aak (f:=(·.1)),hk,aak]
 refine acI ae2 aeG aeH (args_sorted1 _) ?_;unfold Builtin.«sorted»;apply wpAny_bind (m:=checkCount "sorted" 1 1 _);apply wpAny_pure;apply wpAny_bind;refine PySem.W.kdu_collect (PySem.W.kdl_dict (knd:=bT X.prog X.w) (kvs:=vs) (ep:=ep) lo) (A:=X.A.in1) (by exact I.ok.hd hc) da (by rw[hl];exact aap (abe aJ) (by decide)) λh1 tk acc keep items=>?_;have la:acc.toList.length=zs.length:=by rw[aaV,items.1,hl]
 have txt:StrsAre acc.toList zs:=vY la λj u e=>by
  obtain⟨k,x,e1,e2⟩:=items.2 j u (by rw[<-aa9];exact e);have e3:(vs.map (·.1))[j]?=some k:=by rw[aaq,e1];rfl
  rw[<-rel.keys,hk,aaq] at e3;obtain⟨z',e4,rfl⟩:=aar.mp e3;have nF:lR (Sum.inr z') u=true:=e2;obtain⟨i,t,q1,q2⟩|⟨y,t,q1,q2⟩:=cM nF
  ·cases q1
  ·cases q1;exact⟨z',t,e4,q2⟩
 apply wpAny_bind;refine wpAny_newList ?_ (by rw[la];exact aap (abe aJ) (by decide));apply wpAny_bind;apply wpAny_holding;refine wpAny_mono (uo (prog:=X.prog) (w:=X.w) (s:=s) (h:=h1) (tk:=tk) (Q:=EP X pins σ Q) txt (by rw[la];exact aJ) λout n h2 o1 o2 o3=>?_) (λ_ _ z=>wpAny_pure ⟨_,rfl,z⟩) λ_ _ z=>z;have no:s.heap.get? h1.objs.size=none:=by
  cases e:s.heap.get? h1.objs.size with
  |none=>rfl
  |some o=>exact absurd (aay (keep _ _ e)) (aa8 _)
 have uq:H h1.objs.size=none:=by
  cases e:H h1.objs.size with
  |none=>rfl
  |some o =>obtain⟨u,eu⟩:=(I.aR _ _ e).there;rw[no] at eu;cases eu
 refine⟨.ref h1.objs.size,_,I.AI (t':=tk) (o:=.lst ((aF zs).map V.str)) (λb o e=>o2 _ _ (keep _ _ e)) no uq ?_,rfl,q _ uq⟩;refine⟨by rw[aak,cC];exact aap (abe aJ) (by decide),out,n,rS o1,o3⟩
def LA(K:PySem.W.Frag):R2:=λx y H Q=>∃p q xs ys,x=.ref p/\y=.ref q/\aj K H p xs/\aj K H q ys/\xs.length≠ys.length/\Q (.bl true) H
theorem Cv(hu:X.A.units+1<cLine):cL X (compareOp .NotEq) (LA X.K):=by rintro pins s σ H x y v u Q I rx ry ⟨p,q,xs,ys,rfl,rfl,hp,hq,ne,fin⟩;cases rx;cases ry;obtain⟨is,ri,pi,_⟩:=I.list hp;obtain⟨js,rj,pj,_⟩:=I.list hq;refine abQ (adm pi.isList pj.isList ?_ (by omega)) (aY I fin rfl);simp only[aas,bne_iff_ne];rw[<-ri.length,<-rj.length];exact ne
end
def kJ:List V->List V->Bool
 |[],[]=>true
 |x::xs,y::ys=>g8 x y&&kJ xs ys
 |_,_=>false
theorem iS:∀{xs ys:List V},xs.length≠ys.length->kJ xs ys=false
 |[],[],h=>absurd rfl h
 |[],_::_,_=>rfl
 |_::_,[],_=>rfl
 |x::xs,y::ys,h=>by unfold kJ;rw[iS (by simpa using h),acu]
theorem iT:∀{xs ys:List V},xs.length=ys.length->kJ xs ys=(List.range xs.length).all λj=>g8 (xs.getD j .bz) (ys.getD j .bz)
 |[],[],_=>rfl
 |[],_::_,h=>by simp at h
 |_::_,[],h=>by simp at h
 |x::xs,y::ys,h=>by unfold kJ;rw[iT (by simpa using h),aa0,acQ,acA,acj];rfl
theorem mD:∀(xs ys:List Str),kJ (xs.map V.str) (ys.map V.str)=decide (xs=ys)
 |[],[]=>rfl
 |[],_::_=>rfl
 |_::_,[]=>rfl
 |x::xs,y::ys=>by
  rw[aaQ,aaQ];unfold kJ;rw[mD xs ys];by_cases h:x=y
  ·subst h;simp[g8]
  ·simp[g8,h]
section
variable {X:Cx}{pins:List (Addr×Obj)}{σ:St}{H:Hp}{s:Shared}
theorem jQ{xs ys:List V}{A:Around}(fx:xs.all dk=true)(fy:ys.all dk=true){is js:List Value}(ri:Vals xs is)(rj:Vals ys js) :
  ∀j (h1:j<is.toArray.size) (h2:j<js.toArray.size),SeqAt.EqAt A s is.toArray[j] js.toArray[j] (g8 (xs.getD j .bz) (ys.getD j .bz)):=λj h1 h2=>by
 have b1:j<xs.length:=by rw[ri.length];simpa using h1
 have b2:j<ys.length:=by rw[rj.length];simpa using h2
 obtain⟨u',e1,r1⟩:=ri.get (aam b1);obtain⟨v',e2,r2⟩:=rj.get (aam b2);have c1:is.toArray[j]=u':=by
  rw[abW]
  have:=aam (l:=is) (i:=j) (by simpa using h1)
  rw[this] at e1;exact aaS e1
 have c2:js.toArray[j]=v':=by
  rw[abW]
  have:=aam (l:=js) (i:=j) (by simpa using h2)
  rw[this] at e2;exact aaS e2
 have d1:xs.getD j .bz=xs[j]:=by simp[List.getD,aam b1]
 have d2:ys.getD j .bz=ys[j]:=by simp[List.getD,aam b2]
 rw[c1,c2,d1,d2];exact qz r1 r2 (abE.mp fx _ (abd b1)) (abE.mp fy _ (abd b2))
end
section
variable {X:Cx}
def LB(K:PySem.W.Frag)(neg:Bool):R2:=λx y H Q=>∃p q xs ys,x=.ref p/\y=.ref q/\((aj K H p xs/\aj K H q ys)\/(aL K H p xs/\aL K H q ys))/\xs.all dk=true/\ys.all dk=true/\Q (.bl (if neg then !kJ xs ys else kJ xs ys)) H
theorem rW{a b:Nat}(h:a=b):min a b=a:=by omega
theorem mE(hu:X.A.units+1<cLine):cL X (compareOp .Eq) (LB X.K false):=by
 rintro pins s σ H x y v u Q I rx ry ⟨p,q,xs,ys,rfl,rfl,h,fx,fy,fin⟩;cases rx;cases ry;rcases h with⟨hp,hq⟩|⟨hp,hq⟩
 ·obtain⟨is,ri,pi,_⟩:=I.list hp;obtain⟨js,rj,pj,_⟩:=I.list hq;by_cases el:xs.length=ys.length
  ·refine afj pi.isList pj.isList (by simp only[aas];rw[<-ri.length,<-rj.length];exact el) (by omega) (jQ fx fy ri rj) ?_;refine aY I fin ?_;rw[aas,<-ri.length];exact iT el
  ·refine adL pi.isList pj.isList ?_ (by omega) (aY I fin ?_)
   ·simp only[aas,bne_iff_ne];rw[<-ri.length,<-rj.length];exact el
   ·exact iS el
 ·obtain⟨is,ri,pi,_⟩:=I.tuple hp;obtain⟨js,rj,pj,_⟩:=I.tuple hq;refine ae9 pi pj (by omega) (jQ fx fy ri rj) ?_;refine aY I fin ?_;simp only[aas];rw[<-ri.length,<-rj.length];by_cases el:xs.length=ys.length
  ·rw[rW el,<-iT el];simp[el]
  ·have:(xs.length==ys.length)=false:=by simpa using el
   rw[this,acu];exact iS el
theorem AJ(hu:X.A.units+1<cLine):cL X (compareOp .NotEq) (LB X.K true):=by
 rintro pins s σ H x y v u Q I rx ry ⟨p,q,xs,ys,rfl,rfl,h,fx,fy,fin⟩;cases rx;cases ry;rcases h with⟨hp,hq⟩|⟨hp,hq⟩
 ·obtain⟨is,ri,pi,_⟩:=I.list hp;obtain⟨js,rj,pj,_⟩:=I.list hq;by_cases el:xs.length=ys.length
  ·refine abQ (aeF pi.isList pj.isList (by simp only[aas];rw[<-ri.length,<-rj.length];exact el) (by omega) (jQ fx fy ri rj)) ?_;refine aY I fin ?_;rw[aas,<-ri.length,<-iT el];rfl
  ·refine abQ (adm pi.isList pj.isList ?_ (by omega)) (aY I fin ?_)
   ·simp only[aas,bne_iff_ne];rw[<-ri.length,<-rj.length];exact el
   ·rw[if_pos rfl,iS el];rfl
 ·obtain⟨is,ri,pi,_⟩:=I.tuple hp;obtain⟨js,rj,pj,_⟩:=I.tuple hq;refine abQ (aes pi pj (by omega) (jQ fx fy ri rj)) ?_;refine aY I fin ?_;simp only[aas];rw[<-ri.length,<-rj.length];by_cases el:xs.length=ys.length
  ·rw[rW el,<-iT el];simp[el]
  ·have:(xs.length==ys.length)=false:=by simpa using el
   rw[this,acu,if_pos trivial,iS el]
def LC(K:PySem.W.Frag):R2:=λx y H Q=>∃p q xs ys,x=.ref p/\y=.ref q/\aj K H p xs/\aj K H q ys/\xs.length≠ys.length/\Q (.bl false) H
theorem Cw(hu:X.A.units+1<cLine):cL X (compareOp .Eq) (LC X.K):=by rintro pins s σ H x y v u Q I rx ry ⟨p,q,xs,ys,rfl,rfl,hp,hq,ne,fin⟩;cases rx;cases ry;obtain⟨is,ri,pi,_⟩:=I.list hp;obtain⟨js,rj,pj,_⟩:=I.list hq;refine adL pi.isList pj.isList ?_ (by omega) (aY I fin rfl);simp only[aas,bne_iff_ne];rw[<-ri.length,<-rj.length];exact ne
def Cy(K:PySem.W.Frag)(neg:Bool):R2:=λx y H Q=>∃p q xs,x=.ref p/\y=.ref q/\aj K H p xs/\aj K H q []/\Q (.bl (if neg then !decide (xs=[]) else decide (xs=[]))) H
theorem ur(hu:X.A.units+1<cLine):cL X (compareOp .Eq) (Cy X.K false):=by
 rintro pins s σ H x y v u Q I rx ry ⟨p,q,xs,rfl,rfl,hp,hq,fin⟩;cases xs with
 |nil=>exact mE hu pins s σ H _ _ v u Q I rx ry ⟨p,q,[],[],rfl,rfl,.inl ⟨hp,hq⟩,rfl,rfl,fin⟩
 |cons z zs=>exact Cw hu pins s σ H _ _ v u Q I rx ry ⟨p,q,_,_,rfl,rfl,hp,hq,by simp,fin⟩
theorem uu(hu:X.A.units+1<cLine):cL X (compareOp .NotEq) (Cy X.K true):=by
 rintro pins s σ H x y v u Q I rx ry ⟨p,q,xs,rfl,rfl,hp,hq,fin⟩;cases xs with
 |nil=>exact AJ hu pins s σ H _ _ v u Q I rx ry ⟨p,q,[],[],rfl,rfl,.inl ⟨hp,hq⟩,rfl,rfl,fin⟩
 |cons z zs=>exact Cv hu pins s σ H _ _ v u Q I rx ry ⟨p,q,_,_,rfl,rfl,hp,hq,by simp,fin⟩
open Classical in
end
structure wa where
 key:Expr
 val:Expr
 qD:Expr
 src:Expr
 cs:List Expr
 sc:Scope
 pos:Pos
namespace wa
variable (B:wa)
abbrev expr:Expr:=.DictComp B.key B.val [⟨B.qD,B.src,B.cs,0⟩] B.sc B.pos
section
variable (prog:Program)(w:World)(A:Around)(env:Env)(it:Value)(D:Addr)
def EY(J:Shared->Prop):Bool->Shared->Prop
 |false,s=>J s
 |true,s=>dU.Tame prog w A (eval B.key env) (λx=>dU.Tame prog w A (eval B.val env) λy=>dU.Tame prog w A (dictSet D x y) λ_=>J) s
def AG(J:Shared->Prop)(v:Value):Shared->Prop:=
 dU.Tame prog w A (letOwnedTupleGo B.qD it v) λ_=>dU.Tame prog w A (assign B.qD env v) λ_=>dU.Tame prog w A (mr env B.cs) (B.EY prog w A env D J)
def AH(Dn J:Shared->Prop):Option Value->Shared->Prop
 |none=>Dn
 |some v=>B.AG prog w A env it D J v
end
theorem loops{B:wa}{prog:Program}{w:World}{A:Around}{env:Env}{it:Value}{D:Addr}{R:Result->Shared->Prop}(G:Nat->Shared->Prop)
  (turn:∀k t,G k t->dU.Tame prog w A (pyNext it) (B.AH prog w A env it D (R (.ok .next)) λu=>∃j,j<k/\G j u) t)
  {k:Nat} {t:Shared} (g:G k t):codeAny (model prog w) A (.compLoop B.expr 0 it (.ref D) env) R t:=by
 have one:∀k t,G k t->dU.Tame prog w A (compTurn B.expr 0 it (.ref D) env) (λx t'=>match x with|.done r=>R (.ok r) t'|.again c=>c=.compLoop B.expr 0 it (.ref D) env/\∃j,j<k/\G j t') t:=by
  intro k t g;rw[show B.expr=.DictComp B.key B.val [⟨B.qD,B.src,B.cs,0⟩] B.sc B.pos from rfl,compTurn_dict];apply wpAny_bind;apply wpAny_standAt;apply wpAny_bind;refine aH (turn k t g) λx t1 h1=>?_;match x,h1 with
  |none,h1=>exact wpAny_pure h1
  |some v,h1=>
   apply wpAny_bind;refine aH h1 λ_ t2 h2=>?_;apply wpAny_bind;refine aH h2 λ_ t3 h3=>?_;apply wpAny_bind;refine aH h3 λb t4 h4=>?_;match b,h4 with
   |false,h4=>exact wpAny_pure ⟨rfl,h4⟩
   |true,h4 =>apply wpAny_bind;apply wpAny_bind;refine aH h4 λy t5 h5=>?_;apply wpAny_bind;apply wpAny_holding;refine aH h5 λz t6 h6=>?_;apply wpAny_bind;apply wpAny_standAt;apply wpAny_holding;refine aH h6 λ_ t7 h7=>?_;exact wpAny_pure ⟨rfl,h7⟩
 exact ac6 rfl G (λk t g=>wpAny_noted (wpAny_mono (one k t g) (λ_ _ q=>q) λ_ _ f=>f.elim)) k g
end wa
def qJ(own:List Str)(fr:List Nat)(g:TG)(tt:TT)(tk te:TE)(σ:St)(Q:VK)(J:It)(H1:Hp):Prop:=
 ∃W:Nat->Nat->List (Key×V)->Hp->Prop,(∃m,W 0 m [] H1)/\∀i m kvs H2,W i m kvs H2->kvs.length<=sizeLine /\
  ((J.stop i H2/\∀D,H2 D=none->Q (.ref D) (upd H2 D (.dK kvs))) \/
  (J.go i H2/\∀x H3,J.oN i H2 x H3->g x (dq own fr σ) H3 λσ4 H4=>tt σ4 H4 λb H5=>if b=true then tk σ4 H5 λy H6=>te σ4 H6 λz H7=>∃k,y=kV k/\∃m',m'<m/\W (i+1) m' (putK kvs k z) H7 else ∃m',m'<m/\W (i+1) m' kvs H5))
def Q2(own:List Str)(fr:List Nat)(wi:TI)(g:TG)(tt:TT)(tk te:TE):TE:=λσ H Q=>wi σ H (qJ own fr g tt tk te σ Q)
section
variable {X:Cx}{own:List Str}{fr:List Nat}{sc:Scope}{tg iter kx vx:Expr}{ifs:List Expr}{pos:Pos}{wi:TI}{g:TG}{tt:TT}{tk te:TE}
theorem yU{pins:List (Addr×Obj)}{σ:St}{H2:Hp}{s2:Shared}{Q:VK}{it:Addr}{fp:List Addr}{tn:Nat->Heap->Prop}{J:It}{RR:Value->Addr->Result->Shared->Prop}{E:Value->Shared->Prop}(hc:X.calm=true)(S:fk X own fr sc)(gk:GK own.length g)
  (hg:∀s H fp,PG (cq X own fr sc s H fp) tg g) (ht:∀s H fp,gc (cq X own fr sc s H fp) ifs tt) (hk:∀s H fp,PE (cq X own fr sc s H fp) kx tk) (he:∀s H fp,PE (cq X own fr sc s H fp) vx te)
  (I2:Inv X pins σ H2 s2) (T:Turn X.prog X.w X.K tg J fp it tn) (st2:tn 0 s2.heap) (f2:∀b∈fp,d4 X pins H2 b) (L:qJ own fr g tt tk te σ Q J H2)
  (hRR:∀D C s',(∃m,s'.heap.Ns C m)->@LE.le Nat _ s2.heap.objs.size C->(∃H',H' C=none/\Q (.ref D) H'/\∀h' tk,Heap.SameBut C s'.heap h'->Inv X pins σ H' {s' with heap:=h',toks:=tk})->RR (.ref D) C (.ok .next) s') :
  wpAny (model X.prog X.w) X.A newDict (λacc s₃=>wpAny (model X.prog X.w) X.A (newFunctionEnv sc X.env.globals (cS X.env sc.names []) [] X.env.qual none .none (some X.env)) (λjO s₄ =>codeAny (model X.prog X.w) X.A (.compStart (.DictComp kx vx [⟨tg,iter,ifs,0⟩] sc pos) 0 (.ref it) acc {jO with scope:=relabel sc X.env}) (RR acc jO.locals) s₄) E s₃) E s2:=by
 obtain⟨W,⟨m0,w0⟩,turn⟩:=L;refine wpAny_newObj_type (iX ?_);dsimp only;generalize dE:s2.heap.push {cls:=.type "dict",dict:=none,data:=.dict #[]}=h1;have hz:h1.objs.size=s2.heap.objs.size+1:=by rw[<-dE,abk]
 have hk1:∀b o,s2.heap.get? b=some o->h1.get? b=some o:=λb o e=>by rw[<-dE];exact aao _ e
 have vQ:h1.get? s2.heap.objs.size=some {cls:=.type "dict",data:=.dict #[]}:=by rw[<-dE];exact aaC _ rfl
 have hfl:∀b∈fp,@LT.lt Nat _ b s2.heap.objs.size:=λb hb=>by obtain⟨o,e,_⟩:=T.obj _ _ st2 b hb;exact aay e
 have I3:=mi I2 S f2 hz hk1 hfl;rw[hz];generalize hY:cq X own fr sc s2 H2 fp=Y at I3;have lC:(hC s2 sc h1).get? s2.heap.objs.size=some {cls:=.type "dict",data:=.dict #[]}:=pushCells_keeps _ _ _ _ (aao _ vQ);have kc:tn 0 (hC s2 sc h1):=T.keep _ _ _ st2 λb _ o e=>pushCells_keeps _ _ _ _ (aao _ (hk1 b o e));have eP:Y.prog=X.prog:=by rw[<-hY];rfl
 have eW:Y.w=X.w:=by rw[<-hY];rfl
 have eK:Y.K=X.K:=by rw[<-hY];rfl
 have eA:Y.A=X.A:=by rw[<-hY];rfl
 have eX:Y.xe=jw:=by rw[<-hY];rfl
 have ecm:Y.calm=true:=by rw[<-hY];exact hc
 have pO:({scope:=relabel sc X.env,locals:=s2.heap.objs.size+1,globals:=X.env.globals,cells:=cellsFrom (s2.heap.objs.size+1+1) sc.names (cS X.env sc.names []),qual:=X.env.qual,func:=none,code:=X.env.code,frame:=X.env.frame,builtins:=X.env.builtins}:Env)=Y.env:=by rw[<-hY];rfl
 have eL:Y.env.locals=s2.heap.objs.size+1:=by rw[<-hY];rfl
 rw[pO];have qE:PG Y tg g:=hY▸hg s2 H2 fp;have vR:gc Y ifs tt:=hY▸ht s2 H2 fp;have qF:PE Y vx te:=hY▸he s2 H2 fp;have gS:PE Y kx tk:=hY▸hk s2 H2 fp;have dfp:s2.heap.objs.size∉fp:=λz=>aa8 _ (hfl _ z);have dC:s2.heap.objs.size≠s2.heap.objs.size+1:=aaG (abg _);have my:∀x c,Y.env.cells.lookup x=some c->c≠s2.heap.objs.size:=λx c e z=>by obtain⟨v,o,q,d⟩:=I3.cell x c e;rw[z] at q;have q':=lC.symm.trans q;cases q';cases d
 have nB:s2.heap.objs.size∉Y.fs:=by
  rw[<-hY];intro z;rcases aav.mp (I2.fZ _ z) with e|e
  ·exact aa8 _ (by have:=I2.lt;rw[<-e] at this;exact this)
  ·exact I2.vt (aal _) e
 have i7:@LE.le Nat _ Y.s₀.heap.objs.size s2.heap.objs.size:=by rw[<-hY];exact aal _
 have fpY:∀{H':Hp} {pp:List (Addr×Obj)},(∀b∈fp,H' b=none)->(∀p∈pp,p.1∉fp)->∀b∈fp,d4 Y pp H' b:=λ{H' pp} hn hp b hb=>by
  refine⟨hn b hb,?_,?_,?_,?_,λp hq z=>?_⟩
  ·have:=hfl b hb;rw[eL];intro z;have z':@Eq Nat b (s2.heap.objs.size+1):=z;omega
  ·rw[<-hY];intro z;rcases aav.mp (I2.fZ _ z) with e|e
   ·exact(f2 b hb).2.1 e
   ·exact(f2 b hb).2.2.1 e
  ·exact .inl (by rw[<-hY];exact hb)
  ·exact(I3.ok.yB b (by rw[<-hY];exact hb)).2
  ·rcases aaD.mp hq with q|q
   ·have:p∈([]:List (Addr×Obj)):=by rw[<-hY] at q;exact q
    exact nomatch this
   ·exact hp p q (z▸hb)
 have mz:∀{H':Hp} {s':Shared} {σ':St} {ob:Obj},Inv Y [] σ' H' s'->H' s2.heap.objs.size=none->s'.heap.get? s2.heap.objs.size=some ob->(∀v,ob.data≠.cell v)->Inv Y [(s2.heap.objs.size,ob)] σ' H' s':=λ{H' s' σ' ob} J0 hn e d=>
  J0.cv λp hp=>by
   have:p=(s2.heap.objs.size,ob):=by simpa using hp
   subst this;exact⟨e,hn,by rw[eL];exact dC,nB,d⟩
 have jP:∀{ob:Obj} (p:Addr×Obj),p∈[(s2.heap.objs.size,ob)]->p.1∉fp:=λ{ob} p hp=>by
  have:p=(s2.heap.objs.size,ob):=by simpa using hp
  subst this;exact dfp
 have loop:codeAny (model X.prog X.w) X.A (.compLoop (.DictComp kx vx [⟨tg,iter,ifs,0⟩] sc pos) 0 (.ref it) (.ref s2.heap.objs.size) Y.env) (RR (.ref s2.heap.objs.size) (s2.heap.objs.size+1)) {s2 with heap:=hC s2 sc h1}:=by
  have nG:(hC s2 sc h1).DictOf (bT X.prog X.w) s2.heap.objs.size []:=(show h1.DictOf (bT X.prog X.w) s2.heap.objs.size [] from dE▸afi s2.heap).keep λb o e=>pushCells_keeps _ _ _ _ (aao _ e);refine wa.loops (B:=⟨kx,vx,tg,iter,ifs,sc,pos⟩) (λn s'=>∃i kvs vs H',W i n kvs H'/\Inv Y [] (dq own fr σ) H' s'/\tn i s'.heap/\(∀b∈fp,H' b=none)/\H' s2.heap.objs.size=none/\s'.heap.DictOf (bT X.prog X.w) s2.heap.objs.size vs/\KV kvs vs) ?_ (k:=m0)
   ⟨0,[],[],H2,w0,I3,kc,λb hb=>(f2 b hb).1,I2.aR.fresh (aal _),nG,.nil⟩
  rintro n s' ⟨i,kvs,vs,H',w',J0,fi,kf,hDn,hDo,rv⟩;obtain⟨qG,iC⟩:=turn i n kvs H' w';obtain⟨ob,es,ep,WO,E5,AK,AL,wb,E6⟩:=hDo;have LD:∀v,ob.data≠.cell v:=λv z=>by rw[AK] at z;cases z
  have J1:=mz J0 hDn WO LD;rcases iC with⟨stop,fin⟩|⟨go,step⟩
  ·have d0:=T.done Y eP eW eK ecm i _ s' _ H' jw J1 (fpY kf jP) fi stop;rw[eA] at d0;refine wpAny_mono d0 (λr s4 ⟨hr,J4⟩=>?_) λ_ _ z=>z;subst hr;have pD:=(J4.pin (s2.heap.objs.size,_) (aan _ aau)).1;refine hRR _ _ s4 ?_ (abu _) ⟨upd H' s2.heap.objs.size (.dK kvs),?_,fin _ hDn,λh' tk hs=>?_⟩
   ·obtain⟨m,hn,_⟩:=J4.loc;rw[eL] at hn;exact⟨m,hn⟩
   ·rw[aq (aaX dC),<-eL];exact J4.free
   ·subst hY;have hO:bD X.prog X.w (upd H' s2.heap.objs.size (.dK kvs)) h' s2.heap.objs.size (.dK kvs):=⟨qG,beq_eq_false_iff_ne.mpr (aaX (aaG I2.big)),vs,rv,ob,es,ep,(hs.2 _ dC).trans pD,E5,AK,AL,wb,E6⟩
    exact mj I2 f2 J4 (aal _) hDn dC hs hO tk
  ·have d0:=T.item Y eP eW eK ecm i _ s' _ H' jw J1 (fpY kf jP) fi go;rw[eA] at d0;refine wpAny_mono d0 (λr s4 ⟨u,hr,h4⟩=>?_) λ_ _ z=>z;subst hr;refine wpAny_mono h4 (λ_ s5 ⟨x,H5,J5,r5,y5,st5,ng⟩=>?_) λ_ _ z=>z;have qH:=J5.pinned (fpY ng jP) (T.obj _ _ st5);have s1:=qE _ s5 _ H5 x u _ qH r5 (gk _ _ _ _ (step x H5 y5));rw[eP,eW,eA,eX] at s1;refine wpAny_mono s1 (λ_ s6 ⟨σ6,H6,J6,q6,nC⟩=>?_) λ_ _ z=>z;have i9:=vR _ s6 σ6 H6 _ J6 q6;rw[eP,eW,eA,eX] at i9;refine wpAny_mono i9 (λok s7 ⟨H7,J7,q7⟩=>?_) λ_ _ z=>z;have low:∀{H8:Hp} {s8:Shared},Inv Y ([(s2.heap.objs.size,ob)]++cV fp s5.heap) σ6 H8 s8 ->
     Inv Y (cV fp s5.heap) σ6 H8 s8/\H8 s2.heap.objs.size=none/\s8.heap.get? s2.heap.objs.size=some ob/\(∀b∈fp,H8 b=none)/\tn (i+1) s8.heap:=λ{H8 s8} J8=>by
    have p8:=J8.pin (s2.heap.objs.size,_) (aan _ (aaL _ aau));refine⟨J8.cv λp hp=>J8.pin p (aan _ (aan _ hp)),p8.2.1,p8.1,λb hb=>?_,T.keep _ _ _ st5 λb hb o e=>(J8.pin (b,o) (aan _ (aan _ (cG hb e)))).1⟩;obtain⟨o,e,d⟩:=T.obj _ _ st5 b hb;exact(J8.pin (b,o) (aan _ (aan _ (cG hb e)))).2.1
   have weak:∀{H8:Hp} {s8:Shared} {pp:List (Addr×Obj)},Inv Y pp σ6 H8 s8->Inv Y [] (dq own fr σ) H8 s8:=λ{H8 s8 pp} J8=>(J8.weak nC.1.symm (λj v e=>by
    by_cases hj:j<own.length
    ·exfalso;unfold dq at e;rw[abf (by simpa using hj),abO] at e;split at e<;>cases e
    ·rw[nC.2 j (adx.mp hj)];exact e)).cv λp hp=>nomatch hp
   cases ok with
   |false=>
    obtain⟨m',hm,w7⟩:=(show ∃m',m'<n/\W (i+1) m' kvs H7 by simpa using q7)
    obtain⟨_,l1,l2,l3,l4⟩:=low J7;exact⟨m',hm,i+1,kvs,vs,H7,w7,weak J7,l4,l3,l1,⟨ob,es,ep,l2,E5,AK,AL,wb,E6⟩,rv⟩
   |true=>
    have vS:tk σ6 H7 λy H6=>te σ6 H6 λz H7=>∃k,y=kV k/\∃m',m'<n/\W (i+1) m' (putK kvs k z) H7:=by simpa using q7
    have s3:=gS _ s7 σ6 H7 _ J7 vS;rw[eP,eW,eA,eX] at s3;show wpAny _ _ _ _ _ _
    refine wpAny_mono s3 (λyv s8 ⟨y,H8,J8,r8,q8⟩=>?_) λ_ _ z=>z;have Cz:=qF _ s8 σ6 H8 _ J8 q8;rw[eP,eW,eA,eX] at Cz;refine wpAny_mono Cz (λzv s9 ⟨z,H9,J9,r9,ky,ey,m',hm,w9⟩=>?_) λ_ _ z=>z;subst ey;obtain⟨WQ,l1,l2,l3,l4⟩:=low J9;refine wpAny_dictSet_pairs (knd:=bT X.prog X.w) (hsz:=by rw[<-rv.length];exact qG) (oC r8) (⟨ob,es,ep,l2,E5,AK,AL,wb,E6⟩:s9.heap.DictOf (bT X.prog X.w) s2.heap.objs.size vs) λh' Cq hs'=>?_;have CA:Inv Y [] (dq own fr σ) H9 {s9 with heap:=h',toks:=s9.toks+1}:=by
     refine(weak WQ).turned (t':=s9.toks+1) (it:=s2.heap.objs.size) (λb o hb e=>(hs'.2 b hb).trans e) l1 (by rw[eL];exact dC) (.inr i7) my λp hp=>?_
     have:p∈([]:List (Addr×Obj)):=by rw[<-hY] at hp;exact hp
     exact nomatch this
    refine⟨m',hm,i+1,putK kvs ky z,stored vs ky zv,H9,w9,CA,?_,l3,l1,Cq,rv.put ky r9⟩;exact T.keep _ _ _ l4 λb hb o e=>(hs'.2 b (λz=>dfp (z▸hb))).trans e
 exact codeAny_compStart_dict loop (T.self X.A 0 _ _ _ kc loop)
theorem Pr(own:List Str)(fr:List Nat)(hc:X.calm=true)(S:fk X own fr sc)(gk:GK own.length g)(hi:PI X tg iter wi)
  (hg:∀s H fp,PG (cq X own fr sc s H fp) tg g) (ht:∀s H fp,gc (cq X own fr sc s H fp) ifs tt) (hk:∀s H fp,PE (cq X own fr sc s H fp) kx tk) (he:∀s H fp,PE (cq X own fr sc s H fp) vx te)
  (hs:∀x,foldedSetIterable iter X.env x=pure x:=by intro _;rfl):PE X (.DictComp kx vx [⟨tg,iter,ifs,0⟩] sc pos) (Q2 own fr wi g tt tk te):=by
 intro pins s σ H Q I h;show wpAny _ _ (comprehension (.DictComp kx vx [⟨tg,iter,ifs,0⟩] sc pos) sc X.env (firstIterPos [⟨tg,iter,ifs,0⟩] pos) newDict (firstAsync [⟨tg,iter,ifs,0⟩]) (firstIter [⟨tg,iter,ifs,0⟩] X.env)) _ _ _
 have iD:closureFor sc X.env=pure (cS X.env sc.names []):=dR λy hy hf=>I.ok.has y.1 (by
  rcases S.ug y hy hf with q|q
  ·exact .inl q
  ·exact .inr q)
 refine wpAny_comprehension_free (use:=none) rfl hs iD S.kind (λy hy hl=>bW S.nd (by rw[<-hl];exact hy)) ?_;refine aH (hi pins s σ H _ I h) λv s1 h1=>aH h1 λitv s2 h2=>?_;obtain⟨it,fp,tn,J,H2,e,I2,T,st2,f2,L⟩:=h2;subst e;exact yU hc S gk hg ht hk he I2 T st2 f2 L λD C s' ⟨m,hn⟩ _ ⟨H',_,q,hi⟩=>⟨m,hn,λh' hs'=>⟨.ref D,H',hi h' s'.toks hs',rfl,q⟩⟩
theorem Jt{vT pos':Pos}{i:Nat}{x:Str}(own:List Str)(fr:List Nat)(hN:X.N.Nodup)(hix:X.N[i]?=some x)(hx:X.env.scope.names.lookup x=some .local)(hc:X.calm=true)(S:fk X own fr sc)(gk:GK own.length g)(hi:PI X tg iter wi)
  (hg:∀s H fp,PG (cq X own fr sc s H fp) tg g) (ht:∀s H fp,gc (cq X own fr sc s H fp) ifs tt) (hk:∀s H fp,PE (cq X own fr sc s H fp) kx tk) (he:∀s H fp,PE (cq X own fr sc s H fp) vx te)
  (hsw:swapsWith (.DictComp kx vx [⟨tg,iter,ifs,0⟩] sc pos) (some (.Name x pos')) vT.line X.env=pure true:=by rfl)
  (hs:∀x,foldedSetIterable iter X.env x=pure x:=by intro _;rfl):PS X (.Assign [.Name x pos'] (.DictComp kx vx [⟨tg,iter,ifs,0⟩] sc pos) vT) (vB (Q2 own fr wi g tt tk te) (bh i)):=by
 intro pins s σ H D I h;rw[ad' _ _ _ _ hsw];apply wpAny_bind;apply wpAny_standAt;apply wpAny_bind;show wpAny _ _ (comprehension (.DictComp kx vx [⟨tg,iter,ifs,0⟩] sc pos) sc X.env _ newDict false (eval iter X.env) (some (assign (.Name x pos') X.env))>>=_) _ _ s
 apply wpAny_bind;have iD:closureFor sc X.env=pure (cS X.env sc.names []):=dR λy hy hf=>I.ok.has y.1 (by
  rcases S.ug y hy hf with q|q
  ·exact .inl q
  ·exact .inr q)
 refine wpAny_mono (wpAny_comprehension_free (use:=some (assign (.Name x pos') X.env)) (Q:=λ_ s'=>SP X pins D .next s') rfl hs iD S.kind (λy hy hl=>bW S.nd (by rw[<-hl];exact hy)) ?_) (λ_ s' q=>wpAny_pure (wpAny_pure q)) λ_ _ z=>z;refine aH (hi pins s σ H _ I h) λv s1 h1=>aH h1 λitv s2 h2=>?_;obtain⟨it,fp,tn,J,H2,e,I2,T,st2,f2,L⟩:=h2;subst e;exact yU hc S gk hg ht hk he I2 T st2 f2 L λD0 C s' ns le h=>qI (R:=D.nx) I2 hN hix hx ns le h
end
theorem Ju{K:PySem.W.Frag}{a:Addr}{xs:List V}{own:List Str}{fr:List Nat}{g:TG}{tt:TT}{tk te:TE}{σ:St}{Q:VK}{H:Hp}(Pv:Nat->List (Key×V)->Hp->Prop)(h0:Pv 0 [] H)(hlen:∀i kvs H,i<=xs.length->Pv i kvs H->kvs.length<=sizeLine)
  (hl:∀i kvs H,i<=xs.length->Pv i kvs H->aj K H a xs)
  (hs:∀i x kvs H (R:List (Key×V)->Hp->Prop),xs[i]?=some x->Pv i kvs H->(∀jR H',Pv (i+1) jR H'->R jR H')->g x (dq own fr σ) H λσ4 H4=>tt σ4 H4 λb H5=>if b=true then tk σ4 H5 λy H6=>te σ4 H6 λz H7=>∃k,y=kV k/\R (putK kvs k z) H7 else R kvs H5)
  (hd:∀kvs H,Pv xs.length kvs H->∀D,H D=none->Q (.ref D) (upd H D (.dK kvs))):qJ own fr g tt tk te σ Q (oO K a) H:=by
 refine⟨λi m kvs H=>m=xs.length-i/\i<=xs.length/\Pv i kvs H,⟨xs.length,rfl,aaZ _,h0⟩,?_⟩;rintro i m kvs H2 ⟨rfl,hi,p⟩;refine⟨hlen i kvs H2 hi p,?_⟩;have q:=hl i kvs H2 hi p;by_cases h:i<xs.length
 ·refine .inr ⟨⟨xs,xs[i],q,by simp[h]⟩,λx H3 hy=>?_⟩;obtain⟨rfl,hy⟩:=hy;have z:=hs i x kvs _ (λjR H'=>∃m',m'<xs.length-i/\(m'=xs.length-(i+1)/\i+1<=xs.length/\Pv (i+1) jR H')) (hy xs q) p λjR H' q=>⟨xs.length-(i+1),by omega,rfl,h,q⟩
  exact z
 ·have e:i=xs.length:=by omega
  subst e;exact .inl ⟨⟨xs,q,aal _⟩,hd kvs H2 p⟩
def tab:List Str->List Addr->List (Key×V)
 |z::zs,l::ls=>(Sum.inr z,V.ref l)::tab zs ls
 |_,_=>[]
theorem rX:∀{zs:List Str} {ls:List Addr},ls.length=zs.length->(tab zs ls).length=zs.length
 |[],[],_=>rfl
 |[],_::_,h=>by simp at h
 |_::_,[],h=>by simp at h
 |z::zs,l::ls,h=>by
  show(tab zs ls).length+1=zs.length+1
  rw[rX (by simpa using h)]
theorem pQ:∀{zs:List Str} {ls:List Addr} (z:Str) (l:Addr),ls.length=zs.length->tab (zs++[z]) (ls++[l])=tab zs ls++[(Sum.inr z,V.ref l)]
 |[],[],_,_,_=>rfl
 |[],_::_,_,_,h=>by simp at h
 |_::_,[],_,_,h=>by simp at h
 |x::zs,y::ls,z,l,h=>by
  show(Sum.inr x,V.ref y)::tab (zs++[z]) (ls++[l])=_
  rw[pQ z l (by simpa using h)];rfl
theorem pR:∀{zs:List Str} {ls:List Addr} {z:Str},z∉zs->fc (tab zs ls) (Sum.inr z:Key)=none
 |[],_,_,_=>rfl
 |_::_,[],_,_=>rfl
 |x::zs,y::ls,z,h=>by
  have h1:¬ x=z:=λe=>h (e▸aau);show fc ((Sum.inr x,V.ref y)::tab zs ls) _=_
  rw[iQ (λe=>h1 (adY e))];exact pR λm=>h (aaw _ m)
theorem wd:∀{zs:List Str} {ls:List Addr} {i:Nat} {z:Str} {l:Addr},zs.Nodup->zs[i]?=some z->ls[i]?=some l->fc (tab zs ls) (Sum.inr z:Key)=some (.ref l)
 |[],_,_,_,_,_,h,_=>by simp at h
 |_::_,[],_,_,_,_,_,h=>by simp at h
 |x::zs,y::ls,0,z,l,_,h1,h2=>by
  have e1:x=z:=by simpa using h1
  have e2:y=l:=by simpa using h2
  subst e1 e2;exact jN rfl
 |x::zs,y::ls,i+1,z,l,nd,h1,h2=>by
  rw[aa6] at nd;have h1':zs[i]?=some z:=by simpa using h1
  have ne:¬ x=z:=λe=>nd.1 (e▸aat h1');show fc ((Sum.inr x,V.ref y)::tab zs ls) _=_
  rw[iQ (λe=>ne (adY e))];exact wd nd.2 h1' (by simpa using h2)
theorem qK{α:Type}{l:List α}(nd:l.Nodup){i j:Nat}{x:α}(hi:l[i]?=some x)(hj:l[j]?=some x):i=j:=by obtain⟨h1,e1⟩:=aaH.mp hi;obtain⟨h2,e2⟩:=aaH.mp hj;exact(ae4 nd).mp (e1.trans e2.symm)
end L2
namespace dJ
open PySem PySem.Spec PyProof.Rows L2
theorem bw{CX:jJ}{P:Program}{w:World}{K:PySem.W.Frag}{mg:Str->Option Value}{base:Heap}{N:List Str}{q:Str}{sc:Scope}{f:Addr}{cd:Value}{A:Around}{o:List Env}{s:Shared}{H:Hp}{E:XK}:(pI CX P w K mg base N q sc f cd A o s H E).yD.K=K:=rfl
def top(i:Nat):Stmt:=PySem.Challenge.pw_cutmeet_k39_crossing_by_names.main.body.getD i (.Pass ⟨0,0,0,0⟩)
abbrev jb:Stmt:=top 12
abbrev mF:Stmt:=top 13
abbrev oE:Stmt:=top 17
abbrev jc:Stmt:=top 18
abbrev rY:Stmt:=top 19
abbrev oF:Stmt:=top 20
abbrev qL:Stmt:=inClass (top 21) 0
abbrev oG:Stmt:=inClass (top 21) 1
abbrev ve:Stmt:=inClass (top 21) 2
abbrev vf:Stmt:=inClass (top 21) 4
abbrev AM:Stmt:=top 84
structure Df(K:PySem.W.Frag)(mg:Str->Option Value)(x:Str)(st:Stmt)(ps:List Str)(f:Addr)(fd:FuncData):Prop where
 fn:a7 K x x st f fd
 aK:mg x=some (.ref f)
 b:Binds K fd ps []
def cb(p:Addr)(H H':Hp):Prop:=∀b o,H b=some o->b≠p->H' b=some o
def Row(H:Hp)(p:Addr):Prop:=∃a b:Int,H p=some (.lst [.int a,.int b])
structure bt(mg:Str->Option Value):Prop where
 divmod:mg "divmod" = none
 len:mg "len" = none
 all:mg "all" = none
 dW:mg "isinstance" = none
 str:mg "str" = none
 range:mg "range" = none
 max:mg "max" = none
 min:mg "min" = none
 bool:mg "bool" = none
 list:mg "list" = none
 int:mg "int" = none
 tuple:mg "tuple" = none
 set:mg "set" = none
 sorted:mg "sorted" = none
 longest:∃t,mg "LONGEST" = some (.int 8 t)
 places:∃t,mg "MOST_PLACES" = some (.int 12 t)
 eG:∃t,mg "MOST_TIES" = some (.int 30 t)
section
variable {P:Program}{w:World}{K:PySem.W.Frag}{mg:Str->Option Value}{base:Heap}
def lo(c:Nat):Bool:=!decide ((⟨#[c]⟩:Str).cps.toList<("a" : Str).cps.toList)
def hi(c:Nat):Bool:=!decide (("z" : Str).cps.toList<(⟨#[c]⟩:Str).cps.toList)
def nm(z:Str):Bool:=(decide (1<=z.length)&&decide (z.length<=8))&&(z.cps.toList.map λc=>lo c&&hi c).all id
theorem AN{K:PySem.W.Frag}{z:Str}{H:Hp}{Q:VK}{te:TE}{σ:L2.St}{x:Str}(hz:z.cps.size<=sizeLine)(f:Nat->Bool)
  (he:∀(c:Nat) (H:Hp) (Q:VK),Q (.bl (f c)) H->te [some (V.str ⟨#[c]⟩)] H Q) (k:∀D,H D=none->Q (.ref D) (upd H D (.lst ((z.cps.toList.map f).map V.bl)))) :
  gT [x] [] (bh 0) dB te σ Q (Lw z) H:=by
 refine⟨λi m ys H2=>H2=H/\i<=z.cps.size/\m=z.cps.size-i/\ys=((z.cps.toList.take i).map f).map V.bl,⟨z.cps.size,rfl,aaZ _,rfl,rfl⟩,?_⟩;rintro i m ys H2 ⟨rfl,hi,rfl,rfl⟩;refine⟨by simp;omega,?_⟩;by_cases h:i<z.cps.size
 ·refine .inr ⟨h,λx H3 hy=>?_⟩;obtain⟨rfl,c,hc,rfl⟩:=hy;simp only[dB,bh,aa4];refine he c _ _ ⟨z.cps.size-(i+1),by omega,rfl,h,rfl,?_⟩;have e:(z.cps.toList.take (i+1))=z.cps.toList.take i++[c]:=by
   rw[aaI]
   have:z.cps.toList[i]?=some c:=by simpa using hc
   rw[this];rfl
  rw[e];simp
 ·have e:i=z.cps.size:=by omega
  subst e;refine .inl ⟨rfl,λD hD=>?_⟩;have q:=k D hD;rw[aaF (by simp)];exact q
def CB:Sp:=λvs H Q _=>(∃z:Str,vs=[.str z]/\z.length<=1000/\∀H',au H H'->Q (.bl (nm z)) H')\/∃x t,vs=[x]/\dz K H x t/\PySem.W.kitOne K t (.type "str")=some false/\Q (.bl false) H
theorem WR:aG ["thing"] ["thing"] (ak mF):=⟨rfl,rfl,rfl,by decide +kernel,rfl,by decide +kernel,by decide +kernel⟩
theorem Jv{f:Addr}{fd:FuncData}(F:a7 K "is_name" "is_name" mF f fd)(T:bt mg):av P w K mg base aB 1 f fd ["thing"] (CB (K:=K)):=by
 refine F.ok WR (λvs H Q E h=>?_) (λcdv A outer s H vs Q E hr h=>?_)
 ·rcases h with⟨z,rfl,_⟩|⟨x,t,rfl,_⟩<;>rfl
 ·obtain⟨t8,h8⟩:=T.longest;refine⟨_,ag (bu (PW.pt (fG (bO (bG (ay (bQ (T:="str")) (by rfl) T.dW abm (aa (pv 0) (aa (dg (v:=.ty "str") rfl T.str ac0 rfl) ae))) (λ_=>rfl)))
    (fh (bO (pC jB jB aE (ay vL (by rfl) T.len aax (aa (pv 0) ae)) (rL (v:=.int 8) rfl h8 ⟨_,rfl⟩)))))) (ao (aI eZ)) aT)
   (ao (aI (ay (gg rfl) (by rfl) T.all acV (aa (cZ ["sign"] [] rfl (bq (osc:=(ak mF).names) (N:=["thing"]) rfl rfl (by decide +kernel)) (bx (by decide)) (Ly (pv 0)) (λ_ _ _=>aD (i:=0) (show(["sign"]:List Str).Nodup by decide +kernel) rfl (Or.inl rfl)) (λ_ _ _=>bK)
    (λ_ _ _=>md uh uh ip (pv 0) ip)) ae)))),?_⟩
  try rw[bw]
  rcases h with⟨z,rfl,hz,k⟩|⟨x,t,rfl,ty,ki,k⟩
  ·have Q3:z.length<=sizeLine:=aap hz (by decide);refine⟨_,rfl,_,_,true,rfl,.str z,rfl,_,rfl,?_⟩;refine aZ ?_;refine⟨_,rfl,z,rfl,Q3,_,_,rfl,rfl,_,rfl,?_⟩;refine cR (λh1=>?_) (λh1=>?_)
   ·refine⟨_,_,rfl,rfl,_,rfl,?_⟩;refine cR (λh2=>?_) (λh2=>?_)
    ·have e:nm z=false:=by
      have:¬ z.length<=8:=by simp at h2;omega
      simp[nm,this]
     exact e▸k H (au.refl _)
    ·have e:nm z=(z.cps.toList.map λc=>lo c&&hi c).all id:=by
      have a1:1<=z.length:=by simp at h1;omega
      have a2:z.length<=8:=by simp at h2;omega
      unfold nm;rw[decide_eq_true a1,decide_eq_true a2];rfl
     refine⟨_,rfl,z,rfl,AN (K:=K) Q3 (λc=>lo c&&hi c) (λc H Q q=>?_) (λD hD=>⟨D,_,rfl,aj.of af,?_⟩)⟩
     ·refine⟨_,rfl,_,_,rfl,rfl,_,rfl,?_⟩;have q':Q (.bl (lo c&&hi c)) H:=q;refine cR (λh=>?_) (λh=>?_)
      ·refine⟨_,_,rfl,rfl,?_⟩;have e1:lo c=true:=h;rw[e1,ab'] at q';exact q'
      ·have e1:lo c=false:=by simpa using(show ¬ lo c=true from h)
       rw[e1,acM] at q';exact q'
     ·exact e▸k _ λc o q=>by rw[aq (aw q hD)];exact q
   ·refine⟨_,rfl,?_⟩;have e:nm z=false:=by
     have:¬ 1<=z.length:=by simp at h1;omega
     simp[nm,this]
    exact bo (e▸k H (au.refl _))
  ·refine⟨_,rfl,_,_,false,rfl,ty,ki,_,rfl,?_⟩;exact bo k
theorem cb.refl(p:Addr)(H:Hp):cb p H H:=λ_ _ h _=>h
theorem cb.trans{p:Addr}{H H1 H2:Hp}(a:cb p H H1)(b:cb p H1 H2):cb p H H2:=λc o h n=>b c o (a c o h n) n
theorem CC:("abcdefghijklmnopqrstuvwxyz" : Str).length=26:=by decide +kernel
theorem LF{z:Str}{d:Int}(h0:0<=d)(h1:d<(z.length:Int)):∃c,eF z.cps.toList d=some c:=by
 obtain⟨n,rfl⟩:=abo h0;have hn:n<z.cps.toList.length:=by
  have:n<z.length:=by omega
  rw[aaV];exact this
 exact⟨z.cps.toList[n],bc (by simp[hn])⟩
theorem ai{H:Hp}{a:Addr}{o:HO}(h:H a=none):au H (upd H a o):=λb u e=>by rw[aq (aw e h)];exact e
def rZ:Sp:=λvs H Q _=>∃x t b1 b2,vs=[x]/\dz K H x t/\PySem.W.kitOne K t (.type "int")=some b1/\PySem.W.kitOne K t (.type "bool")=some b2/\Q (.bl (b1&&!b2)) H
theorem Ux:aG ["thing"] ["thing"] (ak jb):=⟨rfl,rfl,rfl,by decide +kernel,rfl,by decide +kernel,by decide +kernel⟩
theorem we{f:Addr}{fd:FuncData}(F:a7 K "is_whole" "is_whole" jb f fd)(T:bt mg):av P w K mg base aB 1 f fd ["thing"] (rZ (K:=K)):=by
 refine F.ok Ux (λvs H Q E h=>?_) (λcdv A outer s H vs Q E hr h=>?_)
 ·obtain⟨x,t,b1,b2,rfl,_⟩:=h;rfl
 ·obtain⟨x,t,b1,b2,rfl,ty,e1,e2,k⟩:=h;refine⟨_,ao (aI (eD (ay (bQ (T:="int")) (by rfl) T.dW abm (aa (pv 0) (aa (dg (v:=.ty "int") rfl T.int aea rfl) ae)))
   (eC (BU (ay (bQ (T:="bool")) (by rfl) T.dW abm (aa (pv 0) (aa (dg (v:=.ty "bool") rfl T.bool af0 rfl) ae))))))),?_⟩
  try rw[bw]
  refine⟨_,rfl,x,t,b1,rfl,ty,e1,_,rfl,?_⟩;cases b1
  ·exact aZ k
  ·exact bo ⟨_,rfl,x,t,b2,rfl,ty,e2,_,rfl,k⟩
structure jC(ns:List Str):Prop where
 one:1<=ns.length
 aJ:ns.length<=12
 Hj:∀z∈ns,nm z=true
 nd:ns.Nodup
theorem LH{z:Str}(h:nm z=true):z.length<=8:=by unfold nm at h;simp only[abh,abi] at h;exact h.1.2
def CD:Sp:=λvs H Q _=>∃(a:Addr) (ns:List Str),vs=[.ref a]/\H a=some (.lst (ns.map V.str))/\jC ns/\∀H',au H H'->Q .bz H'
theorem Uy:aG ["places"] ["places"] (ak oE):=⟨rfl,rfl,rfl,by decide +kernel,rfl,by decide +kernel,by decide +kernel⟩
theorem Jx{f fN:Addr}{fd yV:FuncData}(F:a7 K "check_places" "check_places" oE f fd)(DN:Df K mg "is_name" mF ["thing"] fN yV)(T:bt mg):av P w K mg base aB 2 f fd ["places"] CD:=by
 have GN:av P w K mg base aB 1 fN yV ["thing"] (CB (K:=K)):=Jv DN.fn T;refine F.ok Uy (λvs H Q E h=>?_) (λcdv A outer s H vs Q E hr h=>?_)
 ·obtain⟨a,ns,rfl,_⟩:=h;rfl
 ·obtain⟨a,ns,rfl,ha,g,k⟩:=h;obtain⟨t12,h12⟩:=T.places;refine⟨_,ag (bu (PW.pt (fG (bO (bG (ay (bQ (T:="list")) (by rfl) T.dW abm (aa (pv 0) (aa (dg (v:=.ty "list") rfl T.list aa1 rfl) ae))) (λ_=>rfl)))
    (fh (bO (pC jB jB aE (ay aA (by rfl) T.len aax (aa (pv 0) ae)) (rL (v:=.int 12) rfl h12 ⟨_,rfl⟩)))))) (ao cN) aT)
   (ag (bu (bO (bG (ay (gg rfl) (by rfl) T.all acV (aa (cZ ["place"] [] rfl (bq (osc:=(ak oE).names) (N:=["places"]) rfl rfl (by decide +kernel)) (bx (by decide)) (bg (pv 0)) (λ_ _ _=>aD (i:=0) (show(["place"]:List Str).Nodup by decide +kernel) rfl (Or.inl rfl)) (λ_ _ _=>bK)
     (λ_ _ _=>ar GN hr rfl DN.aK DN.fn.kp DN.b .nil ax (aa (pv 0) ae))) ae)) (λ_=>rfl))) (ao cN) aT)
   (ao (bu (aQ iw (Cu rfl (pv 0) rfl T.len aax rfl T.set ac1) (ay aA (by rfl) T.len aax (aa (pv 0) ae)) (aV _)) (ao cN) aT))),?_⟩
  try rw[bw]
  refine⟨_,rfl,_,_,true,rfl,.lst ha,rfl,_,rfl,?_⟩;refine aZ ?_;have le:(ns.map V.str).length=ns.length:=aak ..;refine⟨_,rfl,a,_,rfl,.inl (aj.of ha),_,_,rfl,rfl,_,rfl,?_⟩;rw[le];have g1:=g.one;have g2:=g.aJ;refine cR (λ_=>?_) (λz=>absurd z (by simp;omega));refine⟨_,_,rfl,rfl,_,rfl,?_⟩;refine cR (λz=>absurd z (by simp;omega)) (λ_=>?_);refine⟨_,rfl,a,rfl,⟨_,aj.of ha⟩,cA (K:=K) (xs:=ns.map V.str) (λi ys H2=>au H H2/\ys=List.replicate i (V.bl true)) ⟨au.refl _,rfl⟩ ?_ ?_ ?_ ?_⟩
  ·rintro i ys H2 hi ⟨_,rfl⟩;rw[abI];rw[le] at hi;exact aap hi (aap g.aJ (by decide))
  ·rintro i ys H2 _ ⟨s2,_⟩;exact aj.of (s2 _ _ ha)
  ·rintro i x ys H2 R hx ⟨s2,rfl⟩ kR;rw[aaq] at hx;obtain⟨z,ez,rfl⟩:=aar.mp hx;have gz:=g.Hj z (aat ez);simp only[dB,bh,aa4];refine⟨_,rfl,.inl ⟨z,rfl,aap (LH gz) (by decide),λH3 s3=>?_⟩⟩;rw[gz];exact kR _ _ ⟨s2.trans s3,by rw[acg]⟩
  ·rintro ys H2 ⟨s2,rfl⟩ D hD;rw[le];have e:List.replicate ns.length (V.bl true)=(List.replicate ns.length true).map V.bl:=by simp
   refine⟨D,List.replicate ns.length true,rfl,(by rw[e];exact aj.of af),_,rfl,?_⟩;have e2:(List.replicate ns.length true).all id=true:=by simp
   rw[e2];refine aZ ?_;have s3:au H (upd H2 D (.lst (List.replicate ns.length (V.bl true)))):=s2.trans (ai hD);refine⟨_,rfl,a,ns,rfl,aj.of (s3 _ _ ha),(by have:=g.aJ;show ns.length+1<scanBound;exact abJ (adB this) (by decide)),_,rfl,a,_,rfl,.inl (aj.of (s3 _ _ ha)),_,_,rfl,rfl,_,rfl,?_⟩;rw[Jr g.nd,le];refine cR (λz=>absurd z (by simp)) (λ_=>?_);exact k _ s3
end
theorem bU(z:Str)(ns:List Str):ua (.str z) (ns.map V.str)=decide (z∈ns):=by unfold ua;rw[ac7,abH,abC];simp only[adG,Function.comp,g8,beq_iff_eq];exact⟨λ⟨y,h,e⟩=>e▸h,λh=>⟨z,h,rfl⟩⟩
theorem bf(ns:List Str):(ns.map V.str).all dk=true:=by rw[acj,abE];intro _ _;rfl
section
variable {P:Program}{w:World}{K:PySem.W.Frag}{mg:Str->Option Value}{base:Heap}
def sg:Sp:=λvs H Q _=>(∃(a:Addr) (ns:List Str) (z:Str),vs=[.ref a,.str z]/\aj K H a (ns.map V.str)/\Q (.bl (decide (z∈ns))) H)\/∃(a:Addr) (x:V) (t:Value),vs=[.ref a,x]/\dz K H x t/\PySem.W.kitOne K t (.type "str")=some false/\Q (.bl false) H
theorem Uz:aG ["places","thing"] ["places","thing"] (ak jc):=⟨rfl,rfl,rfl,by decide +kernel,rfl,by decide +kernel,by decide +kernel⟩
theorem wg{f:Addr}{fd:FuncData}(F:a7 K "is_among" "is_among" jc f fd)(T:bt mg):av P w K mg base aB 1 f fd ["places","thing"] (sg (K:=K)):=by
 refine F.ok Uz (λvs H Q E h=>?_) (λcdv A outer s H vs Q E hr h=>?_)
 ·rcases h with⟨a,ns,z,rfl,_⟩|⟨a,x,t,rfl,_⟩<;>rfl
 ·refine⟨_,ao (aI (eD (ay (bQ (T:="str")) (by rfl) T.dW abm (aa (pv 1) (aa (dg (v:=.ty "str") rfl T.str ac0 rfl) ae))) (eC (bL cn (pv 1) (pv 0) rfl)))),?_⟩;rcases h with⟨a,ns,z,rfl,ha,k⟩|⟨a,x,t,rfl,ty,e,k⟩
  ·refine⟨_,rfl,_,_,true,rfl,.str z,rfl,_,rfl,?_⟩;refine bo ⟨_,rfl,_,rfl,a,_,rfl,.inl ha,rfl,bf ns,?_⟩;rw[bU];exact k
  ·refine⟨_,rfl,x,t,false,rfl,ty,e,_,rfl,?_⟩;exact aZ k
def Hk:Sp:=λvs H Q _=>∃(a:Addr) (ns:List Str) (t:Addr) (x y:Str),vs=[.ref a,.ref t]/\aj K H a (ns.map V.str)/\H t=some (.tup [.str x,.str y])/\Q (.bl (decide (x∈ns)&&decide (y∈ns))) H
theorem UA:aG ["places","thing"] ["places","thing"] (ak rY):=⟨rfl,rfl,rfl,by decide +kernel,rfl,by decide +kernel,by decide +kernel⟩
theorem LI{f fA:Addr}{fd cO:FuncData}(F:a7 K "is_tie" "is_tie" rY f fd)(DA:Df K mg "is_among" jc ["places","thing"] fA cO)(T:bt mg):av P w K mg base aB 2 f fd ["places","thing"] (Hk (K:=K)):=by
 have GA:av P w K mg base aB 1 fA cO ["places","thing"] (sg (K:=K)):=wg DA.fn T;refine F.ok UA (λvs H Q E h=>?_) (λcdv A outer s H vs Q E hr h=>?_)
 ·obtain⟨a,ns,t,x,y,rfl,_⟩:=h;rfl
 ·obtain⟨a,ns,t,x,y,rfl,ha,ht,k⟩:=h;refine⟨_,ag (bu (PW.pt (fG (bO (bG (ay (bQ (T:="tuple")) (by rfl) T.dW abm (aa (pv 1) (aa (dg (v:=.ty "tuple") rfl T.tuple aa5 rfl) ae))) (λ_=>rfl)))
    (fh (aQ vb (ay aA (by rfl) T.len aax (aa (pv 1) ae)) aE (aV _))))) (ao (aI eZ)) aT)
   (ao (aI (eD (ar GA hr rfl DA.aK DA.fn.kp DA.b .nil ax (aa (pv 0) (aa (bj jK (pv 1) aE (λ_ _=>rfl)) ae))) (eC (ar GA hr rfl DA.aK DA.fn.kp DA.b .nil ax (aa (pv 0) (aa (bj jK (pv 1) aE (λ_ _=>rfl)) ae))))))),?_⟩
  try rw[bw]
  refine⟨_,rfl,_,_,true,rfl,.tup ht,rfl,_,rfl,?_⟩;refine aZ ⟨_,rfl,t,_,rfl,.inr (aL.of ht),rfl,_,rfl,?_⟩;refine aZ ?_;refine⟨_,rfl,_,rfl,t,_,_,_,rfl,rfl,aL.of ht,bc (j:=0) rfl,.inl ⟨a,ns,x,rfl,ha,_,rfl,?_⟩⟩;refine cR (λe=>?_) (λe=>?_)
  ·refine⟨_,rfl,_,rfl,t,_,_,_,rfl,rfl,aL.of ht,bc (j:=1) rfl,.inl ⟨a,ns,y,rfl,ha,?_⟩⟩;rw[e,ab'] at k;exact k
  ·rw[aeS.mpr e,acM] at k;exact k
def aS(H:Hp):List Addr->List (Str×Str)->Prop:=Paired λt p=>H t=some (.tup [.str p.1,.str p.2])
def jd(ns:List Str)(ps:List (Str×Str)):Prop:=∀p∈ps,p.1∈ns/\p.2∈ns
theorem aS.mono{H H':Hp}{ts:List Addr}{ps:List (Str×Str)}(h:aS H ts ps)(k:∀t xs,H t=some (.tup xs)->H' t=some (.tup xs)):aS H' ts ps:=Paired.rK h λt p e=>k t _ e
theorem aS.same{H H':Hp}{ts:List Addr}{ps:List (Str×Str)}(h:aS H ts ps)(s:au H H'):aS H' ts ps:=h.mono λt xs e=>s t _ e
theorem aS.but{p:Addr}{H H':Hp}{ts:List Addr}{ps:List (Str×Str)}(h:aS H ts ps)(s:cb p H H')(np:∀xs,H p≠some (.tup xs)):aS H' ts ps:=h.mono λt xs e=>s t _ e λz=>np xs (z▸e)
theorem aS.len{H:Hp}{ts:List Addr}{ps:List (Str×Str)}(h:aS H ts ps):ts.length=ps.length:=acz h
theorem aS.get{H:Hp}:∀{ts:List Addr} {ps:List (Str×Str)} {i:Nat} {t:Addr},aS H ts ps->ts[i]?=some t->∃p,ps[i]?=some p/\H t=some (.tup [.str p.1,.str p.2])
 |_,_,_,_,.nil,e=>by simp at e
 |_,_,0,_,.cons r _,e=>by simp at e;subst e;exact⟨_,rfl,r⟩
 |_,_,i+1,t,.cons _ h,e=>by obtain⟨p,h1,h2⟩:=aS.get (i:=i) (t:=t) h (by simpa using e);exact⟨p,by simpa using h1,h2⟩
theorem aS.snoc{H:Hp}{ts:List Addr}{ps:List (Str×Str)}{t:Addr}{p:Str×Str}(h:aS H ts ps)(e:H t=some (.tup [.str p.1,.str p.2])):aS H (ts++[t]) (ps++[p]):=ad4 h e
def CF:Sp:=λvs H Q _=>∃(a b:Addr) (ns:List Str) (ts:List Addr) (ps:List (Str×Str)),vs=[.ref a,.ref b]/\H a=some (.lst (ns.map V.str))/\H b=some (.lst (ts.map V.ref))/\aS H ts ps/\jd ns ps/\ps.length<=30/\∀H',au H H'->Q .bz H'
theorem UB:aG ["places","ties"] ["places","ties"] (ak oF):=⟨rfl,rfl,rfl,by decide +kernel,rfl,by decide +kernel,by decide +kernel⟩
theorem Jy{f fA fT:Addr}{fd cO uv:FuncData}(F:a7 K "check_ties" "check_ties" oF f fd)(DA:Df K mg "is_among" jc ["places","thing"] fA cO)(DT:Df K mg "is_tie" rY ["places","thing"] fT uv)(T:bt mg):av P w K mg base aB 3 f fd ["places","ties"] CF:=by
 have GT:av P w K mg base aB 2 fT uv ["places","thing"] (Hk (K:=K)):=LI DT.fn DA T;refine F.ok UB (λvs H Q E h=>?_) (λcdv A outer s H vs Q E hr h=>?_)
 ·obtain⟨a,b,ns,ts,ps,rfl,_⟩:=h;rfl
 ·obtain⟨a,b,ns,ts,ps,rfl,ha,hb,hT,hI,aJ,k⟩:=h;obtain⟨t30,h30⟩:=T.eG;refine⟨_,ag (bu (PW.pt (fG (bO (bG (ay (bQ (T:="list")) (by rfl) T.dW abm (aa (pv 1) (aa (dg (v:=.ty "list") rfl T.list aa1 rfl) ae))) (λ_=>rfl)))
    (fh (aQ oA (ay aA (by rfl) T.len aax (aa (pv 1) ae)) (rL (v:=.int 30) rfl h30 ⟨_,rfl⟩) (aV _))))) (ao cN) aT)
   (ao (bu (bO (bG (ay (gg rfl) (by rfl) T.all acV (aa (cZ ["tie"] [0] rfl (bq (osc:=(ak oF).names) (N:=["places","ties"]) rfl rfl (by decide +kernel)) (bx (by decide)) (bg (pv 1)) (λ_ _ _=>aD (i:=0) (show(["tie","places"]:List Str).Nodup by decide +kernel) rfl (Or.inl rfl)) (λ_ _ _=>bK)
     (λ_ _ _=>ar GT hr rfl DT.aK DT.fn.kp DT.b .nil ax (aa (pv 1) (aa (pv 0) ae)))) ae)) (λ_=>rfl))) (ao cN) aT)),?_⟩
  try rw[bw]
  have le:(ts.map V.ref).length=ps.length:=by rw[aak,hT.len]
  refine⟨_,rfl,_,_,true,rfl,.lst hb,rfl,_,rfl,?_⟩;refine aZ ⟨_,rfl,b,_,rfl,.inl (aj.of hb),_,_,rfl,rfl,_,rfl,?_⟩;rw[le];refine cR (λz=>absurd z (by simp;omega)) (λ_=>?_);refine⟨_,rfl,b,rfl,⟨_,aj.of hb⟩,cA (K:=K) (xs:=ts.map V.ref) (λi ys H2=>au H H2/\ys=List.replicate i (V.bl true)) ⟨au.refl _,rfl⟩ ?_ ?_ ?_ ?_⟩
  ·rintro i ys H2 hi ⟨_,rfl⟩;rw[abI];rw[le] at hi;exact aap hi (aap aJ (by decide))
  ·rintro i ys H2 _ ⟨s2,_⟩;exact aj.of (s2 _ _ hb)
  ·rintro i x ys H2 R hx ⟨s2,rfl⟩ kR;rw[aaq] at hx;obtain⟨t,et,rfl⟩:=aar.mp hx;obtain⟨p,ep,ht⟩:=hT.get et;obtain⟨i1,i2⟩:=hI p (aat ep);simp only[dB,bh,aa4];refine⟨_,rfl,_,rfl,a,ns,t,p.1,p.2,rfl,aj.of (s2 _ _ ha),s2 _ _ ht,?_⟩;rw[decide_eq_true i1,decide_eq_true i2];exact kR _ _ ⟨s2,by rw[acg];rfl⟩
  ·rintro ys H2 ⟨s2,rfl⟩ D hD;have e:List.replicate (ts.map V.ref).length (V.bl true)=(List.replicate (ts.map V.ref).length true).map V.bl:=by simp
   refine⟨D,List.replicate (ts.map V.ref).length true,rfl,(by rw[e];exact aj.of af),_,rfl,?_⟩;have e2:(List.replicate (ts.map V.ref).length true).all id=true:=by simp
   rw[e2];exact aZ (k _ (s2.trans (ai hD)))
end
structure WC(K:PySem.W.Frag)(mg:Str->Option Value)(C:Addr):Prop where
 cl:oR K C
 nP:i5 K C "kept_places"
 nT:i5 K C "kept_ties"
 Q4:mg "Web" = some (.ref C)
def wf(kp kt:Addr):List (Str×V):=[("kept_places",.ref kp),("kept_ties",.ref kt)]
def a8(C:Addr)(H:Hp)(x:Addr)(ns:List Str)(ps:List (Str×Str)):Prop:=
 ∃dx kp kt ts,H x=some (.ins C dx (wf kp kt))/\H kp=some (.tup ((aF ns).map V.str))/\H kt=some (.tup (ts.map V.ref))/\aS H ts ps
theorem a8.same{C:Addr}{H H':Hp}{x:Addr}{ns:List Str}{ps:List (Str×Str)}(h:a8 C H x ns ps)(s:au H H'):a8 C H' x ns ps:=
 let ⟨dx,kp,kt,ts,h1,h2,h3,h4⟩:=h
 ⟨dx,kp,kt,ts,s _ _ h1,s _ _ h2,s _ _ h3,h4.same s⟩
theorem a8.but{C p:Addr}{H H':Hp}{x:Addr}{ns:List Str}{ps:List (Str×Str)}{xs:List V}(h:a8 C H x ns ps)(s:cb p H H')(hp:H p=some (.lst xs)):a8 C H' x ns ps:=
 let ⟨dx,kp,kt,ts,h1,h2,h3,h4⟩:=h
 ⟨dx,kp,kt,ts,s _ _ h1 (cF h1 hp (by intro z;cases z)),s _ _ h2 (cF h2 hp (by intro z;cases z)),s _ _ h3 (cF h3 hp (by intro z;cases z)),h4.but s (λys z=>by rw[hp] at z;cases z)⟩
theorem UC(kp kt:Addr):(wf kp kt).lookup ("kept_places" : Str)=some (V.ref kp):=rfl
theorem LJ(kp kt:Addr):(wf kp kt).lookup ("kept_ties" : Str)=some (V.ref kt):=by
 show List.lookup _ (_::_)=_
 rw[aba,show(("kept_ties" : Str)=="kept_places")=false by decide +kernel];rfl
theorem Pt(kp kt:Addr)(m:Str)(h1:(m==("kept_places" : Str))=false)(h2:(m==("kept_ties" : Str))=false):(wf kp kt).lookup m=none:=by
 show List.lookup _ (_::_)=_
 rw[aba,h1];show List.lookup _ (_::_)=_
 rw[aba,h2];rfl
section
variable {P:Program}{w:World}{K:PySem.W.Frag}{mg:Str->Option Value}{base:Heap}
structure Lists(H:Hp)(a b:Addr)(ns:List Str)(ps:List (Str×Str))(ts:List Addr):Prop where
 ha:H a=some (.lst (ns.map V.str))
 hb:H b=some (.lst (ts.map V.ref))
 hT:aS H ts ps
 good:jC ns
 ins:jd ns ps
 aJ:ps.length<=30
theorem Lists.same{H H':Hp}{a b:Addr}{ns:List Str}{ps:List (Str×Str)}{ts:List Addr}(h:Lists H a b ns ps ts)(s:au H H'):Lists H' a b ns ps ts:=⟨s _ _ h.ha,s _ _ h.hb,h.hT.same s,h.good,h.ins,h.aJ⟩
def CG(C:Addr):Sp:=λvs H Q _=>∃(x a b:Addr) (ns:List Str) (ps:List (Str×Str)) (ts:List Addr),vs=[.ref x,.ref a,.ref b]/\(∃dx,H x=some (.ins C dx []))/\Lists H a b ns ps ts/\∀H',a8 C H' x ns ps->cb x H H'->Q .bz H'
theorem UD:aG ["self","places","ties"] ["self","places","ties"] (ak qL):=⟨rfl,rfl,rfl,by decide +kernel,rfl,by decide +kernel,by decide +kernel⟩
theorem Jz{C f fN fA fT f1 f2:Addr}{fd yV cO uv Hl Hm:FuncData}(F:a7 K "__init__" "Web.__init__" qL f fd)(W:WC K mg C)(DN:Df K mg "is_name" mF ["thing"] fN yV)(DA:Df K mg "is_among" jc ["places","thing"] fA cO)(DT:Df K mg "is_tie" rY ["places","thing"] fT uv)
  (D1:Df K mg "check_places" oE ["places"] f1 Hl) (D2:Df K mg "check_ties" oF ["places","ties"] f2 Hm) (T:bt mg):av P w K mg base aB 4 f fd ["self","places","ties"] (CG C):=by
 have G1:av P w K mg base aB 2 f1 Hl ["places"] CD:=Jx D1.fn DN T;have G2:av P w K mg base aB 3 f2 Hm ["places","ties"] CF:=Jy D2.fn DA DT T;refine F.ok UD (λvs H Q E h=>?_) (λcdv A outer s H vs Q E hr h=>?_)
 ·obtain⟨x,a,b,ns,ps,ts,rfl,_⟩:=h;rfl
 ·obtain⟨x,a,b,ns,ps,ts,rfl,⟨dx,hx⟩,L,k⟩:=h;refine⟨_,ag (aW (ar G1 (hr.mono (by decide)) rfl D1.aK D1.fn.kp D1.b .nil ax (aa (pv 1) ae)))
   (ag (aW (ar G2 (hr.mono (by decide)) rfl D2.aK D2.fn.kp D2.b .nil ax (aa (pv 1) (aa (pv 2) ae))))
   (ag (B2 (pv 0) (bp cH (by rfl) T.tuple aa5 (aa (ay kg (by rfl) T.sorted acT (aa (pv 1) ae)) ae)) rfl)
   (ao (B2 (pv 0) (bp cH (by rfl) T.tuple aa5 (aa (cZ ["a","b"] [] rfl (bq (osc:=(ak qL).names) (N:=["self","places","ties"]) rfl rfl (by decide +kernel)) (iB (k:=2) (by decide) (by decide)) (bg (pv 2))
    (λ_ _ _=>cI (n:=2) rfl (aO (aD (i:=0) (show(["a","b"]:List Str).Nodup by decide +kernel) rfl (Or.inl rfl)) (aO (aD (i:=1) (show(["a","b"]:List Str).Nodup by decide +kernel) rfl (Or.inl rfl)) cg))) (λ_ _ _=>bK)
    (λ_ _ _=>c7 (aa (pv 0) (aa (pv 1) ae)))) ae)) rfl)))),?_⟩
  try rw[bw]
  refine⟨_,rfl,a,ns,rfl,L.ha,L.good,λH1 s1=>?_⟩;have L1:=L.same s1;refine⟨_,rfl,_,rfl,a,b,ns,ts,ps,rfl,L1.ha,L1.hb,L1.hT,L1.ins,L1.aJ,λH2 s2=>?_⟩;have WS:=L1.same s2;refine⟨_,rfl,a,ns,rfl,aj.of WS.ha,abJ L.good.aJ (by decide),λl hl=>?_⟩;refine⟨l,_,rfl,.inl ⟨aj.of af,λkp WT=>?_⟩⟩;have s3:au H2 (upd (upd H2 l (.lst ((aF ns).map V.str))) kp (.tup ((aF ns).map V.str))):=(ai hl).trans (ai WT);have s03:=(s1.trans s2).trans s3;have E7:=af (H:=upd H2 l (.lst ((aF ns).map V.str))) (a:=kp) (o:=.tup ((aF ns).map V.str));generalize upd (upd H2 l (.lst ((aF ns).map V.str))) kp (.tup ((aF ns).map V.str))=H3 at s3 s03 E7⊢;have CH:=s03 _ _ hx;refine⟨_,rfl,x,C,dx,_,rfl,CH,W.cl,W.nP,(by show 0<1000;decide),?_⟩;have L3:=L.same s03;have WU:a≠x:=cF L3.ha CH (by intro z;cases z);have WV:b≠x:=cF L3.hb CH (by intro z;cases z);have WW:kp≠x:=cF E7 CH (by intro z;cases z);have L4:Lists (upd H3 x (.ins C dx (dH "kept_places" (.ref kp) []))) a b ns ps ts:=⟨by rw[aq WU];exact L3.ha,by rw[aq WV];exact L3.hb,L3.hT.mono λt xs e=>by rw[aq (cF e CH (by intro z;cases z))];exact e,L.good,L.ins,L.aJ⟩
  have b4:cb x H (upd H3 x (.ins C dx (dH "kept_places" (.ref kp) []))):=λc o e n=>by rw[aq n];exact s03 _ _ e
  have Q5:=af (H:=H3) (a:=x) (o:=.ins C dx (dH "kept_places" (.ref kp) []));have E8:(upd H3 x (.ins C dx (dH "kept_places" (.ref kp) []))) kp=some (.tup ((aF ns).map V.str)):=by rw[aq WW];exact E7
  generalize upd H3 x (.ins C dx (dH "kept_places" (.ref kp) []))=H4 at L4 b4 Q5 E8⊢;have le:(ts.map V.ref).length=ps.length:=by rw[aak,L.hT.len]
  refine⟨_,rfl,b,rfl,⟨_,aj.of L4.hb⟩,cA (K:=K) (xs:=ts.map V.ref) (λi ys H5=>au H4 H5/\∃us:List Addr,ys=us.map V.ref/\us.length=i/\aS H5 us (ps.take i)) ⟨au.refl _,[],rfl,rfl,.nil⟩ ?_ ?_ ?_ ?_⟩
  ·rintro i ys H5 hi ⟨_,us,rfl,e,_⟩;rw[aak,e];rw[le] at hi;exact aap hi (aap L.aJ (by decide))
  ·rintro i ys H5 _ ⟨s5,_⟩;exact aj.of (s5 _ _ L4.hb)
  ·rintro i y ys H5 R hy ⟨s5,us,rfl,e,hU⟩ kR;rw[aaq] at hy;obtain⟨t,et,rfl⟩:=aar.mp hy;obtain⟨p,ep,ht⟩:=L4.hT.get et;refine⟨t,_,rfl,aL.of (s5 _ _ ht),rfl,_,_,rfl,_,_,rfl,rfl,?_⟩;simp only[dB,aa4];refine⟨_,rfl,_,rfl,(by show 2<=sizeLine;decide),λu hu=>?_⟩;have e2:us.map V.ref++[V.ref u]=(us++[u]).map V.ref:=by simp
   refine kR _ _ ⟨s5.trans (ai hu),us++[u],e2,by simp[e],?_⟩;rw[aaI,ep];exact(hU.same (ai hu)).snoc af
  ·rintro ys H5 ⟨s5,us,rfl,e,hU⟩ D hD;rw[le,aaF (aal _)] at hU;refine⟨D,_,rfl,.inl ⟨aj.of af,λkt Q6=>?_⟩⟩;have s6:au H4 (upd (upd H5 D (.lst (us.map V.ref))) kt (.tup (us.map V.ref))):=s5.trans ((ai hD).trans (ai Q6));have Q7:=hU.same ((ai (o:=.lst (us.map V.ref)) hD).trans (ai (o:=.tup (us.map V.ref)) Q6));have E9:=af (H:=upd H5 D (.lst (us.map V.ref))) (a:=kt) (o:=.tup (us.map V.ref));generalize upd (upd H5 D (.lst (us.map V.ref))) kt (.tup (us.map V.ref))=H6 at s6 Q7 E9⊢;have Hn:=s6 _ _ Q5;refine⟨_,rfl,x,C,dx,_,rfl,Hn,W.cl,W.nT,(by show 1<1000;decide),?_⟩;refine k _ ⟨dx,kp,kt,us,?_,?_,?_,?_⟩ λc o e n=>?_
   ·rw[af];show some (HO.ins C dx (dH "kept_ties" (.ref kt) (dH "kept_places" (.ref kp) [])))=_
    rfl
   ·rw[aq (cF (s6 _ _ E8) Hn (by intro z;cases z))];exact s6 _ _ E8
   ·rw[aq (cF E9 Hn (by intro z;cases z))];exact E9
   ·exact Q7.mono λt xs e=>by rw[aq (cF e Hn (by intro z;cases z))];exact e
   ·rw[aq n];exact s6 _ _ (b4 c o e n)
def jq(C:Addr):Sp:=λvs H Q _=>∃(x:Addr) (ns:List Str) (ps:List (Str×Str)),vs=[.ref x]/\a8 C H x ns ps/\∀l,H l=none->Q (.ref l) (upd H l (.lst ((aF ns).map V.str)))
theorem UE:aG ["self"] ["self"] (ak oG):=⟨rfl,rfl,rfl,by decide +kernel,rfl,by decide +kernel,by decide +kernel⟩
theorem c9{C f:Addr}{fd:FuncData}(F:a7 K "places" "Web.places" oG f fd)(W:WC K mg C)(T:bt mg):av P w K mg base aB 1 f fd ["self"] (jq C):=by
 refine F.ok UE (λvs H Q E h=>?_) (λcdv A outer s H vs Q E hr h=>?_)
 ·obtain⟨x,ns,ps,rfl,_⟩:=h;rfl
 ·obtain⟨x,ns,ps,rfl,⟨dx,kp,kt,ts,h1,h2,h3,h4⟩,k⟩:=h;refine⟨_,ao (aI (bp cE (by rfl) T.list aa1 (aa (vF (pv 0) rfl) ae))),?_⟩;try rw[bw]
  exact⟨_,rfl,x,C,dx,_,_,rfl,h1,W.cl,W.nP,UC kp kt,kp,_,rfl,.inr (aL.of h2),k⟩
def AO(C:Addr):Sp:=λvs H Q _=>∃(x:Addr) (ns:List Str) (ps:List (Str×Str)),vs=[.ref x]/\a8 C H x ns ps/\∀l us,H l=none->aS H us ps->Q (.ref l) (upd H l (.lst (us.map V.ref)))
theorem UG:aG ["self"] ["self"] (ak vf):=⟨rfl,rfl,rfl,by decide +kernel,rfl,by decide +kernel,by decide +kernel⟩
theorem si{C f:Addr}{fd:FuncData}(F:a7 K "ties" "Web.ties" vf f fd)(W:WC K mg C)(T:bt mg):av P w K mg base aB 1 f fd ["self"] (AO C):=by
 refine F.ok UG (λvs H Q E h=>?_) (λcdv A outer s H vs Q E hr h=>?_)
 ·obtain⟨x,ns,ps,rfl,_⟩:=h;rfl
 ·obtain⟨x,ns,ps,rfl,⟨dx,kp,kt,ts,h1,h2,h3,h4⟩,k⟩:=h;refine⟨_,ao (aI (bp cE (by rfl) T.list aa1 (aa (vF (pv 0) rfl) ae))),?_⟩;try rw[bw]
  exact⟨_,rfl,x,C,dx,_,_,rfl,h1,W.cl,W.nT,LJ kp kt,kt,_,rfl,.inr (aL.of h3),λl hl=>k l ts hl h4⟩
def LK(C:Addr):Sp:=λvs H Q _=>∃(x:Addr) (ns:List Str) (ps:List (Str×Str)),vs=[.ref x]/\a8 C H x ns ps/\Q (.int ps.length) H
theorem UH:aG ["self"] ["self"] (ak ve):=⟨rfl,rfl,rfl,by decide +kernel,rfl,by decide +kernel,by decide +kernel⟩
theorem JA{C f:Addr}{fd:FuncData}(F:a7 K "many" "Web.many" ve f fd)(W:WC K mg C)(T:bt mg):av P w K mg base aB 1 f fd ["self"] (LK C):=by
 refine F.ok UH (λvs H Q E h=>?_) (λcdv A outer s H vs Q E hr h=>?_)
 ·obtain⟨x,ns,ps,rfl,_⟩:=h;rfl
 ·obtain⟨x,ns,ps,rfl,⟨dx,kp,kt,ts,h1,h2,h3,h4⟩,k⟩:=h;refine⟨_,ao (aI (ay aA (by rfl) T.len aax (aa (vF (pv 0) rfl) ae))),?_⟩;try rw[bw]
  refine⟨_,rfl,x,C,dx,_,_,rfl,h1,W.cl,W.nT,LJ kp kt,kt,_,rfl,.inr (aL.of h3),?_⟩;rw[aak,h4.len];exact k
end
end dJ
namespace L2
open PySem PySem.Spec PyProof.Rows
abbrev one(c:Nat):Str:=⟨#[c]⟩
theorem uw:∀(cs:List Nat) (acc:Array Nat),((cs.map one).foldl (λacc p=>acc++("" : Str).cps++p.cps) acc).toList=acc.toList++cs
 |[],acc=>by simp
 |c::cs,acc=>by
  have e:("" : Str).cps=#[]:=by decide +kernel
  rw[aaQ,abV,uw cs,e];simp
theorem join_ones{cs:List Nat}(h:cs≠[]):(Txt.join "" (cs.map one)).cps.toList=cs:=by
 cases cs with
 |nil=>exact absurd rfl h
 |cons c r=>
  show((r.map one).foldl (λacc p=>acc++("" : Str).cps++p.cps) (one c).cps).toList=_
  rw[uw];rfl
theorem JB{α:Type}{xs:List α}{i:Int}{v:α}(h:eF xs i=some v):v∈xs:=by unfold eF at h;obtain⟨j,_,e⟩:=Option.bind_eq_some_iff.mp h;exact aat e
end L2
namespace dJ
open PySem PySem.Spec PyProof.Rows L2
abbrev oS:Str:="abcdefghijklmnopqrstuvwxyz"
theorem CI:∀c∈oS.cps.toList,(lo c&&hi c)=true:=by decide +kernel
theorem Pu{z:Str}{cs:List Nat}(e:z.cps.toList=cs)(h1:1<=cs.length)(h8:cs.length<=8)(h:∀c∈cs,(lo c&&hi c)=true):nm z=true:=by
 have l:z.length=cs.length:=by rw[<-e];exact aaV.symm
 unfold nm;rw[l,decide_eq_true h1,decide_eq_true h8,e];simp only[Bool.and_self,ab',acj,abE];exact λc hc=>h c hc
section
variable {P:Program}{w:World}{K:PySem.W.Frag}{mg:Str->Option Value}{base:Heap}
theorem Row.lst{H:Hp}{p:Addr}(h:Row H p):∃xs,H p=some (.lst xs):=let ⟨a,b,e⟩:=h;⟨_,e⟩
theorem Row.aq{H:Hp}{p q:Addr}{o:HO}(h:Row H p)(n:p≠q):Row (upd H q o) p:=let ⟨a,b,e⟩:=h;⟨a,b,by rw[L2.aq n];exact e⟩
theorem cb.ba{p q:Addr}{H H1:Hp}{o:HO}(a:cb p H H1)(hq:H q=none):cb p H (upd H1 q o):=λc u e n=>by rw[L2.aq (aw e hq)];exact a c u e n
end
abbrev wj:Stmt:=top 69 -- UJ
abbrev fu:Stmt:=top 70 -- Pw
abbrev lF:Stmt:=top 71 -- Px
abbrev mG:Stmt:=top 72 -- KQ
theorem low{A:Around}{k:Nat}(n:Nat)(hr:cW k A)(h:n<=63:=by decide):A.units+n+1<cLine:=by have:=hr.units;omega
theorem au.ba{H H1:Hp}{q:Addr}{o:HO}(s:au H H1)(hq:H q=none):au H (upd H1 q o):=λb u e=>by rw[L2.aq (aw e hq)];exact s b u e
theorem au.but{H H1 H2:Hp}{p:Addr}(s:au H H1)(b:cb p H1 H2)(hp:H p=none):au H H2:=λc u e=>b c u (s c u e) (aw e hp)
theorem cb.none{p t:Addr}{H H':Hp}(b:cb p H H')(ht:H' t=none)(n:t≠p):H t=none:=by
 cases e:H t with
 |none=>rfl
 |some o=>exact absurd (b _ _ e n) (by rw[ht];intro z;cases z)
section
variable {P:Program}{w:World}{K:PySem.W.Frag}{mg:Str->Option Value}{base:Heap}
def Ho:Sp:=λvs H Q _=>∃(a:Addr) (ns:List Int) (k:Nat),vs=[.ref a,.int k]/\aj K H a (ns.map V.int)/\ns.length<=63/\∀(p:Addr) (H':Hp),H p=none->Row H' p->au H H'->Q (.ref p) H'
abbrev WX:List Str:=["_law_script","_law_k","_law_cell"]
theorem Fb:aG WX ["_law_script","_law_k"] (ak wj):=⟨rfl,rfl,rfl,by decide +kernel,rfl,by decide +kernel,by decide +kernel⟩
theorem yW{H:Hp}{Q:VK}(k:∀(p:Addr) (H':Hp),H p=none->Row H' p->au H H'->Q (.ref p) H')(a b:Int)(p:Addr)(hp:H p=none):Q (.ref p) (upd H p (.lst [.int a,.int b])):=
 k p _ hp ⟨a,b,af⟩ λc o e=>by rw[aq (aw e hp)];exact e
theorem LL{f:Addr}{fd:FuncData}(F:a7 K "_law_pot" "_law_pot" wj f fd)(T:bt mg)(ab:mg "abs" = none):av P w K mg base aB 1 f fd ["_law_script","_law_k"] (Ho (K:=K)):=by
 refine F.ok Fb (λvs H Q E h=>?_) (λcdv A outer s H vs Q E hr h=>?_)
 ·obtain⟨a,ns,k,rfl,_⟩:=h;rfl
 ·obtain⟨a,ns,n,rfl,hS,hl,k⟩:=h;refine⟨_,ag (aN (i:=2) Fb.nd rfl (Or.inl rfl) aE)
   (ag (bu (aQ iw (pv 1) (ay aA (by rfl) T.len aax (aa (pv 0) ae)) (aV _)) (ao (aN (i:=2) Fb.nd rfl (Or.inl rfl) (bj aX (pv 0) (pv 1) (λ_ _=>rfl)))) aT)
   (ao (aI (bR (aa (ay (tT rfl) (by rfl) T.max boot_max (aa aE (aa (bV qv (ay vE (by rfl) ab aeb (aa (pv 2) ae)) (bV Lc aE aE)) ae)))
    (aa (bV eE (bV eE (bV qx (ay vE (by rfl) ab aeb (aa (pv 2) ae)) aE) (bV vD aE (pv 1))) aE) ae)))))),?_⟩
  try rw[bw]
  refine⟨_,rfl,_,rfl,a,_,rfl,.inl hS,_,_,rfl,rfl,_,rfl,?_⟩;refine cR (λhlt=>?_) (λhlt=>?_)
  ·have Fc:n<ns.length:=by simpa using hlt
   refine⟨_,rfl,_,rfl,a,_,_,_,rfl,rfl,hS,bc (j:=n) (v:=.int ns[n]) (by simp[Fc]),?_⟩;refine⟨_,rfl,_,rfl,_,_,rfl,rfl,⟨by decide,by decide,by decide⟩,_,_,rfl,rfl,_,_,rfl,?_⟩;refine⟨_,rfl,_,rfl,_,_,rfl,rfl,(by show(0:Int)<2147483629;decide),_,rfl,_,_,rfl,rfl,.inl ⟨by decide,by decide⟩,_,_,rfl,rfl,_,_,rfl,rfl,?_⟩;exact⟨(by show 2<=sizeLine;decide),yW k _ _⟩
  ·refine⟨_,rfl,_,rfl,_,_,rfl,rfl,⟨by decide,by decide,by decide⟩,_,_,rfl,rfl,_,_,rfl,?_⟩;refine⟨_,rfl,_,rfl,_,_,rfl,rfl,(by show(0:Int)<2147483629;decide),_,rfl,_,_,rfl,rfl,.inl ⟨by decide,by decide⟩,_,_,rfl,rfl,_,_,rfl,rfl,?_⟩;exact⟨(by show 2<=sizeLine;decide),yW k _ _⟩
def mH:Sp:=λvs H Q _=>∃(p:Addr) (m:Int),vs=[.ref p,.int m]/\Row H p/\0<m/\m<1000/\∀(d:Int) (H':Hp),0<=d->d<m->Row H' p->cb p H H'->Q (.int d) H'
abbrev WY:List Str:=["_law_pot_here","_law_many","_law_digit_here"]
theorem LM:aG WY ["_law_pot_here","_law_many"] (ak fu):=⟨rfl,rfl,rfl,by decide +kernel,rfl,by decide +kernel,by decide +kernel⟩
theorem gn{f:Addr}{fd:FuncData}(F:a7 K "_law_digit" "_law_digit" fu f fd)(T:bt mg):av P w K mg base aB 1 f fd ["_law_pot_here","_law_many"] mH:=by
 refine F.ok LM (λvs H Q E h=>?_) (λcdv A outer s H vs Q E hr h=>?_)
 ·obtain⟨p,m,rfl,_⟩:=h;rfl
 ·obtain⟨p,m,rfl,⟨a,b,hp⟩,m0,m1,k⟩:=h;refine⟨_,ag (bu (aQ oA (bj aX (pv 0) aE (λ_ _=>rfl)) aE (aV _))
   (ag (aN (i:=2) LM.nd rfl (Or.inl rfl) (bV qx (bj aX (pv 0) aE (λ_ _=>rfl)) (pv 1)))
   (ag (iu (bV yE (bj aX (pv 0) aE (λ_ _=>rfl)) (pv 1)) (qq (pv 0) aE set_list)) (ao (aI (pv 2))))) aT)
   (ag (iu (bV qx (bV eE (bV vD (bj aX (pv 0) aE (λ_ _=>rfl)) aE) aE) aE) (qq (pv 0) aE set_list))
   (ao (aI (bV qx (bV yE (bj aX (pv 0) aE (λ_ _=>rfl)) aE) (pv 1))))),?_⟩
  try rw[bw]
  refine⟨_,rfl,p,_,_,_,rfl,rfl,aj.of hp,bc (j:=0) rfl,?_⟩;refine⟨_,_,rfl,rfl,_,rfl,?_⟩;refine cR (λha=>?_) (λha=>?_)
  ·refine⟨_,rfl,p,_,_,_,rfl,rfl,aj.of hp,bc (j:=0) rfl,_,rfl,_,_,rfl,rfl,m0,?_⟩;refine⟨_,rfl,p,_,_,_,rfl,rfl,aj.of hp,bc (j:=0) rfl,_,rfl,_,_,rfl,rfl,⟨m0,Int.lt_trans m1 (by decide)⟩,?_⟩;refine⟨_,rfl,p,_,_,0,rfl,rfl,hp,rfl,_,rfl,?_⟩;refine k _ _ (adQ _ (by omega)) (adi _ m0) ⟨_,_,af⟩ λc o e hc=>?_;rw[aq hc];exact e
  ·refine⟨_,rfl,p,_,_,_,rfl,rfl,aj.of hp,bc (j:=1) rfl,_,_,rfl,rfl,.inr ⟨by decide,by decide⟩,_,_,rfl,rfl,_,_,rfl,rfl,(by show(0:Int)<2147483629;decide),?_⟩;refine⟨_,rfl,p,_,_,1,rfl,rfl,hp,rfl,?_⟩;refine⟨_,rfl,p,_,_,_,rfl,rfl,aj.of af,bc (j:=1) rfl,_,_,rfl,rfl,⟨by decide,by decide⟩,_,rfl,_,_,rfl,rfl,m0,?_⟩;refine k _ _ (adQ _ (by omega)) (adi _ m0) ⟨_,_,af⟩ λc o e hc=>?_;rw[aq hc];exact e
end
end dJ
namespace L2
open PySem PySem.Spec PyProof.Rows
inductive dc (ps:List (Str×Str)):Str->Str->Prop where
 |here (a:Str):dc ps a a
 |on {a b c:Str} (h:dc ps a b) (t:(b,c)∈ps):dc ps a c
theorem dc.trans{ps:List (Str×Str)}{a b c:Str}(h:dc ps a b)(k:dc ps b c):dc ps a c:=by
 induction k with
 |here=>exact h
 |on _ t ih=>exact ih.on t
theorem dc.one{ps:List (Str×Str)}{a b:Str}(t:(a,b)∈ps):dc ps a b:=(dc.here a).on t
theorem dc.mono{ps qs:List (Str×Str)}{a b:Str}(h:dc ps a b)(s:∀p∈ps,p∈qs):dc qs a b:=by
 induction h with
 |here=>exact .here _
 |on _ t ih=>exact ih.on (s _ t)
theorem dc.isin{ns:List Str}{ps:List (Str×Str)}(hi:∀p∈ps,p.1∈ns/\p.2∈ns){a b:Str}(h:dc ps a b)(ha:a∈ns):b∈ns:=by
 cases h with
 |here=>exact ha
 |on _ t=>exact(hi _ t).2
theorem dc.stays{ps:List (Str×Str)}{S:Str->Prop}{a b:Str}(h:dc ps a b)(ha:S a)(hc:∀p∈ps,S p.1->S p.2):S b:=by
 induction h with
 |here=>exact ha
 |on _ t ih=>exact hc _ t ih
open Classical in
noncomputable def nH(ns:List Str)(ps:List (Str×Str))(a:Str):List Str:=aF (ns.filter λz=>decide (dc ps a z))
theorem yX{α:Type}[DecidableEq α]:∀{l m:List α},l.Nodup->m.Nodup->(∀x,x∈l ↔ x∈m)->l.Perm m:=λhl hm h=>(adn hl hm).mpr h
theorem pS{l m:List Str}(hl:l.Nodup)(hm:m.Nodup)(h:∀x,x∈l ↔ x∈m):aF l=aF m:=
 ja ((fe l).trans (yX hl hm h)) (lD l)
theorem eI{l:List Str}{x:Str}:x∈aF l ↔ x∈l:=(fe l).mem_iff
theorem nI{l:List Str}(h:l.Nodup):(aF l).Nodup:=(fe l).nodup_iff.mpr h
theorem JC{ns:List Str}{ps:List (Str×Str)}{a z:Str}:z∈nH ns ps a ↔ z∈ns/\dc ps a z:=by unfold nH;rw[eI,aaU];simp
theorem CJ{ns zs:List Str}{ps:List (Str×Str)}{a:Str}(hn:ns.Nodup)(hz:zs.Nodup)(hi:∀p∈ps,p.1∈ns/\p.2∈ns)(ha:a∈ns)(h:∀z,z∈zs ↔ dc ps a z):aF zs=nH ns ps a:=by refine pS hz (hn.filter _) λx=>?_;rw[h,aaU];simp only[abi];exact⟨λr=>⟨r.isin hi ha,r⟩,λr=>r.2⟩
theorem yY(l:List Str):aF (aF l)=aF l:=(ja (fe (aF l) |>.trans (fe l)) (lD (aF l)))
def outs(ps:List (Str×Str))(a:Str):List Str:=(ps.filter λp=>decide (p.1=a)).map (·.2)
theorem wk{ps:List (Str×Str)}{a b:Str}:b∈outs ps a ↔ (a,b)∈ps:=by
 unfold outs;rw[aaN];constructor
 ·rintro⟨p,hp,rfl⟩;obtain⟨h1,h2⟩:=aaU.mp hp
  have:p.1=a:=by simpa using h2
  rw[<-this];exact h1
 ·intro h;exact⟨(a,b),aaU.mpr ⟨h,by simp⟩,rfl⟩
theorem CK(ps:List (Str×Str))(p:Str×Str)(a:Str):outs (ps++[p]) a=if p.1=a then outs ps a++[p.2] else outs ps a:=by unfold outs;rw[abt,aaY];by_cases h:p.1=a<;>simp[h]
theorem Fd(ps:List (Str×Str))(a:Str):(outs ps a).length<=ps.length:=by unfold outs;rw[aak];exact aa' _ _
theorem gF{l m:List Str}(hl:l.Nodup)(h:∀x∈l,x∈m):l.length<=m.length:=by
 induction l generalizing m with
 |nil=>exact aaZ _
 |cons x l ih=>
  rw[aa6] at hl;have hx:=h x aau;have q:=ih (m:=m.erase x) hl.2 λy hy=>(aen (λe:y=x=>hl.1 (e▸hy))).mpr (h y (aaw _ hy));rw[acJ hx] at q
  have:0<m.length:=abR hx
  simp only[aa0];omega
end L2
namespace dJ
open PySem PySem.Spec PyProof.Rows L2
section
variable {P:Program}{w:World}{K:PySem.W.Frag}{mg:Str->Option Value}{base:Heap}
def dX(ns:List Str):Prop:=∀(j:Nat) (z:Str),ns[j]?=some z->∃(c:Nat) (r:List Nat),oS.cps.toList[j]?=some c/\z.cps.toList=c::r
theorem wm:∀(j:Nat),j<26->oS.cps.toList[j]?=some (97+j):=by decide +kernel
theorem dX.nil:dX []:=λj z h=>by simp at h
theorem dX.snoc{ns:List Str}{z:Str}{c:Nat}{r:List Nat}(h:dX ns)(hc:oS.cps.toList[ns.length]?=some c)(e:z.cps.toList=c::r):dX (ns++[z]):=λj y hy=>by
 rcases acb j ns.length with q|q|q
 ·rw[abf q] at hy;exact h j y hy
 ·subst q;rw[abn (aal _)] at hy;simp at hy;subst hy;exact⟨c,r,hc,e⟩
 ·rw[abn (abe q)] at hy
  have:j-ns.length=(j-ns.length-1)+1:=by omega
  rw[this] at hy;simp at hy
theorem dX.lt{ns:List Str}(h:dX ns)(hl:ns.length<=26){i j:Nat}{a b:Str}(hij:i<j)(ha:ns[i]?=some a)(hb:ns[j]?=some b):a.cps.toList<b.cps.toList:=by have hj:j<ns.length:=(aaH.mp hb).1;obtain⟨c,r,hc,ea⟩:=h i a ha;obtain⟨d,q,hd,eb⟩:=h j b hb;rw[wm i (by omega)] at hc;rw[wm j (by omega)] at hd;cases hc;cases hd;rw[ea,eb];exact List.Lex.rel (by omega)
theorem dX.pw{ns:List Str}(h:dX ns)(hl:ns.length<=26):ns.Pairwise λa b=>a.cps.toList<b.cps.toList:=
 abj.mpr λi j hi hj hij=>h.lt hl hij (by simp[hi]) (by simp[hj])
theorem dX.Py{ns:List Str}(h:dX ns)(hl:ns.length<=26):aF ns=ns:=
 (ja (.refl _) ((h.pw hl).imp λ{a b} q=>gE.mpr (List.le_of_lt q))).symm
theorem dX.nd{ns:List Str}(h:dX ns)(hl:ns.length<=26):ns.Nodup:=(h.pw hl).imp λ{a b} q e=>by rw[e] at q;exact afp _ q
theorem AQ{cs:List Nat}:(Txt.join "" (cs.map one)).cps.toList=cs:=by
 cases cs with
 |nil=>rfl
 |cons c r=>exact join_ones (by simp)
def yZ:Sp:=λvs H Q _=>∃(p:Addr) (m:Int),vs=[.ref p,.int m]/\0<m/\m<=12/\Row H p/\∀(q:Addr) (ns:List Str) (H':Hp),jC ns->aF ns=ns->H q=none->H' q=some (.lst (ns.map V.str))->Row H' p->cb p H H'->Q (.ref q) H'
abbrev Q8:List Str:=["_law_pot_here","_law_many","_law_letters","_law_found","_law_k","_law_tail"]
theorem wo:aG Q8 ["_law_pot_here","_law_many"] (ak lF):=⟨rfl,rfl,rfl,by decide +kernel,rfl,by decide +kernel,by decide +kernel⟩
def WZ(p q:Addr)(m:Int)(H:Hp)(i:Nat)(σ:L2.St)(H2:Hp):Prop:=∃(v4 v5:Option V) (ns:List Str),σ=[some (V.ref p),some (V.int m),some (V.str oS),some (V.ref q),v4,v5]/\Row H2 p/\cb p H H2/\H2 q=some (.lst (ns.map V.str))/\ns.length=i/\(∀z∈ns,nm z=true)/\dX ns
theorem Fe(cs:List Nat):((cs.map one).map (·.length)).sum=cs.length:=by
 rw[acv];induction cs with
 |nil=>rfl
 |cons c r ih=>rw[aaQ,acU,ih];show 1+_=_;simp;omega
theorem Ff{f fD:Addr}{fd ig:FuncData}(F:a7 K "_law_names" "_law_names" lF f fd)(D:Df K mg "_law_digit" fu ["_law_pot_here","_law_many"] fD ig)(T:bt mg):av P w K mg base aB 2 f fd ["_law_pot_here","_law_many"] yZ:=by
 have G:av P w K mg base aB 1 fD ig ["_law_pot_here","_law_many"] mH:=gn D.fn T;refine F.ok wo (λvs H Q E h=>?_) (λcdv A outer s H vs Q E hr h=>?_)
 ·obtain⟨p,m,rfl,_⟩:=h;rfl
 ·obtain⟨p,m,rfl,m0,m12,hp,k⟩:=h;refine⟨_,ag (aN (i:=2) wo.nd rfl (Or.inr rfl) ip) (ag (aN (i:=3) wo.nd rfl (Or.inl rfl) (bR ae))
   (ag (cJ aaW rfl (dD rfl T.range (aa (pv 1) ae)) (aD (i:=4) wo.nd rfl (Or.inl rfl))
    (ag (hJ (i:=5) ["_law_j"] [2,0] wo.nd rfl rfl rfl (bq (osc:=(ak lF).names) (N:=Q8) rfl rfl (by decide +kernel)) (bx (by decide))
     (dD rfl T.range (aa (bj aX (bR (aa aE (aa aE (aa aE (aa aE ae))))) (ar G hr rfl D.aK D.fn.kp D.b .nil ax (aa (pv 0) (aa aE ae))) (λ_ _=>rfl)) ae))
     (λ_ _ _=>aD (i:=0) (show(["_law_j","_law_letters","_law_pot_here"]:List Str).Nodup by decide +kernel) rfl (Or.inl rfl)) (λ_ _ _=>bK)
     (λ_ _ _=>bj B7 (pv 1) (ar G hr rfl D.aK D.fn.kp D.b .nil ax (aa (pv 2) (aa aE ae))) (λ_ _=>rfl)))
    (ao (aW (cT aaJ aaO aaP bH (pv 3) (aa (bV Ar (bj B7 (pv 2) (pv 4) (λ_ _=>rfl)) (cT PySem.F.plainAttrs_str PySem.F.slot_str_join PySem.F.type_str_join Jq ip (aa (pv 5) ae))) ae))))))
   (ao (aI (pv 3))))),?_⟩
  try rw[bw]
  have LN:oS.length<=sizeLine:=by decide +kernel
  refine⟨(by decide),λq hq=>?_⟩;have je:p≠q:=aw hp.lst.choose_spec hq;refine⟨_,rfl,_,rfl,by omega,by omega,?_⟩;refine dS (WZ p q m H) ⟨_,_,[],rfl,hp.aq je,(cb.refl p H).ba hq,af,rfl,(λ_ z=>nomatch z),.nil⟩ ?_ ?_
  ·rintro i σ H2 hlt ⟨v4,v5,ns,rfl,gR,b2,fv,hl,hn,hF⟩;refine⟨(by show 4<=sizeLine;decide),λl0 jf=>?_⟩;have oT:p≠l0:=aw gR.lst.choose_spec jf;have LO:q≠l0:=aw fv jf;refine⟨_,rfl,p,4,rfl,gR.aq oT,by decide,by decide,λd0 H0 Q9 Ra CL b0=>?_⟩;have W3:cb p H H0:=b2.trans λc o e n=>b0 c o (by rw[L2.aq (aw e jf)];exact e) n;have qM:H0 q=some (.lst (ns.map V.str)):=b0 _ _ (by rw[L2.aq LO];exact fv) (aaX je);have UK:=b0 _ _ af (aaX oT);obtain⟨mm,em,W4,mm7⟩:∃mm:Int,eF [V.int 0,V.int 0,V.int 1,V.int 7] d0=some (.int mm)/\0<=mm/\mm<=7:=by
    have:d0=0\/d0=1\/d0=2\/d0=3:=by omega
    rcases this with rfl|rfl|rfl|rfl
    ·exact⟨0,rfl,by decide,by decide⟩
    ·exact⟨0,rfl,by decide,by decide⟩
    ·exact⟨1,rfl,by decide,by decide⟩
    ·exact⟨7,rfl,by decide,by decide⟩
   refine⟨l0,_,_,_,rfl,rfl,aj.of UK,em,_,rfl,by omega,by omega,?_⟩;refine E1 (λj ys H3=>Row H3 p/\cb p H H3/\H3 q=some (.lst (ns.map V.str))/\∃cs:List Nat,ys=(cs.map one).map V.str/\cs.length=j/\∀c∈cs,(lo c&&hi c)=true) ⟨CL,W3,qM,[],rfl,rfl,λ_ h=>nomatch h⟩ ?_ ?_ ?_
   ·rintro j ys H3 hj ⟨_,_,_,cs,rfl,hc,_⟩;rw[aak,aak,hc];exact aap hj (aap (show mm.toNat<=7 by omega) (by decide))
   ·rintro j ys H3 R hj ⟨oU,b3,dF,cs,rfl,hc,h1⟩ kR;simp only[dB,bh,aa4];refine⟨_,rfl,_,rfl,p,26,rfl,oU,by decide,by decide,λd2 H4 Hr Hs hp4 b4=>?_⟩;obtain⟨c,BS⟩:=LF (z:=oS) Hr (by rw[CC];exact Hs);refine⟨oS,d2,c,rfl,rfl,LN,BS,kR _ _ ⟨hp4,b3.trans b4,b4 _ _ dF (aaX je),cs++[c],by simp,by simp[hc],λy hy=>?_⟩⟩;rcases aaD.mp hy with z|z
    ·exact h1 y z
    ·rw[aaA.mp z];exact CI c (JB BS)
   ·rintro ys H3 ⟨oU,b3,dF,cs,rfl,hc,h1⟩ D0 i7;have W':p≠D0:=aw oU.lst.choose_spec i7;have Xa:q≠D0:=aw dF i7;have lG:(upd H3 D0 (.lst ((cs.map one).map V.str))) q=some (.lst (ns.map V.str)):=by rw[L2.aq Xa];exact dF
    have hp4:=oU.aq (o:=.lst ((cs.map one).map V.str)) W';have b4:cb p H (upd H3 D0 (.lst ((cs.map one).map V.str))):=λc o e n=>by have e3:=b3 c o e n;rw[L2.aq (aw e3 i7)];exact e3
    have nG:(upd H3 D0 (.lst ((cs.map one).map V.str))) D0=some (.lst ((cs.map one).map V.str)):=af;generalize upd H3 D0 (.lst ((cs.map one).map V.str))=H4 at lG hp4 b4 nG⊢;have Rb:cs.length<=7:=by rw[hc];omega
    have UL:ns.length<26:=by omega
    have LP:=wm ns.length UL;have e0:("" : Str).length=0:=by decide +kernel
    have UM:((cs.map one).map (·.length)).sum+(cs.map one).length*("" : Str).length<=7:=by rw[Fe,e0];omega
    have hix:eF oS.cps.toList (0+(i:Int))=some (97+ns.length):=by rw[Int.zero_add];exact bc (by rw[<-hl];exact LP)
    refine⟨_,rfl,.inl ⟨rfl,_,aj.of lG⟩,?_⟩;refine⟨_,rfl,_,rfl,oS,_,_,rfl,rfl,LN,hix,?_⟩;refine⟨rfl,_,rfl,"",D0,cs.map one,rfl,rfl,aj.of nG,aap UM (by decide),?_⟩;have ej:(Txt.join "" (cs.map one)).cps.toList=cs:=AQ;have lj:(Txt.join "" (cs.map one)).length=cs.length:=by show(Txt.join "" (cs.map one)).cps.size=_;rw[<-aaV,ej]
    have ez:((⟨#[97+ns.length]⟩:Str)++Txt.join "" (cs.map one)).cps.toList=(97+ns.length)::cs:=by
     show((#[97+ns.length]:Array Nat)++(Txt.join "" (cs.map one)).cps).toList=_
     rw[Array.toList_append,ej];rfl
    have l1:((⟨#[97+ns.length]⟩:Str)).length=1:=rfl;refine⟨_,_,rfl,rfl,by rw[l1,lj];exact aap (show 1+cs.length<=8 by omega) (by decide),?_⟩;generalize (⟨#[97+ns.length]⟩:Str)++Txt.join "" (cs.map one)=z at ez⊢;refine⟨q,_,_,rfl,rfl,lG,(by rw[aak];exact c8 (by omega)),?_⟩;have Xb:(lo (97+ns.length)&&hi (97+ns.length))=true:=CI _ (aat LP);have hz:nm z=true:=Pu ez (by simp) (by simp;omega) λc hc=>by
     rcases aav.mp hc with e|e
     ·rw[e];exact Xb
     ·exact h1 c e
    refine⟨_,_,ns++[z],rfl,hp4.aq je,b4.ba hq,?_,by simp[hl],?_,hF.snoc LP ez⟩
    ·rw[af];simp
    ·intro y hy;rcases aaD.mp hy with h|h
     ·exact hn y h
     ·rw[aaA.mp h];exact hz
  ·rintro σ H2 ⟨v4,v5,ns,rfl,gR,b2,fv,hl,hn,hF⟩;have Rc:ns.length<=12:=by rw[hl];omega
   exact⟨_,rfl,k q ns H2 ⟨by rw[hl];omega,Rc,hn,hF.nd (by omega)⟩ (hF.Py (by omega)) hq fv gR b2⟩
end
theorem iE{α:Type}{us:List α}{k:Nat}{y:α}(h:us[k]?=some y):(y::us.eraseIdx k).Perm us:=by
 induction us generalizing k with
 |nil=>simp at h
 |cons u us ih=>
  cases k with
  |zero=>simp at h;subst h;exact .refl _
  |succ k =>rw[adJ];simp at h;exact(List.Perm.swap _ _ _).trans ((ih h).cons _)
section
variable {P:Program}{w:World}{K:PySem.W.Frag}{mg:Str->Option Value}{base:Heap}
def qN:Sp:=λvs H Q _=>∃(p q:Addr) (xs:List V),vs=[.ref p,.ref q]/\Row H p/\H q=some (.lst xs)/\xs.length<100/\∀(l:Addr) (ys:List V) (H':Hp),ys.Perm xs->H l=none->H' l=some (.lst ys)->Row H' p->cb p H H'->Q (.ref l) H'
abbrev Xc:List Str:=["_law_pot_here","_law_things","_law_left","_law_found"]
theorem Fg:aG Xc ["_law_pot_here","_law_things"] (ak mG):=⟨rfl,rfl,rfl,by decide +kernel,rfl,by decide +kernel,by decide +kernel⟩
theorem sj{f fD:Addr}{fd ig:FuncData}(F:a7 K "_law_shuffled" "_law_shuffled" mG f fd)(D:Df K mg "_law_digit" fu ["_law_pot_here","_law_many"] fD ig)(T:bt mg):av P w K mg base aB 2 f fd ["_law_pot_here","_law_things"] qN:=by
 have G:av P w K mg base aB 1 fD ig ["_law_pot_here","_law_many"] mH:=gn D.fn T;refine F.ok Fg (λvs H Q E h=>?_) (λcdv A outer s H vs Q E hr h=>?_)
 ·obtain⟨p,q,xs,rfl,_⟩:=h;rfl
 ·obtain⟨p,q,xs,rfl,hp,hq,hx,k⟩:=h;refine⟨_,ag (aN (i:=2) Fg.nd rfl (Or.inl rfl) (bp cE (by rfl) T.list aa1 (aa (pv 1) ae))) (ag (aN (i:=3) Fg.nd rfl (Or.inl rfl) (bR ae))
   (ag (lZ aaW (aQ (uu (low 0 hr)) (pv 2) (bR ae) (aV _))
    (ao (aW (cT aaJ aaO aaP bH (pv 3)
     (aa (cT aaJ aec aed ER (pv 2) (aa (ar G hr rfl D.aK D.fn.kp D.b .nil ax (aa (pv 0) (aa (ay aA (by rfl) T.len aax (aa (pv 2) ae)) ae))) ae)) ae)))))
   (ao (aI (pv 3))))),?_⟩
  try rw[bw]
  refine⟨_,rfl,q,_,rfl,.inl (aj.of hq),λl hl=>?_⟩;have oT:p≠l:=aw hp.lst.choose_spec hl;refine⟨(by decide),λg hg=>?_⟩;have LQ:p≠g:=aw (hp.aq oT).lst.choose_spec hg;have LR:l≠g:=aw af hg;have LS:H g=none:=by
   cases e:H g with
   |none=>rfl
   |some o=>rw[L2.aq (aw e hl)] at hg;rw[hg] at e;cases e
  refine⟨λm σ H2=>∃us ys,σ=[some (V.ref p),some (V.ref q),some (V.ref l),some (V.ref g)]/\Row H2 p/\cb p H H2/\H2 l=some (.lst us)/\H2 g=some (.lst ys)/\(us++ys).Perm xs/\m=us.length,
   ⟨_,xs,[],rfl,(hp.aq oT).aq LQ,((cb.refl p H).ba hl).ba LS,by rw[L2.aq LR];exact af,af,by rw[abr],rfl⟩,?_⟩
  rintro m σ H2 ⟨us,ys,rfl,gR,b2,hl2,hg2,pm,rfl⟩;refine⟨_,rfl,(by decide),λe he=>?_⟩;have LU:p≠e:=aw gR.lst.choose_spec he;have Xe:l≠e:=aw hl2 he;have Xf:g≠e:=aw hg2 he;have hle:(upd H2 e (.lst [])) l=some (.lst us):=by rw[L2.aq Xe];exact hl2
  have Hu:(upd H2 e (.lst [])) g=some (.lst ys):=by rw[L2.aq Xf];exact hg2
  have LV:=gR.aq (o:=.lst []) LU;have be:cb p H (upd H2 e (.lst [])):=λc o q n=>by have q2:=b2 c o q n;rw[L2.aq (aw q2 he)];exact q2
  have Rf:(upd H2 e (.lst [])) e=some (.lst []):=af;generalize upd H2 e (.lst [])=H3 at hle Hu LV be Rf⊢;refine⟨l,e,us,rfl,rfl,aj.of hle,aj.of Rf,_,rfl,?_⟩;have len:us.length+ys.length=xs.length:=by rw[<-aaM];exact pm.length_eq
  by_cases hu:us=[]
  ·simp only[aa4];rw[decide_eq_true hu];subst hu;refine aZ ⟨_,rfl,k g ys H3 pm LS Hu LV be⟩
  ·have Fh:0<us.length:=ab2.mpr hu;simp only[aa4];rw[aaz hu];refine bo ⟨λσ' H'=>∃m',m'<us.length/\∃us ys,σ'=[some (V.ref p),some (V.ref q),some (V.ref l),some (V.ref g)]/\Row H' p/\cb p H H'/\H' l=some (.lst us)/\H' g=some (.lst ys)/\(us++ys).Perm xs/\m'=us.length,λσ' H' q=>q,?_⟩;refine⟨_,rfl,.inl ⟨rfl,_,aj.of Hu⟩,?_⟩;refine⟨_,rfl,.inl ⟨rfl,_,aj.of hle⟩,?_⟩;refine⟨_,rfl,_,rfl,l,_,rfl,.inl (aj.of hle),p,_,rfl,LV,by omega,by omega,λd H4 d0 d1 hp4 b4=>?_⟩;have mY:=b4 _ _ hle (aaX oT);have Xg:=b4 _ _ Hu (aaX LQ);obtain⟨j,rfl⟩:∃j:Nat,d=j:=⟨d.toNat,by omega⟩
   have hj:j<us.length:=by omega
   have hy:us[j]?=some us[j]:=by simp[hj]
   obtain⟨j',hs,uc,_⟩:=oB (bc hy);refine⟨l,us,j,j',us[j],rfl,rfl,mY,by omega,by omega,hs,uc,?_⟩;have UN:g≠l:=aaX LR;refine⟨g,ys,_,rfl,rfl,by rw[L2.aq UN];exact Xg,c8 (by omega),?_⟩;have pe:=iE uc;have le:(us.eraseIdx j').length+1=us.length:=by rw[<-pe.length_eq];simp
   refine⟨_,by omega,us.eraseIdx j',ys++[us[j]],rfl,(hp4.aq oT).aq LQ,((be.trans b4).ba hl).ba LS,by rw[L2.aq LR];exact af,af,?_,rfl⟩;refine List.Perm.trans ?_ pm;rw[<-acr];exact(List.perm_append_singleton _ _).trans ((pe.append_right ys))
end
end dJ
namespace L2
open PySem PySem.Spec PyProof.Rows
section
variable {prog:Program}{w:World}{A:Around}{E:Value->Shared->Prop}{s:Shared}
theorem AR{src:Source}{n:Nat}{Q:Nat->Shared->Prop}(hn:n≠0)(h:∀i dr,i<n->Q i {s with drawn:=dr}):wpAny (model prog w) A (choose src n) Q E s:=fun Γ p _=>by
 show Sem.wp _ Γ (.choose src n .pure) _ _ p s
 rw[Sem.wp_choose];exact⟨hn,h _ _ (ac' _ (Nat.pos_of_ne_zero hn))⟩
theorem iE{α:Type}:∀(xs:List α) (i:Nat) (h:i<xs.length),(xs[i]::xs.eraseIdx i).Perm xs
 |[],_,h=>by simp at h
 |x::xs,0,_=>.refl _
 |x::xs,i+1,h=>(List.Perm.swap x (xs[i]'(by simpa using h)) (xs.eraseIdx i)).trans (List.Perm.cons x (iE xs i (by simpa using h)))
theorem qO{α:Type}:∀(n:Nat) (xs:List α) (s:Shared) (Q:List α->Shared->Prop),xs.length=n->(∀ys dr,ys.Perm xs->Q ys {s with drawn:=dr})->wpAny (model prog w) A (drawOrder n xs) Q E s
 |0,xs,s,Q,hl,h=>by have e:xs=[]:=acq hl;subst e;exact wpAny_pure (h [] s.drawn .nil)
 |n+1,[],s,Q,hl,h=>by simp at hl
 |n+1,x::xs,s,Q,hl,h=>by unfold drawOrder;refine wpAny_bind (AR (by simp) λi dr hi=>?_);have e:(x::xs)[i]?=some (x::xs)[i]:=aam hi;rw[e];refine wpAny_bind (qO n _ _ _ (by rw[ado hi];simpa using hl) λys Xh hp=>?_);refine wpAny_pure (h _ Xh ?_);exact(List.Perm.cons _ hp).trans (iE _ i hi)
end
theorem JD(t:SetTable)(es:Array (Int×Value))(h:Int)(x:Value):(layNew t es h x).2.1.led=t.led:=by
 unfold layNew;split
 ·simp only[SetTable.put,SetTable.orStandIn,SetTable.standIn];split<;>split<;>rfl
 ·rfl
theorem CM(t:SetTable)(es:Array (Int×Value))(n:Nat):(relayAll t es n).2.1.led=t.led:=by
 unfold relayAll;split
 ·rename_i t' order e
  unfold SetTable.relaid SetTable.laid at e;cases hl:SetTable.layClean (SetTable.sizeAbove n-1) (es.map (·.1)) with
  |none=>rw[hl] at e;cases e
  |some o =>rw[hl] at e;cases e;dsimp only;split<;>rfl
 ·rfl
theorem ym(t:SetTable)(es:Array (Int×Value))(n:Nat)(h:t.plain=false):(relayAll t es n).2.1.plain=false:=by
 unfold relayAll;split
 ·rename_i t' order e
  unfold SetTable.relaid SetTable.laid at e;cases hl:SetTable.layClean (SetTable.sizeAbove n-1) (es.map (·.1)) with
  |none=>rw[hl] at e;cases e
  |some o=>
   rw[hl] at e;cases e;dsimp only;split
   ·exact h
   ·rfl
 ·rfl
section
variable {prog:Program}{w:World}{A:Around}{E:Value->Shared->Prop}{s:Shared}
structure jr(prog:Program)(w:World)(h:Heap)(a:Addr)(zs:List Str)(led:Bool)(o:Obj)(es:Array (Int×Value))(ep:Nat)(t:SetTable):Prop where
 ho:h.get? a=some o
 ex:o.ExactSet
 hd:o.data=.set es ep t
 el:ElemsOf (strKind prog w) es.toList
 mem:∀k,decide (k∈dist zs)=true ↔ ∃e∈es.toList,(strKind prog w).is k e.2=true
 aJ:es.size<scanBound
 fits:t.fits es.size=true
 size:es.size=(dist zs).length
 led:t.led=led
 pl:es.size≠0->t.plain=false
theorem jr.keep{h h':Heap}{a:Addr}{zs:List Str}{led:Bool}{o:Obj}{es:Array (Int×Value)}{ep:Nat}{t:SetTable}(x:jr prog w h a zs led o es ep t)(k:∀o,h.get? a=some o->h'.get? a=some o):jr prog w h' a zs led o es ep t:={x with ho:=k _ x.ho}
theorem wq{b:Bool}{Q:Unit->Shared->Prop}(q:Q () s):wpAny (model prog w) A (match b with|true=>rule "set.scan.the-table-gave-way" |false=>pure ()) Q E s:=by
 cases b
 ·exact wpAny_pure q
 ·exact wpAny_rule q
theorem jr.add{a:Addr}{z:Str}{tok:Tok}{zs:List Str}{led:Bool}{o:Obj}{es:Array (Int×Value)}{ep:Nat}{t:SetTable}{Q:Bool->Shared->Prop}(x:jr prog w s.heap a zs led o es ep t)(room:(dist zs).length+1<scanBound)
  (k:∀(b:Bool) h' o' es' kZ t',Heap.SameBut a s.heap h'->jr prog w h' a (zs++[z]) led o' es' kZ t'->Q b {s with heap:=h' }) :
  wpAny (model prog w) A (setAddHashed a (.str z tok) ((strKind prog w).hash z)) Q E s:=by
 have yes:(strKind prog w).is z (.str z tok)=true:=by show Value.isStrOf z (.str z tok)=true;simp[Value.isStrOf]
 unfold setAddHashed setAddHashedIn;refine wpAny_holding (wpAny_bind (wpAny_setState_of x.ho x.hd x.fits ?_));dsimp only;rw[byScan_of (knd:=strKind prog w) (x:=.str z tok) rfl x.aJ x.el,if_pos rfl];unfold setAddByScan;refine wpAny_bind (wpAny_bind (wpAny_rule (wpAny_bind (wpAny_setScan_of yes x.ho x.hd x.fits x.el ?_))));have isin:=x.mem z;have ed:dist (zs++[z])=gN (dist zs) z:=nE zs z;cases hr:List.findIdx? (λe=>(strKind prog w).is z e.2) es.toList with
 |some j=>
  dsimp only;obtain⟨hj,Xi,_⟩:=List.findIdx?_eq_some_iff_getElem.mp hr;have hz:z∈dist zs:=abZ (isin.mpr ⟨_,abd hj,Xi⟩);have e2:dist (zs++[z])=dist zs:=by rw[ed];unfold gN;rw[if_pos hz]
  refine wpAny_pure (wpAny_pure ?_)
  have:=k false s.heap o es ep t (adq a s.heap) {x with mem:=by rw[e2];exact x.mem,size:=by rw[e2];exact x.size}
  exact this
 |none=>
  dsimp only;have hz:z∉dist zs:=λq=>by
   obtain⟨e,he,hp⟩:=isin.mp (decide_eq_true q)
   have:=List.findIdx?_eq_none_iff.mp hr e he
   rw[hp] at this;cases this
  have perm:=layNew_perm t es ((strKind prog w).hash z) (.str z tok);have fit:=layNew_fits t es ((strKind prog w).hash z) (.str z tok);have ld:=JD t es ((strKind prog w).hash z) (.str z tok);generalize layNew t es ((strKind prog w).hash z) (.str z tok)=L at perm fit ld⊢;obtain⟨es1,t1,dummy,LW⟩:=L;dsimp only at perm fit ld⊢;rw[adt] at perm;have el1:ElemsOf (strKind prog w) es1.toList:=(x.el.push yes rfl).perm perm;have mem1:∀k',decide (k'∈dist (zs++[z]))=true ↔ ∃e∈es1.toList,(strKind prog w).is k' e.2=true:=λk'=>by
   have:=mem_push_iff (knd:=strKind prog w) yes x.mem perm k'
   rw[<-this,ed,afk,abC,abC,abC,mB]
  have CN:es1.size=es.size+1:=by rw[<-aaV,perm.length_eq,aaM,aaV];rfl
  have AS:es1.size<scanBound:=by rw[CN,x.size];exact room
  have Hv:es1.size=(dist (zs++[z])).length:=by rw[CN,ed,mC,if_neg hz,x.size]
  refine wpAny_bind (wq ?_);have tail:∀t2:SetTable,t2.led=led->t2.plain=false->t2.fits es1.size=true->wpAny (model prog w) A (do
    storeSet a es1 t2
    if (!dummy&&t2.tooFull)=true then do
      (match (relayAll t2 es1 (SetTable.grown es1.size)).2.2 with|true=>rule "set.scan.the-table-gave-way" |false=>pure ())
      storeSet a (relayAll t2 es1 (SetTable.grown es1.size)).1 (relayAll t2 es1 (SetTable.grown es1.size)).2.1
      pure (some true)
     else pure (some true)) (λr s'=>wpAny (model prog w) A (match r with|some added=>pure added|none=>setAddHashedIn a (.str z tok) ((strKind prog w).hash z) 99999) Q E s') E s:=λt2 l2 p2 f2=>by
   refine wpAny_bind (wpAny_storeSet_of x.ho x.hd ?_ (fits_of_scanBound AS));obtain⟨g1,_⟩:=SetOf_store (knd:=strKind prog w) (S':=λk'=>decide (k'∈dist (zs++[z]))) x.ho x.ex x.hd el1 mem1 AS f2;have sb1:=abw s.heap a (Obj.putSet es1 t2);split
   ·have rp:=relayAll_perm t2 es1 (SetTable.grown es1.size);have rf:=relayAll_fits t2 es1 (SetTable.grown es1.size);have rl:=CM t2 es1 (SetTable.grown es1.size);have rpl:=ym t2 es1 (SetTable.grown es1.size) p2;generalize relayAll t2 es1 (SetTable.grown es1.size)=Rl at rp rf rl rpl⊢;obtain⟨y0,t3,gv⟩:=Rl;dsimp only at rp rf rl rpl⊢;have CO:y0.size=es1.size:=by rw[<-aaV,rp.length_eq,aaV]
    refine wpAny_bind (wq ?_);have LX:∀k',decide (k'∈dist (zs++[z]))=true ↔ ∃e∈y0.toList,(strKind prog w).is k' e.2=true:=λk'=>(mem1 k').trans ⟨λ⟨e,he,q⟩=>⟨e,rp.mem_iff.mpr he,q⟩,λ⟨e,he,q⟩=>⟨e,rp.mem_iff.mp he,q⟩⟩;have Fi:y0.size<scanBound:=by rw[CO];exact AS
    refine wpAny_bind (wpAny_storeSet_of (s:={s with heap:=s.heap.update a (Obj.putSet es1 t2)}) g1 rfl ?_ (fits_of_scanBound Fi));obtain⟨g2,_⟩:=SetOf_store (knd:=strKind prog w) (S':=λk'=>decide (k'∈dist (zs++[z]))) g1 x.ex rfl (el1.perm rp) LX Fi rf;exact wpAny_pure (wpAny_pure (k true _ _ y0 _ t3 (sb1.trans (abw _ a _)) ⟨g2,x.ex,rfl,el1.perm rp,LX,Fi,rf,by rw[CO];exact Hv,by rw[rl];exact l2,λ_=>rpl⟩))
   ·exact wpAny_pure (wpAny_pure (k true _ _ es1 _ t2 sb1 ⟨g1,x.ex,rfl,el1,mem1,AS,f2,Hv,l2,λ_=>p2⟩))
  split
  ·refine wpAny_bind ?_;rw[hashByValue_scannable 8 (x:=.str z tok) rfl];refine wpAny_pure ?_;rename_i tp
   exact tail {t1 with plain:=false} (by show t1.led=led;rw[ld];exact x.led) rfl (SetTable.fits_plain_off fit)
  ·rename_i tp
   refine wpAny_bind (wpAny_pure ?_);simp only[↓reduceIte];exact tail t1 (by rw[ld];exact x.led) (by simpa using tp) fit
end
def cB(w:World):Bool:=w.params.followText "set-order"
section
variable {prog:Program}{w:World}{A:Around}{E:Value->Shared->Prop}{s:Shared}
theorem y3(a:Value){Q₁:Value->Shared->Prop}(h:Q₁ (.ref s.heap.objs.size) {s with heap:=s.heap.push {cls:=.type "set",dict:=none,data:=.set #[] 0 (.fresh 0 0 (!cB w))} }) :
  codeAny (model prog w) A (.call (.builtin "set.__new__") ⟨[.type "set",a],[]⟩) (wants Q₁ E) s:=by
 apply ac8;show wpAny _ A.in1 (checkBuiltinCall "set.__new__" ⟨[.type "set",a],[]⟩>>=λ_=>again (.builtin "set.__new__" ⟨[.type "set",a],[]⟩)) _ _ s
 apply wpAny_bind;refine wpAny_of_eq (PySem.F.newCall_set_1 a) ?_;apply wpAny_pure;refine⟨acB aee _,codeAny_builtin PySem.F.entry_set_new ?_⟩;rw[abM aee _];have self:=sub_set_self;obtain⟨hp,g,d,tk,os⟩:=s;unfold Builtin.«set.__new__» Builtin.Frozenset.newClass;dsimp only;wp_walk
 apply wpAny_askSetting;apply wpAny_pure;dsimp only[newObj];apply wpAny_bind;apply wpAny_alloc;apply wpAny_pure;exact wpAny_pure h
end
section
variable {prog:Program}{w:World}{A:Around}{I S:Addr}{fp wr:List Addr}{G:Array GenState->Array GenState->Prop}{P:Nat->Value->Prop}{St:Nat->Shared->Prop}{zs:List Str}{R:Result->Shared->Prop}{led:Bool}
def kL(prog:Program)(w:World)(h:Heap)(S:Addr)(zs:List Str)(led:Bool):Prop:=∃o es ep t,jr prog w h S zs led o es ep t
theorem kL.keep{h h':Heap}(x:kL prog w h S zs led)(k:∀o,h.get? S=some o->h'.get? S=some o):kL prog w h' S zs led:=let ⟨o,es,ep,t,q⟩:=x;⟨o,es,ep,t,q.keep k⟩
theorem nJ(W:WalksS prog w A.in1 I fp wr G zs.length P St)(off:S∉fp)(hz:∀i v,P i v->∃z t,zs[i]?=some z/\v=.str z t)(small:zs.length+1<scanBound) :
  ∀(left i:Nat) (s:Shared),i+left=zs.length->St i s->kL prog w s.heap S (zs.take i) led ->
   (∀s',Moved (S::wr) G s s'->kL prog w s'.heap S zs led->R (.ok (.ret .none)) s')->codeAny (model prog w) A (.builtin "set.update.loop" ⟨[.ref S,.ref I],[]⟩) R s
 |0,i,s,hi,st,x,k=>by have e:zs.take i=zs:=aaF (by omega);rw[show i=zs.length by omega] at st;refine codeAny_builtin acn ?_;rw[abM abP _];apply wpAny_bind;refine W.done s _ _ st λs' m=>?_;exact wpAny_pure (k s' (m.mono λb hb=>aaw _ hb) (by rw[e] at x;exact x.keep λo ho=>m.heap S o (λhs=>off (W.sub _ hs)) ho))
 |left+1,i,s,hi,st,x,k=>by
  refine codeAny_builtin acn ?_;rw[abM abP _];apply wpAny_bind;refine W.item i s _ _ (by omega) st λv s1 p Lz m=>?_;obtain⟨z,t,ez,rfl⟩:=hz i v p;obtain⟨o,es,ep,tb,x1⟩:=x.keep λo ho=>m.heap S o (λhs=>off (W.sub _ hs)) ho;have et:zs.take (i+1)=zs.take i++[z]:=by rw[aaI,ez];rfl
  have yes:(strKind prog w).is z (.str z t)=true:=by show Value.isStrOf z (.str z t)=true;simp[Value.isStrOf]
  show wpAny _ A.in1 (holding [Value.str z t] (setAdd S (.str z t))>>=_) _ _ s1
  apply wpAny_bind;apply wpAny_holding;show wpAny _ A.in1 (holding _ _) _ _ _
  apply wpAny_holding;apply wpAny_bind;refine(strKind prog w).pyHash yes ?_;have aJ:=rQ (zs.take i);rw[aaR] at aJ;refine jr.add (s:={s1 with toks:=s1.toks+1}) x1 (by omega) λ_ h2 o2 y0 Xj t2 sb x2=>?_;refine wpAny_pure ⟨acB abP _,nJ W off hz small left (i+1) _ (by omega) ?_ ⟨o2,y0,Xj,t2,by rw[et];exact x2⟩ λs3 m3 x3=>?_⟩
  ·exact W.frame _ s1 _ _ Lz (abu _) λb hb o e=>(sb.2 b λz'=>off (z'▸hb)).trans e
  ·refine k s3 (afZ W.gtrans ((m.mono λb hb=>aaw _ hb).then_heap (abu _) λb o hb e=>?_) m3) x3;exact(sb.2 b λz'=>hb (by rw[z'];exact aau)).trans e
end
theorem yn:isSubtype (.type "tuple") (.type "set")=pure false:=by rw[acN];kernel_rfl
theorem sk:isSubtype (.type "tuple") (.type "frozenset")=pure false:=by rw[acN];kernel_rfl
section
variable {prog:Program}{w:World}{A:Around}{E:Value->Shared->Prop}{s:Shared}
theorem CP{l:Addr}{its:List Value}{zs:List Str}{Q:Value->Shared->Prop}(hh:A.handled=none)(hl:s.heap.IsList l its.toArray)(hz:StrsAre its zs)(small:zs.length+1<scanBound)
  (h:∀(h':Heap) (tk:Nat),kL prog w h' s.heap.objs.size zs (!cB w)->(∀b o,s.heap.get? b=some o->h'.get? b=some o)->Q (.ref s.heap.objs.size) {s with heap:=h',toks:=tk}) :
  wpAny (model prog w) A (call (.type "set") [.ref l]) Q E s:=by
 refine rT ab5 (acR _) (y3 (.ref l) ?_);generalize dE:s.heap.push {cls:=.type "set",dict:=none,data:=.set #[] 0 (.fresh 0 0 (!cB w))}=h1;have kp:∀b o,s.heap.get? b=some o->h1.get? b=some o:=λb o e=>by rw[<-dE];exact aao _ e
 have sz:h1.objs.size=s.heap.objs.size+1:=by rw[<-dE];exact abk ..
 have new:h1.get? s.heap.objs.size=some {cls:=.type "set",dict:=none,data:=.set #[] 0 (.fresh 0 0 (!cB w))}:=by rw[<-dE];exact aaC _ rfl
 have ty:({s with heap:=h1}:Shared).TypeIs (.ref s.heap.objs.size) "set" := ⟨_,new,rfl⟩
 refine⟨ty,ac9 ab5.init.plain acS (check_set_init_1 ty ?_)⟩;have el:its.length=zs.length:=gj hz;obtain⟨⟨c,d,dt,sl⟩,ho,rfl,n,rfl⟩:=hl;have jx:=kp _ _ ho;have lt:@LT.lt Nat _ l s.heap.objs.size:=aay ho;have il:h1.IsList l its.toArray:=⟨_,jx,rfl,n,rfl⟩
 have n1:=aem;have n2:=adl;have n3:(Value.type "list"==Value.type "dict")=false:=by decide
 unfold Builtin.«set.__init__» noKeywords Builtin.Frozenset.updateFrom;generalize pi:pyIter=it;wp_walk
 subst pi;apply wpAny_pyIter_list il;apply wpAny_bind;apply wpAny_runValue;have W:=(ael (prog:=prog) (w:=w) (A:=A.in1.in1.in1) (by simpa using hh) h1.objs.size l (by rw[sz];exact aaG (abx lt)) its.toArray).toS;have e0:its.toArray.size=zs.length:=by rw[aas];exact el
 rw[e0] at W;refine nJ (led:=!cB w) (zs:=zs) W ?_ (λi v p=>?_) small zs.length 0 _ (ab4 _) ⟨⟨_,aaC _ rfl,rfl,rfl⟩,il.push _⟩ ?_ λt m x=>?_
 ·rw[sz];intro q;rcases aav.mp q with q|q
  ·exact absurd q (aaG (abg _))
  ·exact absurd (aaA.mp q) (ac3 lt)
 ·have p':its[i]?=some v:=by simpa using p
  exact rR hz p'
 ·exact⟨_,#[],0,_,aao _ new,⟨rfl,rfl,rfl⟩,rfl,λe he=>by simp at he,λk=>by simp[dist],by decide,by rfl,rfl,rfl,λq=>absurd rfl q⟩
 ·obtain⟨h2,g2,d2,t2,o2⟩:=t;cases (show g2=s.gens from m.gens);cases (show d2=s.drawn from m.drawn);cases (show o2=s.os from m.os);apply wpAny_pure;refine wpAny_pure ⟨rfl,h h2 t2 x λb o e=>m.heap b o ?_ (aao _ (kp b o e))⟩;have lb:@LT.lt Nat _ b s.heap.objs.size:=aay e;rw[sz];intro q;rcases aav.mp q with q|q
  ·exact absurd q (aaG lb)
  ·exact absurd (aaA.mp q) (aaG (abx lb))
theorem AU{l:Addr}{its:List Value}{zs:List Str}{Q:Value->Shared->Prop}(hh:A.handled=none)(hl:s.heap.IsTuple l its.toArray)(hz:StrsAre its zs)(small:zs.length+1<scanBound)
  (h:∀(h':Heap) (tk:Nat),kL prog w h' s.heap.objs.size zs (!cB w)->(∀b o,s.heap.get? b=some o->h'.get? b=some o)->Q (.ref s.heap.objs.size) {s with heap:=h',toks:=tk}) :
  wpAny (model prog w) A (call (.type "set") [.ref l]) Q E s:=by
 refine rT ab5 (acR _) (y3 (.ref l) ?_);generalize dE:s.heap.push {cls:=.type "set",dict:=none,data:=.set #[] 0 (.fresh 0 0 (!cB w))}=h1;have kp:∀b o,s.heap.get? b=some o->h1.get? b=some o:=λb o e=>by rw[<-dE];exact aao _ e
 have sz:h1.objs.size=s.heap.objs.size+1:=by rw[<-dE];exact abk ..
 have new:h1.get? s.heap.objs.size=some {cls:=.type "set",dict:=none,data:=.set #[] 0 (.fresh 0 0 (!cB w))}:=by rw[<-dE];exact aaC _ rfl
 have ty:({s with heap:=h1}:Shared).TypeIs (.ref s.heap.objs.size) "set" := ⟨_,new,rfl⟩
 refine⟨ty,ac9 ab5.init.plain acS (check_set_init_1 ty ?_)⟩;have el:its.length=zs.length:=gj hz;obtain⟨⟨c,d,dt,sl⟩,ho,rfl,n,rfl⟩:=hl;have jx:=kp _ _ ho;have lt:@LT.lt Nat _ l s.heap.objs.size:=aay ho;have il:h1.IsTuple l its.toArray:=⟨_,jx,rfl,n,rfl⟩
 have n1:=yn;have n2:=sk;have n3:(Value.type "tuple"==Value.type "dict")=false:=by decide
 unfold Builtin.«set.__init__» noKeywords Builtin.Frozenset.updateFrom;generalize pi:pyIter=it;wp_walk
 subst pi;apply aex il;apply wpAny_bind;apply wpAny_runValue;have W:=(Walks.tuple (prog:=prog) (w:=w) (A:=A.in1.in1.in1) (by simpa using hh) h1.objs.size l (by rw[sz];exact aaG (abx lt)) its.toArray).toS;have e0:its.toArray.size=zs.length:=by rw[aas];exact el
 rw[e0] at W;refine nJ (led:=!cB w) (zs:=zs) W ?_ (λi v p=>?_) small zs.length 0 _ (ab4 _) ⟨⟨_,aaC _ rfl,rfl,rfl⟩,il.push _⟩ ?_ λt m x=>?_
 ·rw[sz];intro q;rcases aav.mp q with q|q
  ·exact absurd q (aaG (abg _))
  ·exact absurd (aaA.mp q) (ac3 lt)
 ·have p':its[i]?=some v:=by simpa using p
  exact rR hz p'
 ·exact⟨_,#[],0,_,aao _ new,⟨rfl,rfl,rfl⟩,rfl,λe he=>by simp at he,λk=>by simp[dist],by decide,by rfl,rfl,rfl,λq=>absurd rfl q⟩
 ·obtain⟨h2,g2,d2,t2,o2⟩:=t;cases (show g2=s.gens from m.gens);cases (show d2=s.drawn from m.drawn);cases (show o2=s.os from m.os);apply wpAny_pure;refine wpAny_pure ⟨rfl,h h2 t2 x λb o e=>m.heap b o ?_ (aao _ (kp b o e))⟩;have lb:@LT.lt Nat _ b s.heap.objs.size:=aay e;rw[sz];intro q;rcases aav.mp q with q|q
  ·exact absurd q (aaG lb)
  ·exact absurd (aaA.mp q) (aaG (abx lb))
end
end L2
namespace L3
open PySem
def jS(xs:Array Nat):Prop:=∀i j (hi:i<xs.size) (hj:j<xs.size),i<j->xs[i]<xs[j]
theorem pT{xs:Array Nat}{j:Nat}(r:jS xs):∀(fuel lo hi:Nat),lo<=hi->hi<=xs.size->hi-lo<=fuel->(∀i (h:i<xs.size),i<lo->xs[i]<j)->(∀i (h:i<xs.size),hi<=i->j<=xs[i]) ->
  SetTable.below.go xs j fuel lo hi<=xs.size/\(∀i (h:i<xs.size),i<SetTable.below.go xs j fuel lo hi->xs[i]<j)/\(∀i (h:i<xs.size),SetTable.below.go xs j fuel lo hi<=i->j<=xs[i])
 |0,lo,hi,a,b,c,p,q=>by
  have e:lo=hi:=by omega
  subst e;exact⟨b,p,q⟩
 |fuel+1,lo,hi,a,b,c,p,q=>by
  rw[SetTable.below.go];by_cases h:lo<hi
  ·rw[if_pos h];dsimp only;have hm:(lo+hi) / 2<xs.size:=by omega
   have e:xs.getD ((lo+hi) / 2) j=xs[(lo+hi) / 2]:=by simp[Array.getD,hm]
   rw[e];by_cases hx:xs[(lo+hi) / 2]<j
   ·rw[if_pos hx];refine pT r fuel _ _ (by omega) b (by omega) (λi hi' hl=>?_) q;by_cases ie:i=(lo+hi) / 2
    ·subst ie;exact hx
    ·exact aeD (r i _ hi' hm (by omega)) hx
   ·rw[if_neg hx];refine pT r fuel _ _ (by omega) (by omega) (by omega) p (λi hi' hl=>?_);by_cases ie:i=(lo+hi) / 2
    ·subst ie;omega
    ·have:=r _ i hm hi' (by omega);omega
  ·rw[if_neg h];have e:lo=hi:=by omega
   subst e;exact⟨b,p,q⟩
theorem pU{xs:Array Nat}(r:jS xs)(j:Nat):SetTable.below xs j<=xs.size/\(∀i (h:i<xs.size),i<SetTable.below xs j->xs[i]<j)/\(∀i (h:i<xs.size),SetTable.below xs j<=i->j<=xs[i]):=
 pT r _ _ _ (aaZ _) (aal _) (by omega) (λi h z=>absurd z (ab7 _)) (λi h z=>absurd h (by omega))
theorem below_at{xs:Array Nat}(r:jS xs){i j:Nat}(h:xs[i]?=some j):SetTable.below xs j=i:=by
 obtain⟨hi,e⟩:=acC.mp h;obtain⟨a,b,c⟩:=pU r j;rcases acb (SetTable.below xs j) i with q|q|q
 ·have:=c _ (by omega) (aal _)
  have:=r _ i (by omega) hi q
  omega
 ·exact q
 ·have:=b i hi q;omega
theorem nM{t:SetTable}(r:jS t.place){i j:Nat}(h:t.place[i]?=some j):t.slot j=.live i:=by unfold SetTable.slot;rw[below_at r h];dsimp only;rw[h];simp
theorem AV{t:SetTable}(d:t.dummies=#[]){j:Nat}(h:∀i:Nat,t.place[i]?≠some j):t.slot j=.empty:=by
 unfold SetTable.slot;dsimp only;rw[if_neg (by simpa using h _)];have e:SetTable.has t.dummies j=false:=by rw[d];rfl
 rw[e];rfl
abbrev Probe:=SetTable.Probe
theorem AW{xs:Array Nat}(r:jS xs){i:Nat}(hi:i<=xs.size):SetTable.below xs (if i=0 then 0 else xs.getD (i-1) 0+1)=i:=by
 obtain⟨a,b,c⟩:=pU r (if i=0 then 0 else xs.getD (i-1) 0+1);generalize hj:SetTable.below xs (if i=0 then 0 else xs.getD (i-1) 0+1)=j at a b c⊢;cases i with
 |zero=>
  rcases aeI j with h|h
  ·exact h
  ·have:=b 0 (by omega) h
   simp at this
 |succ k=>
  rw[if_neg (by omega),adj] at b c;have hk:k<xs.size:=by omega
  have e:xs.getD k 0=xs[k]:=by simp[hk]
  rw[e] at b c;rcases acb j (k+1) with h|h|h
  ·have:=c k hk (by omega)
   omega
  ·exact h
  ·have:=b (k+1) (by omega) h
   have:=r k (k+1) hk (by omega) (by omega)
   omega
end L3
namespace L2
open PySem PySem.Spec PyProof.Rows
theorem so:entryFor table "set.__iter__" = some Builtin.«frozenset.__iter__»:=
 entryFor_alias (id':="frozenset.__iter__") (by kernel_rfl) rfl (by decide +kernel) (by kernel_rfl)
theorem dM:Slot "set_iterator" "__next__" "set_iterator.__next__":=
 .of (owner:="set_iterator") (n:="__next__") (by rw[afl,aef];kernel_rfl) (by decide +kernel) (by decide +kernel) (by decide +kernel)
  (by first|exact .inl (by decide +kernel)|exact .inr (by decide +kernel)) (by rw[acN];kernel_rfl)
theorem mZ:entryFor table "set_iterator.__next__" = some Builtin.«set_iterator.__next__»:=entryFor_of_tree (by kernel_rfl)
theorem nN(a:Value):argsOk "set_iterator.__next__" ⟨[a],[]⟩:=by unfold argsOk;kernel_rfl
theorem nO:Slot "set_iterator" "__iter__" "set_iterator.__iter__":=
 .of (owner:="set_iterator") (n:="__iter__") (by rw[afl,aef];kernel_rfl) (by decide +kernel) (by decide +kernel) (by decide +kernel)
  (by first|exact .inl (by decide +kernel)|exact .inr (by decide +kernel)) (by rw[acN];kernel_rfl)
theorem uZ:entryFor table "set_iterator.__iter__" = some Builtin.«dict_keyiterator.__iter__»:=
 entryFor_alias (id':="dict_keyiterator.__iter__") (by kernel_rfl) rfl (by decide +kernel) (by kernel_rfl)
theorem wt(a:Value):argsOk "set_iterator.__iter__" ⟨[a],[]⟩:=by unfold argsOk;kernel_rfl
structure gq(w:World)(h:Heap)(a:Addr)(es:Array (Int×Value))(ep:Nat)(t:SetTable):Prop where
 ho:∃o,h.get? a=some o/\o.ExactSet/\o.data=.set es ep t
 fits:t.fits es.size=true
 led:t.led=!cB w
 pl:1<es.size->t.plain=false\/(t.plain=true/\L3.jS t.place)
theorem gq.keep{w:World}{h h':Heap}{a:Addr}{es:Array (Int×Value)}{ep:Nat}{t:SetTable}(x:gq w h a es ep t)(k:∀o,h.get? a=some o->h'.get? a=some o):gq w h' a es ep t:=
 let ⟨o,ho,r⟩:=x.ho;{x with ho:=⟨o,k o ho,r⟩}
theorem gq.typeIs{w:World}{s:Shared}{a:Addr}{es:Array (Int×Value)}{ep:Nat}{t:SetTable}(x:gq w s.heap a es ep t):s.TypeIs (.ref a) "set" := let ⟨o,ho,e,_⟩:=x.ho;⟨o,ho,e.1⟩
theorem y4{α:Type}(next:Nat->Nat):∀(n k:Nat) (left:List α) (out:Array α),left.length=n->(pickOrder.go next n k left out).toList.Perm (out.toList++left)
 |0,k,left,out,h=>by have e:left=[]:=acq h;subst e;simp[pickOrder.go]
 |n+1,k,left,out,h=>by have lt:next k % left.length<left.length:=ac' _ (by omega);unfold pickOrder.go;rw[aam lt];dsimp only;refine(y4 next n (k+1) _ _ (by rw[ado lt];omega)).trans ?_;rw[adt,acr];exact af1 _ (iE left _ lt)
theorem CQ{α:Type}(next:Nat->Nat)(xs:Array α):(pickOrder next xs).toList.Perm xs.toList:=by have h:=y4 next xs.size 0 xs.toList #[] (by simp);simpa [pickOrder] using h
def g6(h:Heap)(I S:Addr)(first:Value)(i n ep:Nat):Prop:=
 ∃o,h.get? I=some o/\o.cls=.type "set_iterator" /\ o.data=.fields #[first,.int i 0,.ref S,.int n 0,.int ep 0]
theorem g6.typeIs{s:Shared}{I S:Addr}{f:Value}{i n ep:Nat}(x:g6 s.heap I S f i n ep):s.TypeIs (.ref I) "set_iterator" := let ⟨o,ho,e,_⟩:=x;⟨o,ho,e⟩
theorem g6.keep{h h':Heap}{I S:Addr}{f:Value}{i n ep:Nat}(x:g6 h I S f i n ep)(k:∀o,h.get? I=some o->h'.get? I=some o):g6 h' I S f i n ep:=let ⟨o,ho,r⟩:=x;⟨o,k o ho,r⟩
section
variable {prog:Program}{w:World}{A:Around}{E:Value->Shared->Prop}{s:Shared}
theorem iF{Q:Bool->Shared->Prop}(h:Q (cB w) s):wpAny (model prog w) A setsByText Q E s:=by unfold setsByText;apply wpAny_bind;apply wpAny_askSetting;exact wpAny_pure h
theorem y6{I:Addr}{o:Obj}{vs:Array Value}{Q:Option Value->Shared->Prop}(hh:A.handled=none)(ho:s.heap.get? I=some o)(hd:o.data=.fields vs)(h2:2<vs.size)
  (hQ:∀h',Heap.ExtBut I s.heap h'->Q none {s with heap:=h' }) :
  wpAny (model prog w) A.in1 (setField (.ref I) 2 .none>>=λ_=>newExc (.type "StopIteration") []>>=λe=>raiseNew (α:=Fin) e)
  (λfin s'=>∃v,fin=Fin.done (Flow.ret v)/\wpAny (model prog w) A (pure (some v)) Q E s')
  (λe s'=>wpAny (model prog w) A (do
     let __do_lift <-isInstance e (Value.type "StopIteration")
     if __do_lift=true then pure none else throw e) Q E s') s:=by
 refine wpAny_bind (wpAny_setField ho hd h2 ?_);show wpAny _ _ (newExc (.type "StopIteration") []>>=_) _ _ _
 refine wpAny_bind ?_;simp only[newExc,newTuple];refine wpAny_bind (wpAny_newObj_type ?_ (by size_fits));refine wpAny_bind (m:=firstArgMember _ _) (wpAny_of_eq (a:=Value.none) (by first|rfl|(simp only[firstArgMember];rfl)) ?_);refine wpAny_newObj_type ?_ (by size_fits);simp only[raiseNew];refine wpAny_bind (wpAny_handled ?_);rw[show A.in1.handled=none from hh];refine wpAny_bind (wpAny_pure (wpAny_throw ?_));refine wpAny_bind (wpAny_isInstance (T:="StopIteration") (b:=true) ⟨_,aaC _ rfl,rfl⟩ isSubtype_stop ?_);exact wpAny_pure (hQ _ (((abw ..).extBut.push _).push _))
theorem oV{I S:Addr}{sl i ep:Nat}{es:Array (Int×Value)}{t:SetTable}{Q:Option Value->Shared->Prop}(hh:A.handled=none)(hit:g6 s.heap I S (.int sl 0) i es.size ep)(x:gq w s.heap S es ep t)(r:Option (Value×Nat))
  (hn:∀(Q':Option (Value×Nat)->Shared->Prop) E',Q' r s->wpAny (model prog w) A.in1 (setNext S sl i ep) Q' E' s)
  (h1:∀v nx h',r=some (v,nx)->g6 h' I S (.int nx 0) (i+1) es.size ep->Heap.SameBut I s.heap h'->Q (some v) {s with heap:=h' })
  (h2:r=none->∀h',Heap.ExtBut I s.heap h'->Q none {s with heap:=h' }):wpAny (model prog w) A (pyNext (.ref I)) Q E s:=by
 obtain⟨o,ho,hc,hd⟩:=id hit;obtain⟨os,jg,Hw,kj⟩:=x.ho;unfold pyNext;refine wpAny_bind (wpAny_attempt (adM (name:=Str.ofString "__next__") hit.typeIs dM
  (wpAny_call_entry dM hit.typeIs mZ ?_ (nN _))))
 unfold Builtin.«set_iterator.__next__»;refine wpAny_bind (wpAny_pure ?_);refine wpAny_bind (wpAny_fieldsOf ho hd ?_);dsimp only;refine wpAny_bind (wpAny_setEntries_of jg kj x.fits ?_);rw[if_neg (by simp)];simp only[ab0];refine wpAny_bind (hn _ _ ?_);cases r with
 |none=>exact y6 hh ho hd (by simp) (h2 rfl)
 |some p =>obtain⟨v,nx⟩:=p;dsimp only;refine wpAny_bind (wpAny_setField ho hd (by simp) ?_);have jx:=aby (Obj.mapFields (·.setIfInBounds 0 (rawInt nx))) ho (acw (abK hd _));have hd1:=abK hd (·.setIfInBounds 0 (rawInt nx));refine wpAny_bind (wpAny_setField (s:={s with heap:=_}) jx hd1 (by simp) ?_);refine wpAny_pure ⟨_,rfl,wpAny_pure (h1 v nx _ rfl ⟨_,aby _ jx (acw (abK hd1 _)),((adu ..).trans (adu ..)).trans hc,?_⟩ ((abw ..).trans (abw ..)))⟩;rw[abK hd1];simp[rawInt]
theorem oW{I S T:Addr}{i ep:Nat}{es:Array (Int×Value)}{t:SetTable}{ord:List Nat}{Q:Option Value->Shared->Prop}(hh:A.handled=none)(hit:g6 s.heap I S (.ref T) i es.size ep)(x:gq w s.heap S es ep t)
  (ht:s.heap.get? T=some {cls:=.type "tuple",data:=.seq (ord.map λ(k:Nat)=>rawInt k).toArray}) (le:∀k∈ord,k<es.size)
  (h1:∀k v h',ord[i]?=some k->es[k]?.map (·.2)=some v->g6 h' I S (.ref T) (i+1) es.size ep->Heap.SameBut I s.heap h'->Q (some v) {s with heap:=h' })
  (h2:ord[i]?=none->∀h',Heap.ExtBut I s.heap h'->Q none {s with heap:=h' }):wpAny (model prog w) A (pyNext (.ref I)) Q E s:=by
 obtain⟨o,ho,hc,hd⟩:=id hit;obtain⟨os,jg,Hw,kj⟩:=x.ho;unfold pyNext;refine wpAny_bind (wpAny_attempt (adM (name:=Str.ofString "__next__") hit.typeIs dM
  (wpAny_call_entry dM hit.typeIs mZ ?_ (nN _))))
 unfold Builtin.«set_iterator.__next__»;refine wpAny_bind (wpAny_pure ?_);refine wpAny_bind (wpAny_fieldsOf ho hd ?_);dsimp only;refine wpAny_bind (wpAny_setEntries_of jg kj x.fits ?_);rw[if_neg (by simp)];simp only[ab0];have nx:(List.map (λ(k:Nat)=>rawInt k) ord).toArray[i]?=Option.map (λk:Nat=>rawInt (k:Int)) ord[i]?:=by rw[aeg,aaq]
 refine wpAny_bind ?_;unfold seqItems?;refine wpAny_bind (wpAny_load ht (wpAny_pure ?_));dsimp only;rw[nx];cases hk:ord[i]? with
 |none =>rw[Option.map_none];dsimp only;refine wpAny_bind (wpAny_setField ho hd (by simp) ?_);have jx:=aby (Obj.mapFields (·.setIfInBounds 0 (rawInt 0))) ho (acw (abK hd _));have hd1:=abK hd (·.setIfInBounds 0 (rawInt 0));exact y6 (s:={s with heap:=_}) hh jx hd1 (by simp) λh' e=>h2 hk h' λb o' hb q=>e b o' hb ((abw ..).extBut b o' hb q)
 |some k =>have lt:=le k (aat hk);dsimp only[ac5,rawInt];refine wpAny_bind ?_;unfold setNextDrawn;refine wpAny_bind (wpAny_setState_of jg kj x.fits ?_);dsimp only;rw[if_neg (by simp),ab0,aaE lt];refine wpAny_pure ?_;refine wpAny_bind (wpAny_setField ho hd (by simp) ?_);refine wpAny_pure ⟨_,rfl,wpAny_pure (h1 k _ _ hk (by rw[aaE lt];rfl) ⟨_,aby _ ho (acw (abK hd _)),(adu ..).trans hc,?_⟩ (abw ..))⟩;rw[abK hd];simp[rawInt]
theorem CS{S:Addr}{sl i ep:Nat}{es:Array (Int×Value)}{t:SetTable}(x:gq w s.heap S es ep t)(hb:cB w=true)(Q':Option (Value×Nat)->Shared->Prop)(E':Value->Shared->Prop)
  (h:Q' (((pickOrder (w.params.setOrder S ep) es)[i]?).map λe=>(e.2,sl)) s):wpAny (model prog w) A (setNext S sl i ep) Q' E' s:=by
 obtain⟨os,jg,Hw,kj⟩:=x.ho;unfold setNext;refine wpAny_bind (wpAny_setState_of jg kj x.fits ?_);dsimp only;refine wpAny_bind (iF ?_);rw[if_pos hb,if_neg (by simp)];refine wpAny_bind ?_;unfold setWalk;refine wpAny_bind (wpAny_setState_of jg kj x.fits ?_);dsimp only;refine wpAny_bind (iF ?_);rw[if_pos hb];refine wpAny_bind (wpAny_askSetting ?_);exact wpAny_pure (wpAny_pure h)
theorem wu{S:Addr}{sl i ep:Nat}{es:Array (Int×Value)}{t:SetTable}(x:gq w s.heap S es ep t)(hb:cB w=false)(aJ:¬ 1<es.size\/t.plain=true)(Q':Option (Value×Nat)->Shared->Prop)(E':Value->Shared->Prop)
  (h:Q' (match es[SetTable.below t.place sl]?,t.place[SetTable.below t.place sl]? with|some (_,x),some j=>some (x,j+1)|_,_=>none) s):wpAny (model prog w) A (setNext S sl i ep) Q' E' s:=by
 obtain⟨os,jg,Hw,kj⟩:=x.ho;have ld:t.led=true:=by rw[x.led,hb];rfl
 unfold setNext;refine wpAny_bind (wpAny_setState_of jg kj x.fits ?_);dsimp only;refine wpAny_bind (iF ?_);rw[hb,if_neg aaK];rw[if_neg (by show ¬ ((!t.plain&&decide (es.size > 1))=true);rcases aJ with aJ|aJ<;>simp[aJ])];refine wpAny_bind ?_;show wpAny _ _ (if (!t.led&&!es.isEmpty)=true then (unsupported "set:maker-not-led" : Sem Unit) else pure ()) _ _ _
 rw[if_neg (by rw[ld];simp)];exact wpAny_pure (wpAny_pure h)
theorem y7{I S:Addr}{f:Value}{i n ep:Nat}{Q:Value->Shared->Prop}(hit:g6 s.heap I S f i n ep)(h:Q (.ref I) s):wpAny (model prog w) A (pyIter (.ref I)) Q E s:=by
 refine aeT hit.typeIs nO (wpAny_call_entry nO hit.typeIs uZ ?_ (wt _));show wpAny _ _ (ret (.ref I)) _ _ s
 exact wpAny_pure ⟨_,rfl,"set_iterator",_,hit.typeIs,dM.lookup,h⟩
theorem Fj{S I T:Addr}{es:Array (Int×Value)}{ep:Nat}{t:SetTable}{ys:List Value}{sl:Nat->Nat}(hIS:S≠I)(len:ys.length=es.size)
  (nx:∀(A:Around) (s:Shared) (i:Nat) (Q':Option (Value×Nat)->Shared->Prop) (E':Value->Shared->Prop),i<=es.size->gq w s.heap S es ep t->Q' ((ys[i]?).map λv=>(v,sl (i+1))) s->wpAny (model prog w) A (setNext S (sl i) i ep) Q' E' s)
  (A:Around) (hh:A.handled=none):WalksS prog w A I [I,S,T] [I] (λa b=>b=a) es.size (λi v=>ys[i]?=some v) (λi s=>g6 s.heap I S (.int (sl i) 0) i es.size ep/\gq w s.heap S es ep t) where
 sub:=λb hb=>by simp at hb;simp[hb]
 grefl:=λ_=>rfl
 gtrans:=λ_ _ _ h1 h2=>h2.trans h1
 frame:=λi s h' tk st _ hk=>⟨st.1.keep λo e=>hk I (by simp) o e,st.2.keep λo e=>hk S (by simp) o e⟩
 item:=λi s Q E hi st hQ=>by
  have lt:i<ys.length:=by omega
  have e:ys[i]?=some ys[i]:=aam lt;refine oV hh st.1 st.2 (some (ys[i],sl (i+1))) (λQ' E' q=>nx _ s i Q' E' (by omega) st.2 (by rw[e];exact q)) (λv n h' r Fm hs=>?_) λr=>nomatch r;cases r;exact hQ _ _ e ⟨Fm,st.2.keep λo q=>hs.extBut S o hIS q⟩ ⟨λb o hb q=>hs.extBut b o (λz=>hb (by simp[z])) q,rfl,rfl,rfl,aal _⟩
 done:=λs Q E st hQ=>by have e:ys[es.size]?=none:=abU (by omega);refine oV hh st.1 st.2 none (λQ' E' q=>nx _ s _ Q' E' (aal _) st.2 (by rw[e];exact q)) (λv n h' r _ _=>nomatch r) λ_ h' he=>?_;exact hQ _ ⟨λb o hb q=>he b o (λz=>hb (by simp[z])) q,rfl,rfl,rfl,aal _⟩
 self:=λi s Q E st hQ=>y7 st.1 hQ
theorem Fn{S I T:Addr}{es:Array (Int×Value)}{ep:Nat}{t:SetTable}{ord:List Nat}(hIS:S≠I)(hIT:T≠I)(len:ord.length=es.size)(le:∀k∈ord,k<es.size)
  (A:Around) (hh:A.handled=none):WalksS prog w A I [I,S,T] [I] (λa b=>b=a) es.size (λi v=>(ord.map λk=>(es[k]?.map (·.2)).getD .none)[i]?=some v)
   (λi s=>g6 s.heap I S (.ref T) i es.size ep/\gq w s.heap S es ep t/\s.heap.get? T=some {cls:=.type "tuple",data:=.seq (ord.map λ(k:Nat)=>rawInt k).toArray}) where
 sub:=λb hb=>by simp at hb;simp[hb]
 grefl:=λ_=>rfl
 gtrans:=λ_ _ _ h1 h2=>h2.trans h1
 frame:=λi s h' tk st _ hk=>⟨st.1.keep λo e=>hk I (by simp) o e,st.2.1.keep λo e=>hk S (by simp) o e,hk T (by simp) _ st.2.2⟩
 item:=λi s Q E hi st hQ=>by
  refine oW hh st.1 st.2.1 st.2.2 le (λk v h' hk hv Fm hs=>?_) λr=>?_
  ·refine hQ _ _ (by rw[aaq,hk];simp[hv]) ⟨Fm,st.2.1.keep λo q=>hs.extBut S o hIS q,hs.extBut T _ hIT st.2.2⟩ ⟨λb o hb q=>hs.extBut b o (λz=>hb (by simp[z])) q,rfl,rfl,rfl,aal _⟩
  ·exact absurd (List.getElem?_eq_none_iff.mp r) (by omega)
 done:=λs Q E st hQ=>by
  refine oW hh st.1 st.2.1 st.2.2 le (λk v h' hk _ _ _=>?_) λ_ h' he=>?_
  ·exact absurd hk (by rw[abU (by omega)];simp)
  ·exact hQ _ ⟨λb o hb q=>he b o (λz=>hb (by simp[z])) q,rfl,rfl,rfl,aal _⟩
 self:=λi s Q E st hQ=>y7 st.1 hQ
theorem yo(p:Nat):SetTable.below #[p] 0=0:=by simp[SetTable.below,SetTable.below.go]
theorem yq(p:Nat):SetTable.below #[p] (p+1)=1:=by simp[SetTable.below,SetTable.below.go]
theorem y8{α:Type}(xs:Array α)(h:xs.size=1):∃e,xs=#[e]:=by
 obtain⟨l⟩:=xs;match l,h with
 |[e],_=>exact⟨e,rfl⟩
theorem Fo{S:Addr}{es:Array (Int×Value)}{ep:Nat}{t:SetTable}{Q:Value->Shared->Prop}(x:gq w s.heap S es ep t)(small:es.size<=sizeLine)
  (h:∀(I T:Addr) (ys:List Value) (St:Nat->Shared->Prop) (h':Heap) (dr:Drawn),ys.Perm (es.toList.map (·.2))->@LE.le Nat _ s.heap.objs.size I->(T=S\/@LE.le Nat _ s.heap.objs.size T)->(∀b o,s.heap.get? b=some o->h'.get? b=some o) ->
   @LT.lt Nat _ I h'.objs.size->@LT.lt Nat _ T h'.objs.size ->
   (∀A:Around,A.handled=none->WalksS prog w A I [I,S,T] [I] (λa b=>b=a) es.size (λi v=>ys[i]?=some v) St)->(∀i s',St i s'->s'.TypeIs (.ref I) "set_iterator")->St 0 {s with heap:=h',drawn:=dr}->Q (.ref I) {s with heap:=h',drawn:=dr}) :
  wpAny (model prog w) A (pyIter (.ref S)) Q E s:=by
 obtain⟨os,jg,Hw,kj⟩:=x.ho;have CT:@LT.lt Nat _ S s.heap.objs.size:=aay jg;refine aeT x.typeIs aeh (wpAny_call_entry aeh x.typeIs so ?_ (PySem.F.args_set_iter_1 _));unfold Builtin.«frozenset.__iter__» Builtin.Frozenset.slot0 slotArgs;simp only[ae',acD,aaB,↓reduceIte,bind_assoc,acH,bne_self_eq_false];unfold Builtin.Frozenset.addrOf Builtin.Frozenset.sizeOf;refine wpAny_bind (wpAny_pure ?_);dsimp only;refine wpAny_bind (wpAny_pure ?_);refine wpAny_bind (wpAny_bind (wpAny_setEntries_of jg kj x.fits (wpAny_pure ?_)));refine wpAny_bind ?_;unfold setDrawn;refine wpAny_bind (wpAny_setState_of jg kj x.fits ?_);dsimp only;refine wpAny_bind (iF ?_);refine wpAny_pure ?_;show wpAny _ _ (if (!cB w&&(!t.plain&&decide (es.size > 1)))=true then _ else _) _ _ _
 have nQ:∀(ys:List Value) (sl:Nat->Nat),sl 0=0->ys.Perm (es.toList.map (·.2))->(∀(A:Around) (s:Shared) (i:Nat) (Q':Option (Value×Nat)->Shared->Prop) (E':Value->Shared->Prop),i<=es.size->gq w s.heap S es ep t->Q' ((ys[i]?).map λv=>(v,sl (i+1))) s->wpAny (model prog w) A (setNext S (sl i) i ep) Q' E' s) ->
   wpAny (model prog w) A.in1 (do
     let first <-pure (rawInt 0)
     let __do_lift <-setEpoch S
     let __do_lift <-newFields "set_iterator" [first,rawInt 0,Value.ref S,rawInt es.size,rawInt __do_lift]
     ret __do_lift) (λfin s'=>∃v,fin=Fin.done (Flow.ret v)/\∃T' r,s'.TypeIs v T'/\typeLookup (Value.type T') (Str.ofString "__next__")=pure (some r)/\Q v s') E s:=λys sl s0 hp nx=>by
  have len:ys.length=es.size:=by rw[hp.length_eq];simp
  refine wpAny_bind (wpAny_pure (wpAny_bind (wpAny_setEpoch_of jg kj x.fits ?_)));refine wpAny_bind (wpAny_newObj_type (wpAny_pure ⟨_,rfl,"set_iterator",_,⟨_,aaC _ rfl,rfl⟩,dM.lookup,?_⟩));have sz:(s.heap.push {cls:=.type "set_iterator",data:=.fields #[rawInt 0,rawInt 0,Value.ref S,rawInt es.size,rawInt ep]}).objs.size=s.heap.objs.size+1:=abk ..;refine h s.heap.objs.size S ys _ _ s.drawn hp (aal _) (.inl rfl) (λb o e=>aao _ e) (by rw[sz];exact abg _) (by rw[sz];exact abx CT)
   (λA hh=>Fj (t:=t) (ep:=ep) (sl:=sl) (aaG CT) len nx A hh) (λi s' st=>st.1.typeIs) ⟨⟨_,aaC _ rfl,rfl,by rw[s0];simp[rawInt]⟩,x.keep λo e=>aao _ e⟩
 cases hb:cB w with
 |true =>rw[if_neg (by simp)];refine nQ ((pickOrder (w.params.setOrder S ep) es).toList.map (·.2)) (λ_=>0) rfl ((CQ _ es).map _) λA s i Q' E' _ x' q=>CS x' hb Q' E' ?_;rw[aaq,aa9,Option.map_map] at q;exact q
 |false=>
  have fz:t.place.size=es.size:=by
   have:=x.fits
   unfold SetTable.fits at this;simp at this;exact this.1
  by_cases many:1<es.size
  ·rcases x.pl many with np|⟨yp,ri⟩;rotate_left
   ·rw[if_neg (by rw[yp];simp)];refine nQ (es.toList.map (·.2)) (λi=>if i=0 then 0 else t.place.getD (i-1) 0+1) rfl (.refl _) λA s i Q' E' hi x' q=>wu x' hb (.inr yp) Q' E' ?_;have bl:SetTable.below t.place (if i=0 then 0 else t.place.getD (i-1) 0+1)=i:=L3.AW ri (by rw[fz];exact hi);rw[bl];have e1:(es.toList.map (·.2))[i]?=(es[i]?).map (·.2):=by rw[aaq,aa9]
    rw[e1] at q;by_cases c:i<es.size
    ·rw[aaE c] at q⊢;rw[aaE (show i<t.place.size by omega)];have e2:t.place.getD (i+1-1) 0=t.place[i]'(by omega):=by simp[fz,c]
     simp only[Nat.add_one_ne_zero,aa3] at q;rw[e2] at q;exact q
    ·rw[Array.getElem?_eq_none (by omega)] at q⊢;exact q
   rw[if_pos (by rw[np];simp[many])];refine wpAny_bind (qO es.size _ _ _ (by simp) λord dr hp=>?_);have lo:ord.length=es.size:=by rw[hp.length_eq];simp
   have le:∀k∈ord,k<es.size:=λk hk=>by simpa using hp.mem_iff.mp hk
   refine wpAny_bind (wpAny_newTuple ?_ (by rw[aak,lo];exact small));generalize dE:s.heap.push {cls:=.type "tuple",data:=.seq (ord.map λ(k:Nat)=>rawInt k).toArray}=h1;have kp:∀b o,s.heap.get? b=some o->h1.get? b=some o:=λb o e=>by rw[<-dE];exact aao _ e
   have sz:h1.objs.size=s.heap.objs.size+1:=by rw[<-dE];exact abk ..
   have new:h1.get? s.heap.objs.size=some {cls:=.type "tuple",data:=.seq (ord.map λ(k:Nat)=>rawInt k).toArray}:=by rw[<-dE];exact aaC _ rfl
   refine wpAny_bind (wpAny_setEpoch_of (s:={s with heap:=h1,drawn:=dr}) (kp _ _ jg) kj x.fits ?_);refine wpAny_bind (wpAny_newObj_type (wpAny_pure ⟨_,rfl,"set_iterator",_,⟨_,aaC _ rfl,rfl⟩,dM.lookup,?_⟩));have CO:(h1.push {cls:=.type "set_iterator",data:=.fields #[Value.ref s.heap.objs.size,rawInt 0,Value.ref S,rawInt es.size,rawInt ep]}).objs.size=h1.objs.size+1:=abk ..;refine h h1.objs.size s.heap.objs.size _ _ _ dr ?_ (by rw[sz];exact abu _) (.inr (aal _)) (λb o e=>aao _ (kp b o e)) (by rw[CO];exact abg _) (by rw[CO,sz];exact abx (abg _))
    (λA hh=>Fn (t:=t) (ep:=ep) (ord:=ord) (by rw[sz];exact aaG (abx CT)) (by rw[sz];exact aaG (abg _)) lo le A hh) (λi s' st=>st.1.typeIs) ⟨⟨_,aaC _ rfl,rfl,by simp[rawInt]⟩,x.keep λo e=>aao _ (kp _ _ e),aao _ new⟩
   refine(hp.map _).trans (.of_eq ?_);refine aeU λj=>?_;rw[aaq,aaq];by_cases hj:j<es.size
   ·have e1:(List.range es.size)[j]?=some j:=List.getElem?_range hj;have e2:es.toList[j]?=some es[j]:=by simp[hj]
    rw[e1,e2];simp[hj]
   ·have e1:(List.range es.size)[j]?=none:=abU (by simp;omega);have e2:es.toList[j]?=none:=abU (by simp;omega);rw[e1,e2];rfl
  ·rw[if_neg (by simp[many])];refine nQ (es.toList.map (·.2)) (λi=>if i=0 then 0 else t.place.getD 0 0+1) rfl (.refl _) λA s i Q' E' hi x' q=>wu x' hb (.inl many) Q' E' ?_;have e0:es.size=0\/es.size=1:=by omega
   rcases e0 with e0|e0
   ·have e1:i=0:=by omega
    subst e1;have ee:es=#[]:=Array.eq_empty_of_size_eq_zero e0;subst ee;simpa using q
   ·obtain⟨e,rfl⟩:∃e,es=#[e]:=y8 es e0;obtain⟨p,hp⟩:∃p,t.place=#[p]:=y8 t.place (by rw[fz];rfl);rw[hp];have hi':i=0\/i=1:=by simp at hi;omega
    rcases hi' with rfl|rfl
    ·rw[if_pos rfl,yo];simpa [hp] using q
    ·rw[if_neg (by decide)]
     have:SetTable.below #[p] ((#[p]:Array Nat).getD 0 0+1)=1:=yq p
     rw[this];simpa using q
theorem Fp{r:Addr}{Q:Bool->Shared->Prop}(hT:s.TypeIs (.ref r) "set")(h:Q false s):wpAny (model prog w) A (Builtin.List.listLengthHint (.ref r)) Q E s:=by
 unfold Builtin.List.listLengthHint;refine wpAny_bind (wpAny_specialOf hT PySem.F.slot_set_len.lookup ?_);generalize Rg:("set.__len__" : String)=Xk;wp_delta
 rw[show splitId Xk=some ("set","__len__") from by subst Rg;decide +kernel];subst Rg;refine wpAny_bind (wpAny_isInstance (T:="set") (b:=true) hT (by rw[acN];kernel_rfl) ?_);refine adR (λLY=>absurd LY (by decide)) (λ_=>?_);refine adR (λ_=>?_) (λLY=>absurd (by decide +kernel) LY);refine wpAny_bind (wpAny_typeOf hT ?_);exact wpAny_pure h
theorem AX{S L:Addr}{es:Array (Int×Value)}{ep:Nat}{t:SetTable}{R:Result->Shared->Prop}(x:gq w s.heap S es ep t)(small:es.size<=sizeLine)(hh:A.handled=none)(hSL:L≠S)(res:Value)(c₀:Nat)(hL:s.heap.get? L=some {cls:=.type "list",data:=.seq #[] c₀})
  (hR:∀h' tk dr acc' c',(∀b o,b≠L->s.heap.get? b=some o->h'.get? b=some o)->h'.get? L=some {cls:=.type "list",dict:=none,data:=.seq acc' c',slots:=#[]}->acc'.toList.Perm (es.toList.map (·.2))->R (.ok (.ret res)) {s with heap:=h',toks:=tk,drawn:=dr}) :
  wpAny (model prog w) A.in1 (Builtin.List.listExtendWith (.ref L) (.ref S) res)
   (λfin s'=>match fin with|.done f=>R (.ok f) s'|.again c'=>c'.quiet=true/\codeAny (model prog w) A c' R s') (λe s'=>R (.error e) s') s:=by
 have Rh:@LT.lt Nat _ L s.heap.objs.size:=aay hL;unfold Builtin.List.listExtendWith;refine wpAny_bind (wpAny_typeOf (T:="set") x.typeIs ?_);have h1:Builtin.List.listSameRef (.ref L) (.ref S)=false:=by simp[Builtin.List.listSameRef,hSL]
 have n1:(Value.type "set"==Value.type "list")=false:=by decide
 have n2:(Value.type "set"==Value.type "tuple")=false:=by decide
 simp only[h1,n1,n2,aer,aaB,aa3];refine wpAny_bind (Fo x small λI T ys St h' dr hp hI hT kp ltI dv W ty st=>?_);have hLf:L∉[I,S,T]:=by
  simp only[aav,ab3,or_false,not_or];refine⟨aaG (aaT Rh hI),hSL,?_⟩;rcases hT with hT|hT
  ·rw[hT];exact hSL
  ·exact aaG (aaT Rh hT)
 have W1:=W A.in1 (by simpa using hh);have len:ys.length=es.size:=by rw[hp.length_eq];simp
 have key:∀(h:Heap) (c₁ tk:Nat),St 0 {s with heap:=h,toks:=tk,drawn:=dr}->(∀b o,b≠L->s.heap.get? b=some o->h.get? b=some o) ->
   h.get? L=some {cls:=.type "list",data:=.seq #[] c₁}->codeAny (model prog w) A (.builtin "list.extend.loop" ⟨[.ref L,.ref I,res],[]⟩) R {s with heap:=h,toks:=tk,drawn:=dr}:=by
  intro h c₁ tk hst hk CU;refine codeAny_extend_loopS W1 small L hLf res es.size 0 _ #[] c₁ rfl (aaZ _) hst CU (ItemsOf.nil _) λs' acc' c' hm wx mI=>?_;obtain⟨h2,g2,d2,t2,o2⟩:=s';cases (show g2=s.gens from hm.gens);cases (show d2=dr from hm.drawn);cases (show o2=s.os from hm.os);refine hR h2 t2 dr acc' c' (λb o hb e=>hm.heap b o (λhmem=>?_) (hk b o hb e)) wx ?_
  ·rcases aav.mp hmem with e'|hmem
   ·exact hb e'
   ·exact absurd (aay e) (by rw[aaA.mp hmem];exact adx.mpr hI)
  ·have e:acc'.toList=ys:=by
    refine aeU λj=>?_;by_cases hj:j<es.size
    ·have l1:j<acc'.size:=by rw[mI.1];exact hj
     have e1:acc'[j]?=some acc'[j]:=by simp[l1]
     rw[mI.2 j _ e1,aa9];exact e1
    ·rw[abU (by rw[aaV,mI.1];omega),abU (by omega)]
   rw[e];exact hp
 have CU:=kp _ _ hL;have x1:=x.keep λo e=>kp _ _ e;refine wpAny_bind (wpAny_holding (Fp (s:={s with heap:=h',drawn:=dr}) x1.typeIs ?_));refine adR (λ_=>?_) (λ_=>wpAny_pure ⟨acB ady _,key _ c₀ _ st (λb o _ e=>kp b o e) CU⟩);refine wpAny_bind (wpAny_rule ?_);refine wpAny_bind ?_;show wpAny _ _ (updateSeq L (·.push .none)>>=λ_=>updateSeq L (·.pop)) _ _ _
 refine wpAny_bind (wpAny_updateSeq CU rfl ?_);have Ri:=aby (Obj.mapSeq (·.push Value.none)) CU rfl;refine wpAny_updateSeq (hz:=by seq_fits) Ri rfl ?_;have Xl:=aby (Obj.mapSeq (·.pop)) Ri rfl;refine wpAny_pure ⟨acB ady _,key _ _ _ ?_ (λb o hb e=>?_) Xl⟩
 ·refine W1.frame 0 _ _ _ st (aal _) λb hb o e=>?_;have Rj:b≠L:=λh=>hLf (h▸hb);exact(abq _ _ (aaX Rj)).trans ((abq _ _ (aaX Rj)).trans e)
 ·exact(abq _ _ (aaX hb)).trans ((abq _ _ (aaX hb)).trans (kp _ _ e))
theorem oX{S:Addr}{es:Array (Int×Value)}{ep:Nat}{t:SetTable}{R:List Value->Shared->Prop}(x:gq w s.heap S es ep t)(small:es.size<=sizeLine)(hh:A.handled=none)
  (h:∀(h':Heap) (tk:Nat) (dr:Drawn) (acc:List Value),(∀b o,s.heap.get? b=some o->h'.get? b=some o)->acc.Perm (es.toList.map (·.2))->R acc {s with heap:=h',toks:=tk,drawn:=dr}) :
  wpAny (model prog w) A (collect (.ref S)) R E s:=by
 obtain⟨os,jg,_⟩:=x.ho;have CT:@LT.lt Nat _ S s.heap.objs.size:=aay jg;unfold collect;refine wpAny_bind (wpAny_runValue (codeAny_builtin PySem.F.entry_proto_collect ?_));rw[abM PySem.F.plain_proto_collect _];show wpAny _ A.in1 (newList []>>=λl=>again (.builtin "list.__iadd__" ⟨[l,.ref S],[]⟩)) _ _ s
 refine wpAny_bind (wpAny_newObj_type ?_);refine wpAny_pure ⟨acB adN _,codeAny_builtin PySem.F.entry_list_iadd ?_⟩;rw[abM adN _];have hL:(s.heap.push {cls:=.type "list",data:=.seq ([]:List Value).toArray}).get? s.heap.objs.size=some {cls:=.type "list",data:=.seq #[]}:=aaC _ rfl;show wpAny _ A.in1 (Builtin.List.listExtendWith (.ref s.heap.objs.size) (.ref S) (.ref s.heap.objs.size)) _ _ _
 have key:=AX (prog:=prog) (w:=w) (A:=A) (s:={s with heap:=s.heap.push {cls:=.type "list",data:=.seq ([]:List Value).toArray} })
  (R:=λ(q:Result) (s':Shared)=>∃(h':Heap) (tk:Nat) (dr:Drawn) (acc':Array Value) (c':Nat),q=.ok (.ret (.ref s.heap.objs.size))/\s'={s with heap:=h',toks:=tk,drawn:=dr} /\
   (∀b o,s.heap.get? b=some o->h'.get? b=some o)/\h'.get? s.heap.objs.size=some {cls:=.type "list",dict:=none,data:=.seq acc' c',slots:=#[]}/\acc'.toList.Perm (es.toList.map (·.2)))
  (x.keep λo e=>aao _ e) small hh (ac3 CT) (.ref s.heap.objs.size) 0 hL
  (λh' tk dr acc' c' hk wx mI=>⟨h',tk,dr,acc',c',rfl,rfl,λb o e=>hk b o (aaG (aay e)) (aao _ e),wx,mI⟩)
 refine wpAny_mono key (λfin s' x=>?_) λe s' x=>?_
 ·cases fin with
  |done f=>
   obtain⟨h',tk,dr,acc',c',e,rfl,hk,wx,mI⟩:=x;cases e;show wpAny _ A (load s.heap.objs.size>>=_) _ _ _
   refine wpAny_bind (wpAny_load wx ?_);exact wpAny_pure (h h' tk dr acc'.toList hk mI)
  |again c₁=>
   refine⟨x.1,codeAny_mono x.2 λq s₂ y=>?_⟩;obtain⟨h',tk,dr,acc',c',rfl,rfl,hk,wx,mI⟩:=y;show wpAny _ A (load s.heap.objs.size>>=_) _ _ _
   refine wpAny_bind (wpAny_load wx ?_);exact wpAny_pure (h h' tk dr acc'.toList hk mI)
 ·obtain⟨_,_,_,_,_,e',_⟩:=x;cases e'
theorem jr.UO{a:Addr}{h:Heap}{zs:List Str}{o:Obj}{es:Array (Int×Value)}{ep:Nat}{t:SetTable}(x:jr prog w h a zs (!cB w) o es ep t):gq w h a es ep t:=
 ⟨⟨o,x.ho,x.ex,x.hd⟩,x.fits,x.led,λq=>.inl (x.pl (by omega))⟩
end
theorem gW{α:Type}[DecidableEq α]:∀{l m:List α},l.Nodup->(∀x∈l,x∈m)->m.length<=l.length->l.Perm m
 |[],m,_,_,h=>by
  have:m=[]:=acq (by simpa using h)
  rw[this]
 |x::l,m,nd,sub,h=>by
  have nd':=aa6.mp nd;have hx:=sub x aau;have p:=List.perm_cons_erase hx;refine(List.Perm.cons x (gW nd'.2 (λy hy=>?_) ?_)).trans p.symm
  ·have:=p.mem_iff.mp (sub y (aaw _ hy))
   rcases aav.mp this with e|e
   ·exact absurd (e▸hy) nd'.1
   ·exact e
  ·have:=acJ hx
   simp at h;omega
theorem JE{σ:List Str}{z:Str}(h:σ.Nodup):(gN σ z).Nodup:=by
 unfold gN;split
 ·exact h
 ·rename_i q;exact aa6.mpr ⟨q,h⟩
theorem mJ(zs:List Str):(dist zs).Nodup:=by
 unfold dist
 have:∀(zs σ:List Str),σ.Nodup->(zs.foldl gN σ).Nodup:=by
  intro zs;induction zs with
  |nil=>intro σ h;exact h
  |cons z zs ih=>intro σ h;exact ih _ (JE h)
 exact this zs [] .nil
theorem mK{zs:List Str}{k:Str}:k∈dist zs ↔ k∈zs:=by
 unfold dist
 have:∀(zs σ:List Str),k∈zs.foldl gN σ ↔ k∈σ\/k∈zs:=by
  intro zs;induction zs with
  |nil=>intro σ;simp
  |cons z zs ih=>intro σ;rw[abV,ih,mB,aav];exact⟨λh=>by rcases h with(h|h)|h<;>simp[h],λh=>by rcases h with h|h|h<;>simp[h]⟩
 simpa using this zs []
theorem wy:∀(us:List Value),(∀u∈us,∃z t,u=.str z t)->∃zs,StrsAre us zs
 |[],_=>⟨[],.nil⟩
 |u::us,h=>by obtain⟨z,t,rfl⟩:=h u aau;obtain⟨zs,q⟩:=wy us λv hv=>h v (aaw _ hv);exact⟨z::zs,.cons z t q⟩
theorem Fq:∀{us:List Value} {zs:List Str} {z:Str},StrsAre us zs->(z∈zs ↔ ∃u∈us,Value.isStrOf z u=true):=by
 intro us zs z h;induction h with
 |nil=>simp
 |cons y t _ ih=>
  rw[aav,ih];constructor
  ·rintro(rfl|⟨u,hu,q⟩)
   ·exact⟨_,aau,by simp[Value.isStrOf]⟩
   ·exact⟨u,aaw _ hu,q⟩
  ·rintro⟨u,hu,q⟩;rcases aav.mp hu with rfl|hu
   ·obtain⟨t',e⟩:=ada q;cases e;exact .inl rfl
   ·exact .inr ⟨u,hu,q⟩
theorem CV:∀{us vs:List Value},us.Perm vs->∀{zs:List Str},StrsAre us zs->∃ys,StrsAre vs ys/\zs.Perm ys:=by
 intro us vs p;induction p with
 |nil=>intro zs h;exact⟨zs,h,.refl _⟩
 |cons x _ ih=>intro zs h;cases h with|cons z t h=>obtain⟨ys,q,r⟩:=ih h;exact⟨z::ys,.cons z t q,.cons z r⟩
 |swap x y l=>intro zs h;cases h with|cons z t h=>cases h with|cons z' t' h=>exact⟨_,.cons z' t' (.cons z t h),.swap _ _ _⟩
 |trans _ _ LZ L0=>intro zs h;obtain⟨ys,q,r⟩:=LZ h;obtain⟨ws,q',r'⟩:=L0 q;exact⟨ws,q',r.trans r'⟩
section
variable {prog:Program}{w:World}
theorem jr.vals{a:Addr}{h:Heap}{zs:List Str}{led:Bool}{o:Obj}{es:Array (Int×Value)}{ep:Nat}{t:SetTable}(x:jr prog w h a zs led o es ep t){acc:List Value}(p:acc.Perm (es.toList.map (·.2))):∃ys,StrsAre acc ys/\ys.Perm (dist zs):=by
 obtain⟨ks,hk⟩:=wy (es.toList.map (·.2)) λu hu=>by obtain⟨e,he,rfl⟩:=aaN.mp hu;obtain⟨⟨k,hk,_⟩,_⟩:=x.el e he;obtain⟨t,q⟩:=ada (x:=k) (v:=e.2) hk;exact⟨k,t,q⟩
 obtain⟨ys,hy,q⟩:=CV p.symm hk;refine⟨ys,hy,q.symm.trans (gW (mJ zs) (λz hz=>?_) ?_).symm⟩
 ·obtain⟨e,he,r⟩:=(x.mem z).mp (decide_eq_true hz);exact(Fq hk).mpr ⟨e.2,aaN.mpr ⟨e,he,rfl⟩,r⟩
 ·have:=gj hk
  rw[aak,aaV,x.size] at this;omega
end
theorem gX{xs ys:List Str}(p:xs.Perm ys):aF xs=aF ys:=ja ((fe xs).trans p) (lD xs)
def nR(P:Program)(w:World)(a:Addr)(zs:List Str):HO:=.ext λh=>kL P w h a zs (!cB w)
theorem Inv.drawn{X:Cx}{pins:List (Addr×Obj)}{σ:St}{H:Hp}{s:Shared}{dr:Drawn}(I:Inv X pins σ H s):Inv X pins σ H {s with drawn:=dr}:=
 ⟨I.ok,I.os,I.bare,I.base,I.loc,I.cell,I.free,I.g0,I.pin,I.aR,I.len⟩
section
variable {X:Cx}
theorem JF{H:Hp}{h:Heap}{a:Addr}{zs:List Str}(x:kL X.prog X.w h a zs (!cB X.w)):bD X.prog X.w H h a (nR X.prog X.w a zs):=by refine⟨x,?_,λh1 h2 q k=>q.keep λo e=>k o e⟩;obtain⟨o,es,ep,t,y⟩:=x;exact⟨o,y.ho⟩
theorem wz(hc:X.calm=true):dj X (.type "set") (λxs H Q=>∃(p:Addr) (zs:List Str),xs=[.ref p]/\(aj X.K H p (zs.map V.str)\/aL X.K H p (zs.map V.str))/\zs.length+1<scanBound/\∀l,H l=none->Q (.ref l) (upd H l (nR X.prog X.w l zs))):=by
 rintro pins s σ H xs us Q I r ⟨p,zs,rfl,hp,small,q⟩;obtain⟨u,rfl,rx⟩:=vals1 r;cases rx;have fr:H s.heap.objs.size=none:=I.aR.fresh (aal _);have fin:∀(h':Heap) (tk:Nat),kL X.prog X.w h' s.heap.objs.size zs (!cB X.w)->(∀b o,s.heap.get? b=some o->h'.get? b=some o)->EP X pins σ Q (.ref s.heap.objs.size) {s with heap:=h',toks:=tk}:=λh' tk T kp =>⟨.ref s.heap.objs.size,_,I.laid (t':=tk) kp (aal _) (JF T),rfl,q _ fr⟩
 rcases hp with hp|hp
 ·obtain⟨its,rv,pl,_⟩:=I.list hp;exact CP (I.ok.hd hc) pl.isList (hZ rv) small fin
 ·obtain⟨its,rv,pl,_⟩:=I.tuple hp;exact AU (I.ok.hd hc) pl (hZ rv) small fin
theorem qP(hc:X.calm=true):dj X (.builtin "sorted") (λxs H Q=>∃(p:Addr) (zs:List Str),xs=[.ref p]/\H p=some (nR X.prog X.w p zs)/\zs.length<64/\∀l,H l=none->Q (.ref l) (upd H l (.lst ((aF (dist zs)).map V.str)))):=by
 rintro pins s σ H xs us Q I r ⟨p,zs,rfl,hp,aJ,q⟩;obtain⟨u,rfl,rx⟩:=vals1 r;cases rx;obtain⟨⟨o,es,ep,t,x⟩,_⟩:=I.aR _ _ hp;have AY:(dist zs).length<64:=abJ (rQ zs) aJ;refine acI ae2 aeG aeH (args_sorted1 _) ?_;unfold Builtin.«sorted»;apply wpAny_bind (m:=checkCount "sorted" 1 1 _);apply wpAny_pure;apply wpAny_bind;refine oX (A:=X.A.in1) x.UO (by rw[x.size];exact aap (abe AY) (by decide)) (by exact I.ok.hd hc) λh1 tk dr acc keep pm=>?_;obtain⟨ys,txt,py⟩:=x.vals pm;have la:acc.length=(dist zs).length:=by rw[gj txt];exact py.length_eq
 apply wpAny_bind;refine wpAny_newList ?_ (by rw[la];exact aap (abe AY) (by decide));apply wpAny_bind;apply wpAny_holding;refine wpAny_mono (uo (prog:=X.prog) (w:=X.w) (s:={s with drawn:=dr}) (h:=h1) (tk:=tk) (Q:=EP X pins σ Q) txt (by rw[la];exact AY) λout n h2 o1 o2 o3=>?_) (λ_ _ z=>wpAny_pure ⟨_,rfl,z⟩) λ_ _ z=>z;rw[gX py] at o1;have no:s.heap.get? h1.objs.size=none:=by
  cases e:s.heap.get? h1.objs.size with
  |none=>rfl
  |some o=>exact absurd (aay (keep _ _ e)) (aa8 _)
 have uq:H h1.objs.size=none:=by
  cases e:H h1.objs.size with
  |none=>rfl
  |some o =>obtain⟨u,eu⟩:=(I.aR _ _ e).there;rw[no] at eu;cases eu
 refine⟨.ref h1.objs.size,_,(I.drawn (dr:=dr)).AI (t':=tk) (o:=.lst ((aF (dist zs)).map V.str)) (λb o e=>o2 _ _ (keep _ _ e)) no uq ?_,rfl,q _ uq⟩;exact⟨by rw[aak,cC];exact aap (abe AY) (by decide),out,n,rS o1,o3⟩
theorem ux{P:Program}{w:World}{K:PySem.W.Frag}(hc:X.calm=true)(hP:X.prog=P:=by rfl)(hw:X.w=w:=by rfl)(hK:X.K=K:=by rfl):dj X (.type "set") (λxs H Q=>∃(p:Addr) (zs:List Str),xs=[.ref p]/\(aj K H p (zs.map V.str)\/aL K H p (zs.map V.str))/\zs.length+1<scanBound/\∀l,H l=none->Q (.ref l) (upd H l (nR P w l zs))):=by subst hP hw hK;exact wz hc
theorem nU{P:Program}{w:World}(hc:X.calm=true)(hP:X.prog=P:=by rfl)(hw:X.w=w:=by rfl):dj X (.builtin "sorted") (λxs H Q=>∃(p:Addr) (zs:List Str),xs=[.ref p]/\H p=some (nR P w p zs)/\zs.length<64/\∀l,H l=none->Q (.ref l) (upd H l (.lst ((aF (dist zs)).map V.str)))):=by subst hP hw;exact qP hc
end
def y9(K:PySem.W.Frag)(a:Addr):It:=
 ⟨λi H=>∃xs x,aj K H a xs/\xs[i]?=some x,λi H x H'=>∃q y,H q=none/\(∀xs,aj K H a xs->xs[i]?=some y)/\x=.ref q/\H'=upd H q (.tup [.int i,y]),λi H=>∃xs,aj K H a xs/\xs.length<=i⟩
theorem CW{P:Program}{w:World}{K:PySem.W.Frag}{elts:List Expr}{x1}{tp:Pos}(a e it:Addr)(ne:e≠it):Turn P w K (.Tuple elts x1 tp) (y9 K a) [e,it] e (λi h=>(∃old,IsEnum h e it i old)/\h.IsListIter it a i) where
 mem:=by simp
 obj:=λi h st b hb=>by
  obtain⟨⟨old,he⟩,o,ho,c,d⟩:=st;rcases aav.mp hb with q|q
  ·subst q;exact⟨_,he,λv z=>nomatch z⟩
  ·have q':b=it:=by simpa using q
   subst q';exact⟨o,ho,λv z=>by rw[d] at z;cases z⟩
 keep:=λi h h' st k=>⟨let ⟨old,he⟩:=st.1;⟨old,k e (by simp) _ he⟩,st.2.at λo q=>k it (by simp) o q⟩
 item:=by
  intro X hP hw hK hc i pins s σ H E I hf st hg;subst hP hw hK;obtain⟨⟨old,he⟩,hit⟩:=st;obtain⟨xs,x,hq,hx⟩:=hg;obtain⟨its,rv,p,hz⟩:=I.list hq;obtain⟨u,hu,ru⟩:=rv.get hx;have f1:=hf e (by simp);have f2:=hf it (by simp);refine wpAny_pyNext_enum_item he hit p.isList (x:=u) (by simpa using hu) ne λh1 o1 i1 t1 z1 k1=>⟨_,rfl,?_⟩
  refine wpAny_letOwnedTupleGo_enum o1 λh2 e2 sb=>?_;have nq:∀{b:Addr} {o:Obj},s.heap.get? b=some o->b≠s.heap.objs.size:=λ{b o} q=>aaG (aay q);have Xm:@LT.lt Nat _ e s.heap.objs.size:=aay he;have ltI:@LT.lt Nat _ it s.heap.objs.size:=let ⟨o,q,_⟩:=hit;aay q
  have qe:s.heap.objs.size≠e:=λz=>by have z':@Eq Nat s.heap.objs.size e:=z;omega
  have hn:H s.heap.objs.size=none:=I.aR.fresh (aal _);have kk:∀b o,b≠e->b≠it->s.heap.get? b=some o->h2.get? b=some o:=λb o n1 n2 q=>(sb.2 b n1).trans (k1 b o n1 n2 q);have tq:h2.get? s.heap.objs.size=some {cls:=.type "tuple",data:=.seq #[.int i s.toks,u]}:=(sb.2 _ qe).trans t1;have hH:∀b o,H b=some o->b≠e/\b≠it/\b≠s.heap.objs.size:=λb o q=>⟨aw q f1.1,aw q f2.1,aw q hn⟩
  refine⟨.ref s.heap.objs.size,upd H s.heap.objs.size (.tup [.int i,x]),?_,rfl,⟨_,x,hn,λys hy=>by rw[I.lY hy hq];exact hx,rfl,rfl⟩,⟨⟨u,e2⟩,i1.at λo q=>(sb.2 _ (aaX ne)).trans q⟩,λb hb=>?_⟩
  ·refine Inv.u7 (ch:=[e,it]) I (s':={s with heap:=h2,toks:=s.toks+1}) rfl ⟨λb ob q n hb hx=>?_,λb ob q n hb hx=>?_,λb ob q n hx=>?_,λb ob q hx=>?_,λb ys q=>?_,λb ob ys q=>?_,λb ps q=>⟨#[],?_⟩⟩ ?_ I.bare λb hb=>?_
   ·exact kk b ob (λz=>hx (by simp[z])) (λz=>hx (by simp[z])) q
   ·exact⟨ob.slots,kk b ob (λz=>hx (by simp[z])) (λz=>hx (by simp[z])) q⟩
   ·rw[aq (nq q)];exact n
   ·exact⟨ob,kk b ob (λz=>hx (by simp[z])) (λz=>hx (by simp[z])) q⟩
   ·rw[aq (hH _ _ q).2.2];exact q
   ·rw[aq (hH _ _ q).2.2];exact q
   ·rw[aq (hH _ _ q).2.2,q];simp
   ·intro b ob q;by_cases hb:b=s.heap.objs.size
    ·subst hb;rw[af] at q;cases q;exact⟨by show 2<=sizeLine;decide,[.int i s.toks,u],.cons ⟨_,rfl⟩ (.cons ru .nil),⟨_,tq,rfl,0,rfl⟩⟩
    ·rw[aq hb] at q;refine(I.aR b ob q).kC (λc v hc g=>?_) (λc g=>?_) λc ys g=>?_
     ·refine kk c v ?_ ?_ g
      ·rcases hc with z|z
       ·rw[z];exact(hH _ _ q).1
       ·exact(hH _ _ z).1
      ·rcases hc with z|z
       ·rw[z];exact(hH _ _ q).2.1
       ·exact(hH _ _ z).2.1
     ·rw[aq (hH _ _ g).2.2];exact g
     ·rw[aq (hH _ _ g).2.2];exact g
   ·rcases aav.mp hb with z|z
    ·subst z;exact⟨f1.2.2.2.1,f1.2.1,f1.2.2.2.2.1,f1.2.2.2.2.2⟩
    ·have z':b=it:=by simpa using z
     subst z';exact⟨f2.2.2.2.1,f2.2.1,f2.2.2.2.2.1,f2.2.2.2.2.2⟩
  ·have lt:b≠s.heap.objs.size:=by
    rcases aav.mp hb with z|z
    ·rw[z];exact aaG Xm
    ·have z':b=it:=by simpa using z
     rw[z'];exact aaG ltI
   rw[aq lt];exact(hf b hb).1
 done:=by intro X hP hw hK hc i pins s σ H E I hf st hg;subst hP hw hK;obtain⟨⟨old,he⟩,hit⟩:=st;obtain⟨xs,hq,hx⟩:=hg;obtain⟨its,rv,p,hz⟩:=I.list hq;obtain⟨f0,f1,f2,f3,f4,f5⟩:=hf it (by simp);have hl:=rv.length;exact wpAny_pyNext_enum_end (I.ok.hd hc) he hit p.isList (by simp;omega) λh' eb=>⟨rfl,I.turned (t':=s.toks) (λb o hb q=>eb b o hb q) f0 f1 f3 f4 f5⟩
 self:=λ_ _ _ _ _ st h=>let ⟨⟨_,he⟩,_⟩:=st;wpAny_pyIter_enum he h
def Pz(K:PySem.W.Frag)(ta:TA):TI:=λσ H R=>ta σ H λvs H1=>∃a,vs=[.ref a]/\(∃xs,aj K H1 a xs)/\R (y9 K a) H1
section
variable {X:Cx}
theorem sr{elts:List Expr}{x1}{tp:Pos}{l:Expr}{ta:TA}{p pos:Pos}(hg:Gl X "enumerate")(hm:X.mg "enumerate" = none)(ha:PA X [l] ta)(hs:starEach [l] X.env=[(false,eval l X.env)]:=by rfl):PI X (.Tuple elts x1 tp) (.Call (.Name "enumerate" p) [l] [] pos) (Pz X.K ta):=by
 intro pins s σ H R I h;refine abB (ir I hg hm boot_enumerate ?_);refine abA (aH (ha pos pins s σ H _ I h) λus s1 ⟨vs,H1,I1,r1,q1⟩=>?_) hs rfl;obtain⟨a,rfl,⟨xs,hq⟩,q⟩:=q1;obtain⟨u,rfl,ru⟩:=vals1 r1;cases ru;obtain⟨its,rv,pl,hz⟩:=I1.list hq;refine call_enumerate_list pl.isList λh' e1 i1 z1 k1=>?_;refine wpAny_pyIter_enum e1 ?_;have ne:s1.heap.objs.size+1≠s1.heap.objs.size:=Nat.succ_ne_self _;refine⟨s1.heap.objs.size+1,[s1.heap.objs.size+1,s1.heap.objs.size],_,_,H1,rfl,I1.kept (t':=s1.toks) k1,CW a _ _ ne,⟨⟨_,e1⟩,i1⟩,λb hb=>?_,q⟩;have le:@LE.le Nat _ s1.heap.objs.size b:=by
  rcases aav.mp hb with z|z
  ·rw[z];exact abu _
  ·have z':b=s1.heap.objs.size:=by simpa using z
   rw[z'];exact aal _
 exact I1.rM le (I1.aR.fresh le)
end
theorem wA{K:PySem.W.Frag}{a:Addr}{xs:List V}{g:TG}{tb:TS}{D:Ends}{σ:St}{H:Hp}(Pv:Nat->St->Hp->Prop)(h0:Pv 0 σ H)(hl:∀i σ H,i<=xs.length->Pv i σ H->aj K H a xs)
  (hs:∀i x σ H q,xs[i]?=some x->Pv i σ H->H q=none->g (.ref q) σ (upd H q (.tup [.int i,x])) λσ2 H2=>tb {D with nx:=Pv (i+1),ct:=Pv (i+1),bk:=D.nx} σ2 H2) (hd:∀σ H,Pv xs.length σ H->D.nx σ H) :
  ∃W:Nat->Nat->St->Hp->Prop,(∃m,W 0 m σ H)/\∀i m σ H,W i m σ H ->
   ((y9 K a).stop i H/\D.nx σ H)\/((y9 K a).go i H/\∃N:St->Hp->Prop,(∀σ' H',N σ' H'->∃m',m'<m/\W (i+1) m' σ' H')/\∀x H',(y9 K a).oN i H x H'->g x σ H' λσ2 H2=>tb {D with nx:=N,ct:=N,bk:=D.nx} σ2 H2):=by
 refine⟨λi m σ H=>m=xs.length-i/\i<=xs.length/\Pv i σ H,⟨xs.length,by simp,aaZ _,h0⟩,?_⟩;rintro i m σ H ⟨rfl,hi,p⟩;have q:=hl i σ H hi p;by_cases hlt:i<xs.length
 ·refine .inr ⟨⟨xs,xs[i],q,by simp[hlt]⟩,Pv (i+1),λσ' H' p'=>⟨xs.length-(i+1),by omega,rfl,hlt,p'⟩,λx H' ⟨r,y,hr,hy,e1,e2⟩=>?_⟩;subst e1 e2;exact hs i y σ _ r (hy xs q) p hr
 ·have e:i=xs.length:=by omega
  subst e;exact .inl ⟨⟨xs,q,aal _⟩,hd σ H p⟩
theorem JG{K:PySem.W.Frag}{a:Addr}{xs:List V}{own:List Str}{fr:List Nat}{g:TG}{tt:TT}{te:TE}{σ:St}{Q:VK}{H:Hp}(Pv:Nat->List V->Hp->Prop)(h0:Pv 0 [] H)(hlen:∀i ys H,i<=xs.length->Pv i ys H->ys.length<=sizeLine)
  (hl:∀i ys H,i<=xs.length->Pv i ys H->aj K H a xs)
  (hs:∀i x ys H q (R:List V->Hp->Prop),xs[i]?=some x->Pv i ys H->H q=none->(∀fq H',Pv (i+1) fq H'->R fq H')->g (.ref q) (dq own fr σ) (upd H q (.tup [.int i,x])) λσ4 H4=>tt σ4 H4 λb H5=>if b=true then te σ4 H5 λy H6=>R (ys++[y]) H6 else R ys H5)
  (hd:∀ys H,Pv xs.length ys H->∀D,H D=none->Q (.ref D) (upd H D (.lst ys))):gT own fr g tt te σ Q (y9 K a) H:=by
 refine⟨λi m ys H=>m=xs.length-i/\i<=xs.length/\Pv i ys H,⟨xs.length,rfl,aaZ _,h0⟩,?_⟩;rintro i m ys H2 ⟨rfl,hi,p⟩;refine⟨hlen i ys H2 hi p,?_⟩;have q:=hl i ys H2 hi p;by_cases h:i<xs.length
 ·refine .inr ⟨⟨xs,xs[i],q,by simp[h]⟩,λx H3 ⟨r,y,hr,hy,e1,e2⟩=>?_⟩;subst e1 e2;exact hs i y ys _ r (λfq H'=>∃m',m'<xs.length-i/\(m'=xs.length-(i+1)/\i+1<=xs.length/\Pv (i+1) fq H')) (hy xs q) p hr λfq H' q=>⟨xs.length-(i+1),by omega,rfl,h,q⟩
 ·have e:i=xs.length:=by omega
  subst e;exact .inl ⟨⟨xs,q,aal _⟩,hd ys H2 p⟩
theorem uy{K:PySem.W.Frag}{n:Nat}{t:mW}(m:∀v σ H Q Q',(∀σ' H',Q σ' H'->Q' σ' H')->t v σ H Q->t v σ H Q'):∀v σ H Q Q',(∀σ' H',Q σ' H'->Q' σ' H')->m9 K n t v σ H Q->m9 K n t v σ H Q':=
 λ_ _ _ _ _ mq ⟨a,xs,e,sq,l,q⟩=>⟨a,xs,e,sq,l,m _ _ _ _ _ mq q⟩
theorem AZ{K:PySem.W.Frag}{n k l h i j:Nat}(h0:h<n)(h1:i<n)(h2:j<n):GK n (m9 K k (g4 (bh h) (g4 (m9 K l (g4 (bh i) (g4 (bh j) m8))) m8))):=
 Cp (mw g9 (gD (uy (gD g9 (gD g9 hG))) hG) (bx h0) (mw (uy (gD g9 (gD g9 hG))) hG (iB h1 h2) yP))
end L2
namespace dJ
open PySem PySem.Spec PyProof.Rows L2
abbrev qQ:Stmt:=top 30 -- Wa
abbrev nV:Stmt:=top 31 -- Xn
abbrev oH:Stmt:=top 32 -- Rk
abbrev jE:Stmt:=top 33 -- Wb
structure Mt(K:PySem.W.Frag)(mg:Str->Option Value)(C fP fS:Addr)(fdP bJ:FuncData):Prop where
 wc:WC K mg C
 pF:a7 K "places" "Web.places" oG fP fdP
 pM:Meth K C "places" fP
 pB:Binds K fdP ["self"] []
 sF:a7 K "ties" "Web.ties" vf fS bJ
 sM:Meth K C "ties" fS
 sB:Binds K bJ ["self"] []
theorem dz.same{K:PySem.W.Frag}{H H':Hp}(s:au H H'){y:V}{t:Value}(h:dz K H y t):dz K H' y t:=by
 cases h with
 |bz=>exact .bz
 |bl x=>exact .bl x
 |int i=>exact .int i
 |str x=>exact .str x
 |qm x=>exact .qm x
 |lst e=>exact .lst (s _ _ e)
 |i3 e=>exact .i3 (s _ _ e)
 |tup e=>exact .tup (s _ _ e)
 |dK e=>exact .dK (s _ _ e)
 |dT e=>exact .dT (s _ _ e)
 |ins e c d f g h=>exact .ins (s _ _ e) c d f g h
theorem a8.gA{C x:Addr}{H:Hp}{ns:List Str}{ps:List (Str×Str)}(h:a8 C H x ns ps)(m:Str)(e1:(m==("kept_places" : Str))=false:=by decide +kernel)(e2:(m==("kept_ties" : Str))=false:=by decide +kernel):∃dx fs,H x=some (.ins C dx fs)/\fs.lookup m=none:=by obtain⟨dx,kp,kt,us,q,_⟩:=h;exact⟨dx,_,q,Pt kp kt m e1 e2⟩
def Item(K:PySem.W.Frag)(H:Hp)(x:V):Prop:=(∃z,x=.str z)\/∃t,dz K H x t/\PySem.W.kitOne K t (.type "str")=some false/\∀z,x≠.str z
def gI(ns:List Str):V->Bool
 |.str z=>decide (z∈ns)
 |_=>false
def toS:V->Option Str
 |.str z=>some z
 |_=>none
def eR(xs:List V):List Str:=xs.filterMap toS
theorem lH(zs:List Str):eR (zs.map V.str)=zs:=by
 induction zs with
 |nil=>rfl
 |cons z zs ih=>show z::eR (zs.map V.str)=_;rw[ih]
theorem oI{ns:List Str}:∀{xs:List V},xs.all (gI ns)=true->xs=(eR xs).map V.str/\∀z∈eR xs,z∈ns
 |[],_=>⟨rfl,λ_ h=>by simp[eR] at h⟩
 |x::xs,h=>by
  rw[acA,abh] at h;obtain⟨e,m⟩:=oI h.2;cases x with
  |str z=>
   have hz:z∈ns:=by simpa [gI] using h.1
   refine⟨by show _=V.str z::(eR xs).map V.str;rw[<-e],λy hy=>?_⟩;rcases aav.mp (show y∈z::eR xs from hy) with rfl|q
   ·exact hz
   ·exact m y q
  |_=>exact absurd h.1 (by simp[gI])
def fH(ns:List Str)(xs:List V):Option (List Str):=
 if 1<=xs.length/\xs.length<ns.length/\xs.all (gI ns)=true/\eR xs=aF (dist (eR xs)) then some (eR xs) else none
theorem yr{ns ms:List Str}(h:∀z,z∈ns ↔ z∈ms)(l:ns.length=ms.length)(xs:List V):fH ns xs=fH ms xs:=by
 have e:gI ns=gI ms:=by
  funext x
  cases x<;>simp[gI,h]
 unfold fH;rw[e,l]
def Thing(K:PySem.W.Frag)(H:Hp)(ns:List Str)(y:V)(c:Option (List Str)):Prop:=
 (c=none/\∃t,dz K H y t/\PySem.W.kitOne K t (.type "tuple")=some false)\/∃a xs,y=.ref a/\H a=some (.tup xs)/\(∀x∈xs,Item K H x)/\c=fH ns xs
theorem Item.same{K:PySem.W.Frag}{H H':Hp}{x:V}(h:Item K H x)(s:au H H'):Item K H' x:=h.imp id λ⟨t,ty,e⟩=>⟨t,dz.same s ty,e⟩
theorem Thing.same{K:PySem.W.Frag}{H H':Hp}{ns:List Str}{y:V}{c:Option (List Str)}(h:Thing K H ns y c)(s:au H H'):Thing K H' ns y c:=by
 rcases h with⟨e,t,ty,k⟩|⟨a,xs,e,h,it,k⟩
 ·exact .inl ⟨e,t,dz.same s ty,k⟩
 ·exact .inr ⟨a,xs,e,s _ _ h,λx hx=>(it x hx).same s,k⟩
theorem Thing.congr{K:PySem.W.Frag}{H:Hp}{ns ms:List Str}{y:V}{c:Option (List Str)}(h:Thing K H ns y c)(e:∀z,z∈ns ↔ z∈ms)(l:ns.length=ms.length):Thing K H ms y c:=by
 rcases h with q|⟨a,xs,e1,h,it,k⟩
 ·exact .inl q
 ·exact .inr ⟨a,xs,e1,h,it,by rw[k];exact yr e l xs⟩
structure JH(H:Hp)(ns:List Str)(y:V)(zs:List Str):Prop where
 tup:∃a,y=.ref a/\H a=some (.tup (zs.map V.str))
 one:1<=zs.length
 aJ:zs.length<ns.length
 sub:∀z∈zs,z∈ns
 rise:zs=aF (dist zs)
theorem Thing.part{K:PySem.W.Frag}{H:Hp}{ns:List Str}{y:V}{zs:List Str}(h:Thing K H ns y (some zs)):JH H ns y zs:=by
 rcases h with⟨e,_⟩|⟨a,xs,rfl,ha,it,k⟩
 ·cases e
 ·unfold fH at k;split at k
  ·rename_i q
   cases k;obtain⟨e,m⟩:=oI q.2.2.1;have l:xs.length=(eR xs).length:=by rw[e,aak,lH]
   refine⟨⟨a,rfl,by rw[<-e];exact ha⟩,by omega,by omega,m,q.2.2.2⟩
  ·cases k
def closed(ps:List (Str×Str))(zs:List Str):Bool:=!ps.any λp=>decide (p.1∈zs)&&!decide (p.2∈zs)
def L5(ps:List (Str×Str)):Option (List Str)->Bool
 |none=>false
 |some zs=>closed ps zs
def c6(ps:List (Str×Str))(zs:List Str)(n:Nat):List Nat:=(List.range n).filter λk=>match ps[k]? with|some p=>!decide (p.1∈zs)&&decide (p.2∈zs)|none=>false
section
variable {P:Program}{w:World}{K:PySem.W.Frag}{mg:Str->Option Value}{base:Heap}
def CY:Sp:=λvs H Q _=>∃(a:Addr) (ns:List Str) (y:V) (c:Option (List Str)),vs=[.ref a,y]/\H a=some (.lst (ns.map V.str))/\ns.length<=12/\Thing K H ns y c/\∀H',au H H'->Q (.bl c.isSome) H'
abbrev Rm:List Str:=["places","thing"]
theorem UP:aG Rm ["places","thing"] (ak qQ):=⟨rfl,rfl,rfl,by decide +kernel,rfl,by decide +kernel,by decide +kernel⟩
theorem Fs{zs ys:List Str}:kJ (zs.map V.str) (ys.map V.str)=decide (zs=ys):=mD zs ys
theorem JI{f fA:Addr}{fd cO:FuncData}(F:a7 K "is_part" "is_part" qQ f fd)(DA:Df K mg "is_among" jc ["places","thing"] fA cO)(T:bt mg):av P w K mg base aB 2 f fd ["places","thing"] (CY (K:=K)):=by
 have GA:av P w K mg base aB 1 fA cO ["places","thing"] (sg (K:=K)):=wg DA.fn T;refine F.ok UP (λvs H Q E h=>?_) (λcdv A outer s H vs Q E hr h=>?_)
 ·obtain⟨a,ns,y,c,rfl,_⟩:=h;rfl
 ·obtain⟨a,ns,y,c,rfl,ha,aJ,th,k⟩:=h;refine⟨_,ag (bu (PW.pt (fG (bO (bG (ay (bQ (T:="tuple")) (by rfl) T.dW abm (aa (pv 1) (aa (dg (v:=.ty "tuple") rfl T.tuple aa5 rfl) ae))) (λ_=>rfl)))
    (fh (bO (pC jB iw aE (ay aA (by rfl) T.len aax (aa (pv 1) ae)) (ay aA (by rfl) T.len aax (aa (pv 0) ae))))))) (ao (aI eZ)) aT)
   (ag (bu (bO (bG (ay (gg rfl) (by rfl) T.all acV (aa (cZ ["place"] [0] rfl (bq (osc:=(ak qQ).names) (N:=Rm) rfl rfl (by decide +kernel)) (bx (by decide)) (qr (pv 1)) (λ_ _ _=>aD (i:=0) (show(["place","places"]:List Str).Nodup by decide +kernel) rfl (Or.inl rfl)) (λ_ _ _=>bK)
     (λ_ _ _=>ar GA hr rfl DA.aK DA.fn.kp DA.b .nil ax (aa (pv 1) (aa (pv 0) ae)))) ae)) (λ_=>rfl))) (ao (aI eZ)) aT)
   (ao (aI (bL (mE (low 0 hr)) (bp cE (by rfl) T.list aa1 (aa (pv 1) ae)) (ay (nU (P:=P) (w:=w) rfl) (by rfl) T.sorted acT (aa (bp (ux (P:=P) (w:=w) (K:=K) rfl) (by rfl) T.set ac1 (aa (pv 1) ae)) ae)) (aV _))))),?_⟩
  try rw[bw]
  rcases th with⟨rfl,t,ty,e⟩|⟨u,xs,rfl,hu,it,rfl⟩
  ·refine⟨_,rfl,y,t,false,rfl,ty,e,_,rfl,?_⟩;exact bo (bo (k _ (au.refl _)))
  refine⟨_,rfl,_,_,true,rfl,.tup hu,rfl,_,rfl,?_⟩;refine aZ ⟨_,rfl,u,_,rfl,.inr (aL.of hu),_,_,rfl,rfl,_,rfl,?_⟩;by_cases h1:1<=xs.length
  case neg=>
   have e:fH ns xs=none:=by unfold fH;rw[if_neg λq=>h1 q.1]
   rw[e] at k;refine cR (λz=>absurd z (by simp;omega)) (λ_=>?_);exact⟨_,rfl,bo (k _ (au.refl _))⟩
  refine cR (λ_=>?_) (λz=>absurd z (by simp;omega));refine⟨_,rfl,a,_,rfl,.inl (aj.of ha),_,_,rfl,rfl,_,rfl,?_⟩;rw[aak];by_cases h2:xs.length<ns.length
  case neg=>
   have e:fH ns xs=none:=by unfold fH;rw[if_neg λq=>h2 q.2.1]
   rw[e] at k;refine cR (λ_=>k _ (au.refl _)) (λz=>absurd z (by simp;omega))
  refine cR (λz=>absurd z (by simp;omega)) (λ_=>?_);refine⟨_,rfl,u,rfl,⟨_,aL.of hu⟩,vV (K:=K) (xs:=xs) (λi ys H2=>au H H2/\ys=(xs.take i).map λx=>V.bl (gI ns x)) ⟨au.refl _,rfl⟩ ?_ ?_ ?_ ?_⟩
  ·rintro i ys H2 hi ⟨_,rfl⟩;rw[aak,aaR];exact aap (abF _ _) (aap (abe h2) (aap aJ (by decide)))
  ·rintro i ys H2 _ ⟨s2,_⟩;exact aL.of (s2 _ _ hu)
  ·rintro i x ys H2 R hx ⟨s2,rfl⟩ kR;simp only[dB,bh,aa4];have fin:(xs.take (i+1)).map (λx=>V.bl (gI ns x))=(xs.take i).map (λx=>V.bl (gI ns x))++[V.bl (gI ns x)]:=by rw[aaI,hx];simp
   refine⟨_,rfl,_,rfl,?_⟩;rcases it x (aat hx) with⟨z,rfl⟩|⟨t,ty,e,ne⟩
   ·refine .inl ⟨a,ns,z,rfl,aj.of (s2 _ _ ha),?_⟩;exact kR _ _ ⟨s2,fin.symm⟩
   ·refine .inr ⟨a,x,t,rfl,dz.same s2 ty,e,?_⟩;have e0:gI ns x=false:=by cases x<;>first|rfl|exact absurd rfl (ne _)
    rw[e0] at fin;exact kR _ _ ⟨s2,fin.symm⟩
  ·rintro ys H2 ⟨s2,rfl⟩ D hD;rw[aaF (aal _)];have e:xs.map (λx=>V.bl (gI ns x))=(xs.map (gI ns)).map V.bl:=by simp
   refine⟨D,xs.map (gI ns),rfl,(by rw[e];exact aj.of af),_,rfl,?_⟩;have e2:(xs.map (gI ns)).all id=xs.all (gI ns):=by simp[acj,aeV]
   rw[e2];have s3:au H (upd H2 D (.lst (xs.map λx=>V.bl (gI ns x)))):=s2.trans (ai hD);generalize upd H2 D (.lst (xs.map λx=>V.bl (gI ns x)))=H3 at s3⊢;by_cases h3:xs.all (gI ns)=true
   case neg=>
    have e:fH ns xs=none:=by unfold fH;rw[if_neg λq=>h3 q.2.2.1]
    rw[e] at k;rw[aeS.mpr h3];exact bo (k _ s3)
   rw[h3];refine aZ ?_;obtain⟨ex,_⟩:=oI h3;have uz:H3 u=some (.tup ((eR xs).map V.str)):=by rw[<-ex];exact s3 _ _ hu
   have l:xs.length=(eR xs).length:=by rw[ex,aak,lH]
   refine⟨_,rfl,u,_,rfl,.inr (aL.of uz),λl1 iG=>?_⟩;have s4:=ai (o:=.lst ((eR xs).map V.str)) iG;have mY:=af (H:=H3) (a:=l1) (o:=.lst ((eR xs).map V.str));generalize upd H3 l1 (.lst ((eR xs).map V.str))=H4 at s4 mY⊢;refine⟨_,rfl,u,eR xs,rfl,.inr (aL.of (s4 _ _ uz)),(by rw[<-l];exact abJ (Nat.succ_le_of_lt (aaT h2 aJ)) (by decide)),λl2 hl2=>?_⟩;have s5:=ai (o:=nR P w l2 (eR xs)) hl2;have L6:=af (H:=H4) (a:=l2) (o:=nR P w l2 (eR xs));refine⟨l2,eR xs,rfl,L6,(by omega),λl3 jy=>?_⟩;have s6:=ai (o:=.lst ((aF (dist (eR xs))).map V.str)) jy;refine⟨l1,l3,_,_,rfl,rfl,.inl ⟨aj.of (s6 _ _ (s5 _ _ mY)),aj.of af⟩,bf _,bf _,?_⟩;rw[Fs];have e:(fH ns xs).isSome=decide (eR xs=aF (dist (eR xs))):=by
    unfold fH;by_cases q:eR xs=aF (dist (eR xs))
    ·rw[if_pos ⟨h1,h2,h3,q⟩,decide_eq_true q];rfl
    ·rw[if_neg λz=>q z.2.2.2,aaz q];rfl
   rw[e] at k;exact k _ (s3.trans (s4.trans (s5.trans s6)))
end
structure GoodW(ns:List Str)(ps:List (Str×Str)):Prop where
 good:jC ns
 ins:jd ns ps
 aJ:ps.length<=30
structure Xo(mg:Str->Option Value):Prop where
 any:mg "any" = none
 enum:mg "enumerate" = none
structure Cd(K:PySem.W.Frag)(mg:Str->Option Value)(C fP fS fA eJ dQ:Addr)(fdP bJ cO cX cK:FuncData):Prop where
 m:Mt K mg C fP fS fdP bJ
 a:Df K mg "is_among" jc ["places","thing"] fA cO
 p:Df K mg "is_part" qQ ["places","thing"] eJ cX
 c:Df K mg "is_cut" nV ["web","thing"] dQ cK
 g:Xo mg
section
variable {P:Program}{w:World}{K:PySem.W.Frag}{mg:Str->Option Value}{base:Heap}
variable {C fP fS fA eJ dQ:Addr}{fdP bJ cO cX cK:FuncData}
def y'(C:Addr):Sp:=λvs H Q _=>∃(x:Addr) (ns:List Str) (ps:List (Str×Str)) (y:V) (c:Option (List Str)),vs=[.ref x,y]/\a8 C H x ns ps/\GoodW ns ps/\Thing K H ns y c/\∀H',au H H'->Q (.bl (L5 ps c)) H'
abbrev Rn:List Str:=["web","thing"]
theorem UQ:aG Rn ["web","thing"] (ak nV):=⟨rfl,rfl,rfl,by decide +kernel,rfl,by decide +kernel,by decide +kernel⟩
theorem Ft{f:Addr}{fd:FuncData}(F:a7 K "is_cut" "is_cut" nV f fd)(D:Cd K mg C fP fS fA eJ dQ fdP bJ cO cX cK)(T:bt mg):av P w K mg base aB 3 f fd ["web","thing"] (y' (K:=K) C):=by
 have GP:av P w K mg base aB 2 eJ cX ["places","thing"] (CY (K:=K)):=JI D.p.fn D.a T;have GL:av P w K mg base aB 1 fP fdP ["self"] (jq C):=c9 D.m.pF D.m.wc T;have GT:av P w K mg base aB 1 fS bJ ["self"] (AO C):=si D.m.sF D.m.wc T;refine F.ok UQ (λvs H Q E h=>?_) (λcdv A outer s H vs Q E hr h=>?_)
 ·obtain⟨x,ns,ps,y,c,rfl,_⟩:=h;rfl
 ·obtain⟨x,ns,ps,y,c,rfl,hW,g,th,k⟩:=h;have h1:=hr.mono (j:=1) (by decide);refine⟨_,ag (bu (bO (bG (ar GP hr rfl D.p.aK D.p.fn.kp D.p.b .nil ax (aa (cm (pv 0) D.m.wc.cl D.m.pM GL h1 D.m.pB .nil ax) (aa (pv 1) ae))) (λ_=>rfl))) (ao (aI eZ)) aT)
   (ao (aI (BU (ay (vU rfl) (by rfl) D.g.any boot_any (aa (cZ ["a","b"] [1] rfl (bq (osc:=(ak nV).names) (N:=Rn) rfl rfl (by decide +kernel)) (iB (K:=K) (k:=2) (by decide) (by decide)) (bg (cm (pv 0) D.m.wc.cl D.m.sM GT h1 D.m.sB .nil ax))
    (λ_ _ _=>cI rfl (aO (aD (i:=0) (show(["a","b","thing"]:List Str).Nodup by decide +kernel) rfl (Or.inl rfl)) (aO (aD (i:=1) (show(["a","b","thing"]:List Str).Nodup by decide +kernel) rfl (Or.inl rfl)) cg))) (λ_ _ _=>bK)
    (λ_ _ _=>eD (bL (r:=gb K false) cn (pv 0) (pv 2) rfl) (eC (bL (r:=gb K true) cD (pv 1) (pv 2) rfl)))) ae))))),?_⟩
  try rw[bw]
  obtain⟨d1,f1,q1,r1⟩:=hW.gA "places";refine⟨_,rfl,x,d1,f1,rfl,q1,r1,x,ns,ps,rfl,hW,λl hl=>?_⟩;have sl:=ai (o:=.lst ((aF ns).map V.str)) hl;have iG:=af (H:=H) (a:=l) (o:=.lst ((aF ns).map V.str));generalize upd H l (.lst ((aF ns).map V.str))=H1 at sl iG⊢;refine⟨_,rfl,l,aF ns,y,c,rfl,iG,by rw[cC];exact g.good.aJ,(th.same sl).congr (λz=>eI.symm) (cC ns).symm,λH2 s2=>⟨_,rfl,?_⟩⟩;have s02:=sl.trans s2;cases c with
  |none=>exact bo (k _ s02)
  |some zs=>
   refine aZ ?_;have pt:=(th.same s02).part;obtain⟨u,rfl,hu⟩:=pt.tup;have W2:=hW.same s02;obtain⟨d2,f2,q2,r2⟩:=W2.gA "ties";refine⟨_,rfl,x,d2,f2,rfl,q2,r2,x,ns,ps,rfl,W2,λl2 us hl2 hU=>⟨l2,rfl,⟨_,aj.of af⟩,?_⟩⟩;have s3:=ai (o:=.lst (us.map V.ref)) hl2;have jy:=af (H:=H2) (a:=l2) (o:=.lst (us.map V.ref));generalize upd H2 l2 (.lst (us.map V.ref))=H3 at s3 jy⊢;have hU3:=hU.same s3;have uz:=s3 _ _ hu;have le:(us.map V.ref).length=ps.length:=by rw[aak,hU.len]
   refine cA (K:=K) (xs:=us.map V.ref) (λi ys H4=>au H3 H4/\ys=(ps.take i).map λp=>V.bl (decide (p.1∈zs)&&!decide (p.2∈zs))) ⟨au.refl _,rfl⟩ ?_ ?_ ?_ ?_
   ·rintro i ys H4 hi ⟨_,rfl⟩;rw[aak,aaR];exact aap (abF _ _) (aap g.aJ (by decide))
   ·rintro i ys H4 _ ⟨s4,_⟩;exact aj.of (s4 _ _ jy)
   ·rintro i v ys H4 R hv ⟨s4,rfl⟩ kR;rw[aaq] at hv;obtain⟨t,et,rfl⟩:=aar.mp hv;obtain⟨p,ep,ht⟩:=hU3.get et;have fin:(ps.take (i+1)).map (λp=>V.bl (decide (p.1∈zs)&&!decide (p.2∈zs)))=(ps.take i).map (λp=>V.bl (decide (p.1∈zs)&&!decide (p.2∈zs)))++[V.bl (decide (p.1∈zs)&&!decide (p.2∈zs))]:=by rw[aaI,ep];simp
    refine⟨t,_,rfl,aL.of (s4 _ _ ht),rfl,_,_,rfl,_,_,rfl,rfl,?_⟩;simp only[dB,aa4];refine⟨_,rfl,_,rfl,u,_,rfl,.inr (aL.of (s4 _ _ uz)),rfl,bf zs,_,rfl,?_⟩;simp only[aaB,aa3];rw[bU];by_cases hp:p.1∈zs
    ·rw[decide_eq_true hp] at fin⊢;refine bo ⟨_,rfl,_,rfl,u,_,rfl,.inr (aL.of (s4 _ _ uz)),rfl,bf zs,?_⟩;simp only[aa4];rw[bU];exact kR _ _ ⟨s4,by rw[fin,ab']⟩
    ·rw[aaz hp] at fin⊢;exact aZ (kR _ _ ⟨s4,by rw[fin,acM]⟩)
   ·rintro ys H4 ⟨s4,rfl⟩ D4 nG;rw[le,aaF (aal _)];have e:ps.map (λp=>V.bl (decide (p.1∈zs)&&!decide (p.2∈zs)))=(ps.map λp=>decide (p.1∈zs)&&!decide (p.2∈zs)).map V.bl:=by simp
    refine⟨D4,ps.map λp=>decide (p.1∈zs)&&!decide (p.2∈zs),rfl,(by rw[e];exact aj.of af),_,rfl,?_⟩;have e2:(!(ps.map λp=>decide (p.1∈zs)&&!decide (p.2∈zs)).any id)=closed ps zs:=by simp[closed,ac7,aeV]
    have:=k _ (s02.trans (s3.trans (s4.trans (ai (o:=.lst (ps.map λp=>V.bl (decide (p.1∈zs)&&!decide (p.2∈zs)))) nG))))
    rw[e2];exact this
theorem UR:aG ["web","cut"] ["web","cut"] (ak oH):=⟨rfl,rfl,rfl,by decide +kernel,rfl,by decide +kernel,by decide +kernel⟩
theorem US:aG ["web","cut"] ["web","cut"] (ak jE):=⟨rfl,rfl,rfl,by decide +kernel,rfl,by decide +kernel,by decide +kernel⟩
theorem A0{ps:List (Str×Str)}{zs:List Str}{i:Nat}{p:Str×Str}(h:ps[i]?=some p):c6 ps zs (i+1)=c6 ps zs i++(if (!decide (p.1∈zs)&&decide (p.2∈zs))=true then [i] else []):=by unfold c6;rw[adS,abt];congr 1;simp only[abv,adT,h]
theorem CZ(ps:List (Str×Str))(zs:List Str)(n:Nat):(c6 ps zs n).length<=n:=by unfold c6;exact aap (aa' _ _) (by simp)
end
abbrev jT:Stmt:=top 23 -- dY
abbrev jF:Stmt:=top 25 -- spread
section
variable {P:Program}{w:World}{K:PySem.W.Frag}{mg:Str->Option Value}{base:Heap}
structure iH(H:Hp)(d:Addr)(ns:List Str)(ps:List (Str×Str))(ls:List Addr):Prop where
 len:ls.length=ns.length
 nd:ls.Nodup
 hd:H d=some (.dK (tab ns ls))
 at_:∀(i:Nat) z l,ns[i]?=some z->ls[i]?=some l->H l=some (.lst ((outs ps z).map V.str))
theorem iH.same{H H':Hp}{d:Addr}{ns:List Str}{ps:List (Str×Str)}{ls:List Addr}(h:iH H d ns ps ls)(s:au H H'):iH H' d ns ps ls:=⟨h.len,h.nd,s _ _ h.hd,λi z l e1 e2=>s _ _ (h.at_ i z l e1 e2)⟩
theorem iH.get{H:Hp}{d:Addr}{ns:List Str}{ps:List (Str×Str)}{ls:List Addr}(h:iH H d ns ps ls)(nd:ns.Nodup){z:Str}(hz:z∈ns):∃(i:Nat) (l:Addr),ns[i]?=some z/\ls[i]?=some l/\fc (tab ns ls) (Sum.inr z:Key)=some (.ref l)/\H l=some (.lst ((outs ps z).map V.str)):=by
 obtain⟨i,hi,e⟩:=aa7 hz;have e1:ns[i]?=some z:=by rw[aam hi,e]
 have hl:i<ls.length:=by rw[h.len];exact hi
 have e2:ls[i]?=some ls[i]:=aam hl;exact⟨i,ls[i],e1,e2,wd nd e1 e2,h.at_ i z _ e1 e2⟩
def za:Sp:=λvs H Q _=>∃(p t:Addr) (ns:List Str) (ts:List Addr) (ps:List (Str×Str)),vs=[.ref p,.ref t]/\H p=some (.lst (ns.map V.str))/\H t=some (.lst (ts.map V.ref))/\aS H ts ps/\ns.Nodup/\ns.length<=12/\jd ns ps/\ps.length<=1000 /\
 ∀(d:Addr) (ls:List Addr) (H':Hp),iH H' d ns ps ls->au H H'->Q (.ref d) H'
abbrev Ro:List Str:=["places","ties","steps","a","b"]
theorem A1:aG Ro ["places","ties"] (ak jT):=⟨rfl,rfl,rfl,by decide +kernel,rfl,by decide +kernel,by decide +kernel⟩
theorem Fu{f:Addr}{fd:FuncData}(F:a7 K "leads" "leads" jT f fd)(T:bt mg):av P w K mg base aB 1 f fd ["places","ties"] za:=by
 refine F.ok A1 (λvs H Q E h=>?_) (λcdv A outer s H vs Q E hr h=>?_)
 ·obtain⟨p,t,ns,ts,ps,rfl,_⟩:=h;rfl
 ·obtain⟨p,t,ns,ts,ps,rfl,hp,ht,hT,nd,aJ,hI,many,k⟩:=h;have hu:=AE hr;refine⟨_,ag (Jt (i:=2) ["place"] [] A1.nd rfl rfl rfl (bq (osc:=(ak jT).names) (N:=Ro) rfl rfl (by decide +kernel)) (bx (by decide)) (bg (pv 0))
     (λ_ _ _=>aD (i:=0) (show(["place"]:List Str).Nodup by decide +kernel) rfl (Or.inl rfl)) (λ_ _ _=>bK) (λ_ _ _=>pv 0) (λ_ _ _=>bR ae))
   (ag (cJ aaW rfl (bg (pv 1)) (cI rfl (aO (aD (i:=3) A1.nd rfl (Or.inl rfl)) (aO (aD (i:=4) A1.nd rfl (Or.inl rfl)) cg)))
    (ao (aW (cT aaJ aaO aaP bH (rP hu (pv 2) (pv 3) (λ_ _=>rfl)) (aa (pv 4) ae)))))
   (ao (aI (pv 2)))),?_⟩
  try rw[bw]
  refine⟨_,rfl,p,rfl,⟨_,aj.of hp⟩,Ju (K:=K) (xs:=ns.map V.str) (λi kvs H2=>au H H2/\∃ls:List Addr,ls.length=i/\ls.Nodup/\kvs=tab (ns.take i) ls/\∀l∈ls,H l=none/\H2 l=some (.lst [])) ⟨au.refl _,[],rfl,aci,rfl,λ_ z=>nomatch z⟩ ?_ ?_ ?_ ?_⟩
  ·rintro i kvs H2 hi ⟨_,ls,e1,_,rfl,_⟩;rw[aak] at hi;have lt:(ns.take i).length=i:=by rw[aaR];omega
   rw[rX (by rw[e1,lt]),lt];exact abe (c8 (by omega))
  ·rintro i kvs H2 _ ⟨s2,_⟩;exact aj.of (s2 _ _ hp)
  ·rintro i x kvs H2 R hx ⟨s2,ls,e1,nl,rfl,all⟩ kR;rw[aaq] at hx;obtain⟨z,ez,rfl⟩:=aar.mp hx;have hi:i<ns.length:=(aaH.mp ez).1;have lt:(ns.take i).length=i:=by rw[aaR];omega
   simp only[dB,bh,aa4];refine⟨_,rfl,(by decide),λl hl=>⟨Sum.inr z,rfl,kR _ _ ?_⟩⟩;have nz:z∉ns.take i:=λm=>by
    obtain⟨j,hj,e⟩:=aa7 m;have oY:j<i:=by rw[lt] at hj;exact hj
    have q:ns[j]?=some z:=by rw[<-e,aeW,aam]
    have:=qK nd q ez
    omega
   have L7:l∉ls:=λm=>by rw[(all l m).2] at hl;cases hl
   refine⟨s2.trans (ai hl),ls++[l],by simp[e1],lB nl L7,?_,λy hy=>?_⟩
   ·rw[aaI,ez,pL _ (pR nz)];exact(pQ z l (by rw[e1,lt])).symm
   ·rcases aaD.mp hy with q|q
    ·exact⟨(all y q).1,by rw[aq (aw (all y q).2 hl)];exact(all y q).2⟩
    ·rw[aaA.mp q];exact⟨s2.free hl,af⟩
  ·rintro kvs H2 ⟨s2,ls,e1,nl,rfl,all⟩ d hd;rw[aak] at e1⊢;rw[aaF (aal _)];have hS:iH (upd H2 d (.dK (tab ns ls))) d ns [] ls:=⟨e1,nl,af,λi z l _ el=>by
    have:=(all l (aat el)).2
    rw[aq (aw this hd)];exact this⟩
   have s3:au H (upd H2 d (.dK (tab ns ls))):=s2.trans (ai hd);generalize upd H2 d (.dK (tab ns ls))=H3 at hS s3⊢;refine⟨_,rfl,t,rfl,⟨_,aj.of (s3 _ _ ht)⟩,fb (K:=K) (xs:=ts.map V.ref) (λi σ H4=>∃v3 v4,σ=[some (V.ref p),some (V.ref t),some (V.ref d),v3,v4]/\au H H4/\iH H4 d ns (ps.take i) ls) ⟨_,_,rfl,s3,by rw[afq];exact hS⟩ ?_ ?_ ?_⟩
   ·rintro i σ H4 _ ⟨v3,v4,rfl,s4,_⟩;exact aj.of (s4 _ _ ht)
   ·rintro i y σ H4 hy ⟨v3,v4,rfl,s4,S4⟩;rw[aaq] at hy;obtain⟨u,eu,rfl⟩:=aar.mp hy;obtain⟨pr,ep,Xp⟩:=hT.get eu;obtain⟨i1,i2⟩:=hI pr (aat ep);refine⟨u,_,rfl,aL.of (s4 _ _ Xp),rfl,_,_,rfl,_,_,rfl,rfl,?_⟩;obtain⟨j,l,j1,j2,j3,j4⟩:=S4.get nd i1;refine⟨_,rfl,_,rfl,d,_,rfl,(show iz H4 d (.str pr.1) (some (.ref l)) from j3▸iz.k (k:=Sum.inr pr.1) S4.hd),.inl ⟨rfl,_,aj.of j4⟩,_,rfl,l,_,_,rfl,rfl,j4,?_,?_⟩
    ·rw[aak];refine c8 (aap (Fd _ _) (aap ?_ many));rw[aaR];exact abF _ _
    ·have jf:H l=none:=(all l (aat j2)).1;refine⟨_,_,rfl,au.ba s4 jf,S4.len,S4.nd,?_,λi' z' l' qR nF=>?_⟩
     ·rw[aq (cF S4.hd j4 (by intro z;cases z))];exact S4.hd
     ·rw[aaI,ep];show _=some (HO.lst ((outs (ps.take i++[pr]) z').map V.str))
      rw[CK];by_cases e:i'=j
      ·subst e;rw[j1] at qR;rw[j2] at nF;cases qR;cases nF;rw[af,if_pos rfl];simp
      ·have L7:l'≠l:=λq=>e (qK nl (q▸nF) j2);have Xq:¬ pr.1=z':=λq=>e (qK nd (q▸qR) j1);rw[aq L7,if_neg Xq];exact S4.at_ i' z' l' qR nF
   ·rintro σ H4 ⟨v3,v4,rfl,s4,S4⟩;rw[aak,hT.len,aaF (aal _)] at S4;exact⟨_,rfl,k d ls H4 S4 s4⟩
end
structure Fl(ns:List Str)(ps:List (Str×Str))(a:Str)(zs hs:List Str):Prop where
 nd:zs.Nodup
 sub:∀z∈zs,z∈ns
 nH:∀z∈zs,dc ps a z
 sC:∀z∈hs,z∈zs
 Hx:hs.Nodup
theorem Fl.more{ns:List Str}{ps:List (Str×Str)}{a b c:Str}{zs hs:List Str}(F:Fl ns ps a zs hs)(hi:jd ns ps)(hb:b∈zs)(t:(b,c)∈ps)(n:c∉zs):Fl ns ps a (zs++[c]) (hs++[c]) where
 nd:=lB F.nd n
 sub:=λz hz=>(aaD.mp hz).elim (F.sub z) λe=>by rw[aaA.mp e];exact(hi _ t).2
 nH:=λz hz=>(aaD.mp hz).elim (F.nH z) λe=>by rw[aaA.mp e];exact(F.nH b hb).on t
 sC:=λz hz=>(aaD.mp hz).elim (λh=>aaL _ (F.sC z h)) λe=>aan _ e
 Hx:=lB F.Hx λm=>n (F.sC c m)
def kz(zs:List Str):List (Key×V):=zs.map λz=>(Sum.inr z,V.bl true)
theorem C0(zs:List Str)(z:Str):fc (kz zs) (Sum.inr z:Key)=if z∈zs then some (.bl true) else none:=by
 induction zs with
 |nil=>rfl
 |cons y r ih=>
  by_cases e:y=z
  ·subst e;rw[if_pos aau];exact jN rfl
  ·show fc ((Sum.inr y,V.bl true)::kz r) _=_
   rw[iQ (λq=>e (adY q)),ih]
   have:z∈y::r ↔ z∈r:=by rw[aav];exact⟨λh=>h.resolve_left λq=>e q.symm,Or.inr⟩
   by_cases h:z∈r
   ·rw[if_pos h,if_pos (this.mpr h)]
   ·rw[if_neg h,if_neg λq=>h (this.mp q)]
theorem L8{zs:List Str}{z:Str}(h:z∉zs):putK (kz zs) (Sum.inr z:Key) (.bl true)=kz (zs++[z]):=by rw[pL _ (by rw[C0,if_neg h])];simp[kz]
theorem L9(zs:List Str):E4 (kz zs) zs:=by simp[E4,kz]
section
variable {P:Program}{w:World}{K:PySem.W.Frag}{mg:Str->Option Value}{base:Heap}
def wB:Sp:=λvs H Q _=>∃(d:Addr) (a:Str) (ns:List Str) (ps:List (Str×Str)) (ls:List Addr),vs=[.ref d,.str a]/\iH H d ns ps ls/\ns.Nodup/\ns.length<=12/\jd ns ps/\ps.length<=1000/\a∈ns /\
 ∀(l:Addr) (H':Hp),H l=none->H' l=some (.lst ((nH ns ps a).map V.str))->au H H'->Q (.ref l) H'
abbrev Xr:List Str:=["steps","start","seen","ahead","place","after"]
theorem wC:aG Xr ["steps","start"] (ak jF):=⟨rfl,rfl,rfl,by decide +kernel,rfl,by decide +kernel,by decide +kernel⟩
def Rp(d se ah:Addr)(a:Str)(ns:List Str)(ps:List (Str×Str))(H:Hp)(m:Nat)(σ:L2.St)(H2:Hp):Prop:=
 ∃(v4 v5:Option V) (zs hs:List Str),σ=[some (.ref d),some (.str a),some (.ref se),some (.ref ah),v4,v5]/\au H H2/\H2 se=some (.dK (kz zs))/\H2 ah=some (.lst (hs.map V.str))/\Fl ns ps a zs hs/\a∈zs /\
  (∀z∈zs,z∉hs->∀b∈outs ps z,b∈zs)/\m=2*(ns.length-zs.length)+hs.length
theorem C1{f:Addr}{fd:FuncData}(F:a7 K "spread" "spread" jF f fd)(T:bt mg):av P w K mg base aB 1 f fd ["steps","start"] wB:=by
 refine F.ok wC (λvs H Q E h=>?_) (λcdv A outer s H vs Q E hr h=>?_)
 ·obtain⟨d,a,ns,ps,ls,rfl,_⟩:=h;rfl
 ·obtain⟨d,a,ns,ps,ls,rfl,hS,nd,aJ,hI,many,ha,k⟩:=h;have hu:=AE hr;refine⟨_,ag (aN (i:=2) wC.nd rfl (Or.inl rfl) (Jo (EX (pv 1) eZ Jn) rfl rfl (by intro z;cases z) (by decide)))
   (ag (aN (i:=3) wC.nd rfl (Or.inl rfl) (bR (aa (pv 1) ae)))
   (ag (lZ aaW (pE (pv 3) (λ_=>rfl))
    (ag (aN (i:=4) wC.nd rfl (Or.inl rfl) (Ln aaJ aec aed Lp (pv 3)))
    (ao (cJ aaW rfl (bg (rP hu (pv 0) (pv 4) (λ_ _=>rfl))) (aD (i:=5) wC.nd rfl (Or.inl rfl))
     (ao (bu (K3 (Cm hu (pv 5) (pv 2)))
      (ag (Jm hu (pv 2) (pv 5) eZ rfl)
      (ao (aW (cT aaJ aaO aaP bH (pv 3) (aa (pv 5) ae))))) aT))))))
   (ao (aI (ay (rV rfl) (by rfl) T.sorted acT (aa (pv 2) ae)))))),?_⟩
  try rw[bw]
  intro se Rq;refine⟨_,rfl,af,[(Sum.inr a,V.bl true)],rfl,(by show 1<=15;decide),?_⟩;rw[I8,show lA [] [((Sum.inr a:Key),V.bl true)]=kz [a] from rfl];have s1:=ai (o:=.dK (kz [a])) Rq;have Fv:=af (H:=H) (a:=se) (o:=.dK (kz [a]));generalize upd H se (.dK (kz [a]))=H1 at s1 Fv⊢;refine⟨_,rfl,(by show 1<=sizeLine;decide),λah Ma=>?_⟩;have Mb:H ah=none:=s1.free Ma;have Hy:se≠ah:=aw Fv Ma;refine⟨Rp d se ah a ns ps H,⟨_,_,_,[a],[a],rfl,s1.trans (ai Ma),by rw[aq Hy];exact Fv,af,?_,aaA.mpr rfl,λz hz n=>absurd hz n,rfl⟩,?_⟩
  ·exact⟨by simp,λz hz=>by rw[aaA.mp hz];exact ha,λz hz=>by rw[aaA.mp hz];exact .here _,λz hz=>hz,by simp⟩
  rintro m σ H2 ⟨v4,v5,zs,hs,rfl,s2,Fw,A2,FL,az,cl,rfl⟩;refine⟨_,rfl,_,.inl ⟨_,aj.of A2,rfl⟩,?_⟩;have S2:=hS.same s2;have Xs:zs.length<=ns.length:=gF FL.nd FL.sub;have Xt:True:=trivial;refine cR (λyO=>?_) (λXu=>?_)
  ·-- a turn
   have Fh:hs≠[]:=λe=>by rw[e] at yO;simp at yO
   obtain⟨hs0,pl,rfl⟩:∃hs0 pl,hs=hs0++[pl]:=⟨hs.dropLast,hs.getLast Fh,(List.dropLast_concat_getLast Fh).symm⟩
   refine⟨λσ' H'=>∃m',m'<2*(ns.length-zs.length)+(hs0++[pl]).length/\Rp d se ah a ns ps H m' σ' H',λσ' H' h=>h,?_⟩;refine⟨_,rfl,.inl ⟨rfl,_,aj.of A2⟩,ah,_,.str pl,rfl,rfl,A2,(by simp),?_⟩;have eh:((hs0++[pl]).map V.str).dropLast=hs0.map V.str:=by simp
   rw[eh];have Rt:se≠ah:=cF Fw A2 (by intro z;cases z);have s3:au H (upd H2 ah (.lst (hs0.map V.str))):=au.ba s2 Mb;have Mc:(upd H2 ah (.lst (hs0.map V.str))) se=some (.dK (kz zs)):=by rw[aq Rt];exact Fw
   have Me:=af (H:=H2) (a:=ah) (o:=.lst (hs0.map V.str));generalize upd H2 ah (.lst (hs0.map V.str))=H3 at s3 Mc Me⊢;have Hz:pl∈zs:=FL.sC pl (by simp);have S3:=hS.same s3;obtain⟨j,l,j1,j2,j3,j4⟩:=S3.get nd (FL.sub pl Hz);refine⟨_,rfl,_,rfl,d,_,rfl,(show iz H3 d (.str pl) (some (.ref l)) from j3▸iz.k (k:=Sum.inr pl) S3.hd),l,rfl,⟨_,aj.of j4⟩,?_⟩;have jf:=hS.at_ j pl l j1 j2;refine fb (K:=K) (xs:=(outs ps pl).map V.str) (λi σ H4=>∃(v5:Option V) (zs4 hs4:List Str),σ=[some (.ref d),some (.str a),some (.ref se),some (.ref ah),some (.str pl),v5]/\au H H4/\H4 se=some (.dK (kz zs4))/\H4 ah=some (.lst (hs4.map V.str))/\Fl ns ps a zs4 hs4/\(∀z∈zs,z∈zs4) /\
     (∀z∈zs4,z∉hs4->z≠pl->∀b∈outs ps z,b∈zs4)/\(∀b∈(outs ps pl).take i,b∈zs4)/\2*(ns.length-zs4.length)+hs4.length<2*(ns.length-zs.length)+(hs0++[pl]).length/\zs4.length<=ns.length)
    ⟨_,zs,hs0,rfl,s3,Mc,Me,⟨FL.nd,FL.sub,FL.nH,λz hz=>FL.sC z (aaL _ hz),(acd.mp FL.Hx).1⟩,λz hz=>hz,?_,λb hb=>by simp at hb,by simp,Xs⟩ ?_ ?_ ?_
   ·intro z hz n1 n2;exact cl z hz λq=>(aaD.mp q).elim n1 λe=>n2 (aaA.mp e)
   ·rintro i σ H4 _ ⟨v5,zs4,hs4,rfl,s4,_⟩;exact aj.of (s4 _ _ jf)
   ·rintro i y σ H4 hy ⟨v5,zs4,hs4,rfl,s4,wD,A3,F4,sub4,cl4,seen4,m4,Ru⟩;rw[aaq] at hy;obtain⟨b,eb,rfl⟩:=aar.mp hy;have hb:b∈outs ps pl:=aat eb;have tb:(pl,b)∈ps:=wk.mp hb;have Rv:(outs ps pl).take (i+1)=(outs ps pl).take i++[b]:=by rw[aaI,eb];rfl
    refine⟨_,rfl,_,rfl,se,_,rfl,iz.k (k:=Sum.inr b) wD,_,rfl,?_⟩;rw[C0];by_cases jz:b∈zs4
    ·rw[if_pos jz];refine aZ ⟨_,zs4,hs4,rfl,s4,wD,A3,F4,sub4,cl4,λy hy=>?_,m4,Ru⟩;rw[Rv] at hy;exact(aaD.mp hy).elim (seen4 y) λe=>by rw[aaA.mp e];exact jz
    ·rw[if_neg jz];have Rw:(zs4++[b]).length<=ns.length:=gF (F4.more hI (sub4 pl Hz) tb jz).nd (F4.more hI (sub4 pl Hz) tb jz).sub;refine bo ⟨_,rfl,_,rfl,se,_,rfl,vN.k (k:=Sum.inr b) wD (by simp only[kz,aak];exact c8 (by omega)),?_⟩;rw[L8 jz];have Mf:se≠ah:=Rt;have Mg:(upd H4 se (.dK (kz (zs4++[b])))) ah=some (.lst (hs4.map V.str)):=by rw[aq (aaX Mf)];exact A3
     have mY:hs4.length<=1000:=by
      have:=gF F4.Hx F4.sC
      omega
     refine⟨_,rfl,.inl ⟨rfl,_,aj.of Mg⟩,_,rfl,ah,_,_,rfl,rfl,Mg,(by rw[aak];exact c8 mY),?_⟩;refine⟨_,zs4++[b],hs4++[b],rfl,au.ba (au.ba s4 Rq) Mb,by rw[aq Mf,af],by rw[af];simp,F4.more hI (sub4 pl Hz) tb jz,λz hz=>aaL _ (sub4 z hz),λz hz n1 n2 c hc=>?_,λy hy=>?_,?_,Rw⟩
     ·rcases aaD.mp hz with q|q
      ·exact aaL _ (cl4 z q (λe=>n1 (aaL _ e)) n2 c hc)
      ·exact absurd (aan _ q) n1
     ·rw[Rv] at hy;exact(aaD.mp hy).elim (λq=>aaL _ (seen4 y q)) λe=>aan _ e
     ·simp only[aaM,abT] at m4 Rw⊢;omega
   ·rintro σ H4 ⟨v5,zs4,hs4,rfl,s4,wD,A3,F4,sub4,cl4,seen4,m4,Ru⟩;rw[aak,aaF (aal _)] at seen4;refine⟨_,m4,_,_,zs4,hs4,rfl,s4,wD,A3,F4,sub4 a az,λz hz n b hb=>?_,rfl⟩;by_cases e:z=pl
    ·subst e;exact seen4 b hb
    ·exact cl4 z hz n e b hb
  ·-- WK end
   have he:hs=[]:=by
    cases hs with
    |nil=>rfl
    |cons x r=>simp at Xu
   subst he;have all:∀z,z∈zs ↔ dc ps a z:=λz=>⟨FL.nH z,λr=>r.stays (S:=(·∈zs)) az λp hp h1=>cl p.1 h1 (by simp) p.2 (wk.mpr hp)⟩
   refine⟨_,rfl,se,_,zs,rfl,Fw,L9 zs,by omega,λl hl=>?_⟩;rw[CJ nd FL.nd hI ha all];exact k l _ (s2.free hl) af (s2.trans (ai hl))
end
abbrev iU:Stmt:=top 24 -- Mh
def turn(ps:List (Str×Str)):List (Str×Str):=ps.map λp=>(p.2,p.1)
theorem fg{ps:List (Str×Str)}{a b:Str}:(a,b)∈turn ps ↔ (b,a)∈ps:=by
 unfold turn;rw[aaN];constructor
 ·rintro⟨p,hp,e⟩;cases e;exact hp
 ·intro h;exact⟨_,h,rfl⟩
theorem dc.turned{ps:List (Str×Str)}{a b:Str}(h:dc ps a b):dc (turn ps) b a:=by
 induction h with
 |here=>exact .here _
 |on h t ih=>exact(dc.one (fg.mpr t)).trans ih
theorem zb{ns:List Str}{ps:List (Str×Str)}(h:jd ns ps):jd ns (turn ps):=λp hp=>by obtain⟨q,hq,rfl⟩:=aaN.mp hp;exact⟨(h q hq).2,(h q hq).1⟩
theorem pV(ps:List (Str×Str)):(turn ps).length=ps.length:=aak ..
theorem GoodW.turned{ns:List Str}{ps:List (Str×Str)}(g:GoodW ns ps):GoodW ns (turn ps):=⟨g.good,zb g.ins,by rw[pV];exact g.aJ⟩
section
variable {P:Program}{w:World}{K:PySem.W.Frag}{mg:Str->Option Value}{base:Heap}
def wF:Sp:=λvs H Q _=>∃(b:Addr) (ts:List Addr) (ps:List (Str×Str)),vs=[.ref b]/\H b=some (.lst (ts.map V.ref))/\aS H ts ps/\ps.length<=1000 /\
 ∀(l:Addr) (us:List Addr) (H':Hp),H l=none->H' l=some (.lst (us.map V.ref))->aS H' us (turn ps)->au H H'->Q (.ref l) H'
theorem UT:aG ["ties"] ["ties"] (ak iU):=⟨rfl,rfl,rfl,by decide +kernel,rfl,by decide +kernel,by decide +kernel⟩
theorem zc{b:Addr}{ts:List Addr}{ps:List (Str×Str)}{H:Hp}{Q:VK}{σ:L2.St}{fr:List Nat}{o1 o2:Str}(hb:H b=some (.lst (ts.map V.ref)))(hT:aS H ts ps)(aJ:ps.length<=1000)
  (k:∀(l:Addr) (us:List Addr) (H':Hp),H l=none->H' l=some (.lst (us.map V.ref))->aS H' us (turn ps)->au H H'->Q (.ref l) H') :
  gT [o1,o2] fr (m9 K 2 (g4 (bh 0) (g4 (bh 1) m8))) dB (vG (cw (cf 1) (cw (cf 0) d7))) σ Q (oO K b) H:=by
 have le:(ts.map V.ref).length=ps.length:=by rw[aak,hT.len]
 refine cA (K:=K) (xs:=ts.map V.ref) (λi ys H5=>au H H5/\∃us:List Addr,ys=us.map V.ref/\us.length=i/\aS H5 us (turn (ps.take i))) ⟨au.refl _,[],rfl,rfl,.nil⟩ ?_ ?_ ?_ ?_
 ·rintro i ys H5 hi ⟨_,us,rfl,e,_⟩;rw[aak,e];rw[le] at hi;exact aap hi (aap aJ (by decide))
 ·rintro i ys H5 _ ⟨s5,_⟩;exact aj.of (s5 _ _ hb)
 ·rintro i y ys H5 R hy ⟨s5,us,rfl,e,hU⟩ kR;rw[aaq] at hy;obtain⟨t,et,rfl⟩:=aar.mp hy;obtain⟨p,ep,ht⟩:=hT.get et;refine⟨t,_,rfl,aL.of (s5 _ _ ht),rfl,_,_,rfl,_,_,rfl,rfl,?_⟩;simp only[dB,aa4];refine⟨_,rfl,_,rfl,(by show 2<=sizeLine;decide),λu hu=>?_⟩;have e2:us.map V.ref++[V.ref u]=(us++[u]).map V.ref:=by simp
  refine kR _ _ ⟨s5.trans (ai hu),us++[u],e2,by simp[e],?_⟩;rw[aaI,ep];unfold turn;rw[aaY];exact aS.snoc (hU.same (ai hu)) af
 ·rintro ys H5 ⟨s5,us,rfl,e,hU⟩ D hD;rw[le,acW] at hU;exact k D us _ (s5.free hD) af (hU.same (ai hD)) (s5.trans (ai hD))
theorem C2{f:Addr}{fd:FuncData}(F:a7 K "turned_pairs" "turned_pairs" iU f fd)(T:bt mg):av P w K mg base aB 1 f fd ["ties"] wF:=by
 refine F.ok UT (λvs H Q E h=>?_) (λcdv A outer s H vs Q E hr h=>?_)
 ·obtain⟨b,ts,ps,rfl,_⟩:=h;rfl
 ·obtain⟨b,ts,ps,rfl,hb,hT,aJ,k⟩:=h;refine⟨_,ao (aI (cZ ["a","b"] [] rfl (bq (osc:=(ak iU).names) (N:=["ties"]) rfl rfl (by decide +kernel)) (iB (k:=2) (by decide) (by decide)) (bg (pv 0))
    (λ_ _ _=>cI (n:=2) rfl (aO (aD (i:=0) (show(["a","b"]:List Str).Nodup by decide +kernel) rfl (Or.inl rfl)) (aO (aD (i:=1) (show(["a","b"]:List Str).Nodup by decide +kernel) rfl (Or.inl rfl)) cg))) (λ_ _ _=>bK)
    (λ_ _ _=>c7 (aa (pv 1) (aa (pv 0) ae))))),?_⟩
  try rw[bw]
  exact⟨_,rfl,b,rfl,⟨_,aj.of hb⟩,zc hb hT aJ k⟩
end
abbrev qS:Stmt:=top 73 -- UU
theorem kl{ys:List V}{ns:List Str}(h:ys.Perm (ns.map V.str)):∃ms:List Str,ms.Perm ns/\ys=ms.map V.str:=by
 have ha:ys.all (gI ns)=true:=abE.mpr λy hy=>by
  obtain⟨z,hz,rfl⟩:=aaN.mp (h.mem_iff.mp hy);show decide (z∈ns)=true
  exact decide_eq_true hz
 refine⟨eR ys,?_,(oI ha).1⟩
 have:=h.filterMap toS
 rw[show(ns.map V.str).filterMap toS=ns from lH ns] at this;exact this
theorem jC.perm{ns ms:List Str}(g:jC ns)(h:ms.Perm ns):jC ms:=⟨by rw[h.length_eq];exact g.one,by rw[h.length_eq];exact g.aJ,λz hz=>g.Hj z (h.mem_iff.mp hz),h.nodup_iff.mpr g.nd⟩
section
variable {P:Program}{w:World}{K:PySem.W.Frag}{mg:Str->Option Value}{base:Heap}
def C3:Sp:=λvs H Q _=>∃(p a:Addr) (ns:List Str),vs=[.ref p,.ref a,.int 30]/\Row H p/\H a=some (.lst (ns.map V.str))/\jC ns /\
 ∀(b:Addr) (ps:List (Str×Str)) (ts:List Addr) (H':Hp),H b=none->H' b=some (.lst (ts.map V.ref))->aS H' ts ps->GoodW ns ps->Row H' p->cb p H H'->Q (.ref b) H'
abbrev Xv:List Str:=["_law_pot_here","_law_names_here","_law_most","_law_turned","_law_ties","_law_k","_law_a","_law_b"]
theorem pW:aG Xv ["_law_pot_here","_law_names_here","_law_most"] (ak qS):=⟨rfl,rfl,rfl,by decide +kernel,rfl,by decide +kernel,by decide +kernel⟩
structure WI(p a q b:Addr)(ns ms:List Str)(H:Hp)(i:Nat)(ps:List (Str×Str))(ts:List Addr)(H2:Hp):Prop where
 row:Row H2 p
 but:cb p H H2
 ha:H2 a=some (.lst (ns.map V.str))
 hq:H2 q=some (.lst (ms.map V.str))
 hb:H2 b=some (.lst (ts.map V.ref))
 eG:aS H2 ts ps
 ins:jd ns ps
 len:ps.length=i
theorem WI.drawn{p a q b:Addr}{ns ms:List Str}{H H2 H3:Hp}{i:Nat}{ps:List (Str×Str)}{ts:List Addr}(h:WI p a q b ns ms H i ps ts H2)(s:cb p H2 H3)(r:Row H3 p)(na:a≠p)(nq:q≠p)(nb:b≠p):WI p a q b ns ms H i ps ts H3:=
 ⟨r,h.but.trans s,s _ _ h.ha na,s _ _ h.hq nq,s _ _ h.hb nb,h.eG.but s (λys z=>by obtain⟨xs,e⟩:=h.row.lst;rw[e] at z;cases z),h.ins,h.len⟩
def WL(p a q b:Addr)(ns ms:List Str)(H:Hp)(i:Nat)(σ:L2.St)(H2:Hp):Prop:=∃(v5 v6 v7:Option V) (ps:List (Str×Str)) (ts:List Addr),σ=[some (V.ref p),some (V.ref a),some (V.int 30),some (V.ref q),some (V.ref b),v5,v6,v7]/\WI p a q b ns ms H i ps ts H2
theorem JJ{f fD fS:Addr}{fd ig bJ:FuncData}(F:a7 K "_law_web" "_law_web" qS f fd)(D:Df K mg "_law_digit" fu ["_law_pot_here","_law_many"] fD ig)(DS:Df K mg "_law_shuffled" mG ["_law_pot_here","_law_things"] fS bJ)(T:bt mg) :
  av P w K mg base aB 3 f fd ["_law_pot_here","_law_names_here","_law_most"] C3:=by
 have G:av P w K mg base aB 1 fD ig ["_law_pot_here","_law_many"] mH:=gn D.fn T;have GS:av P w K mg base aB 2 fS bJ ["_law_pot_here","_law_things"] qN:=sj DS.fn D T;refine F.ok pW (λvs H Q E h=>?_) (λcdv A outer s H vs Q E hr h=>?_)
 ·obtain⟨p,a,ns,rfl,_⟩:=h;rfl
 ·obtain⟨p,a,ns,rfl,hp,ha,good,k⟩:=h;have h1:=hr.mono (j:=1) (by decide);refine⟨_,ag (aN (i:=3) pW.nd rfl (Or.inl rfl) (ar GS hr rfl DS.aK DS.fn.kp DS.b .nil ax (aa (pv 0) (aa (pv 1) ae))))
   (ag (aN (i:=4) pW.nd rfl (Or.inl rfl) (bR ae))
   (ag (cJ aaW rfl (dD rfl T.range (aa (ar G h1 rfl D.aK D.fn.kp D.b .nil ax (aa (pv 0) (aa (bV eE (pv 2) aE) ae))) ae)) (aD (i:=5) pW.nd rfl (Or.inl rfl))
    (ag (aN (i:=6) pW.nd rfl (Or.inl rfl) (ar G h1 rfl D.aK D.fn.kp D.b .nil ax (aa (pv 0) (aa (ay aA (by rfl) T.len aax (aa (pv 1) ae)) ae))))
    (ag (aN (i:=7) pW.nd rfl (Or.inl rfl) (ar G h1 rfl D.aK D.fn.kp D.b .nil ax (aa (pv 0) (aa (ay aA (by rfl) T.len aax (aa (pv 1) ae)) ae))))
    (ag (bu (PW.pt (gO (aQ oA (pv 6) (pv 7) (aV _)) (fE (aQ oA (ar G h1 rfl D.aK D.fn.kp D.b .nil ax (aa (pv 0) (aa aE ae))) aE (aV _)))))
     (ao (BV rfl pW.nd rfl rfl (i:=6) (j:=7) (by decide) rfl rfl (aa (pv 7) (aa (pv 6) ae)) rfl)) aT)
    (ao (aW (cT aaJ aaO aaP bH (pv 4) (aa (c7 (aa (bj aX (pv 3) (pv 6) (λ_ _=>rfl)) (aa (bj aX (pv 3) (pv 7) (λ_ _=>rfl)) ae))) ae))))))))
   (ao (aI (pv 4))))),?_⟩
  try rw[bw]
  refine⟨_,rfl,_,rfl,p,a,_,rfl,hp,ha,(by rw[aak];have:=good.aJ;omega),λq ys H1 pm hq km C4 b1=>?_⟩;obtain⟨ms,pms,rfl⟩:=kl pm;have lI:a≠p:=λe=>by obtain⟨x,y,z⟩:=hp;rw[<-e,ha] at z;cases ns with|nil=>exact absurd good.one (by decide)|cons n r=>cases z
  have C5:=b1 _ _ ha lI;have iI:q≠p:=λe=>by obtain⟨x,y,z⟩:=hp;rw[e,z] at hq;cases hq
  refine⟨(by decide),λb hb=>?_⟩;have nbp:b≠p:=λe=>by obtain⟨x,y,z⟩:=C4;rw[e,z] at hb;cases hb
  have Hb:H b=none:=b1.none hb nbp;have zd:q≠b:=aw km hb;have uA:a≠b:=aw C5 hb;refine⟨_,rfl,_,rfl,_,_,rfl,rfl,p,_,rfl,C4.aq (aaX nbp),by decide,by decide,λd2 H4 Hr Hs hp4 b4=>?_⟩;have W0:WI p a q b ns ms H 0 [] [] H4:=⟨hp4,(b1.ba Hb).trans b4,b4 _ _ (by rw[L2.aq uA];exact C5) lI,b4 _ _ (by rw[L2.aq zd];exact km) iI,b4 _ _ af nbp,.nil,(λ_ z=>nomatch z),rfl⟩
  refine⟨_,rfl,by omega,by omega,?_⟩;have HJ:ms.length=ns.length:=pms.length_eq;have pX:(0:Int)<ns.length:=by have:=good.one;omega
  have pY:(ns.length:Int)<1000:=by have:=good.aJ;omega
  have hlen:((ns.map V.str).length:Int)=ns.length:=by rw[aak]
  refine dS (WL p a q b ns ms H) ⟨_,_,_,[],[],rfl,W0⟩ ?_ ?_
  ·rintro i σ H5 hi ⟨v5,v6,v7,ps,ts,rfl,W5⟩;refine⟨_,rfl,_,rfl,a,_,rfl,.inl (aj.of W5.ha),p,_,rfl,W5.row,by rw[hlen];exact pX,by rw[hlen];exact pY,λone H6 o1 o2 ko b6=>?_⟩;have W6:=W5.drawn b6 ko lI iI nbp;refine⟨_,rfl,_,rfl,a,_,rfl,.inl (aj.of W6.ha),p,_,rfl,W6.row,by rw[hlen];exact pX,by rw[hlen];exact pY,λwG H7 t1 t2 C6 b7=>?_⟩;have W7:=W6.drawn b7 C6 lI iI nbp;rw[hlen] at o2 t2;have fin:∀(D:Ends),D.nx=WL p a q b ns ms H (i+1)->∀(x y:Int) (H8:Hp),0<=x->x<ns.length->0<=y->y<ns.length->WI p a q b ns ms H i ps ts H8 ->
     oz (yN K "list" jD (cf 4) (cw (vG (cw (ni (pJ K) (cf 3) (cf 6)) (cw (ni (pJ K) (cf 3) (cf 7)) d7))) d7)) D
      [some (V.ref p),some (V.ref a),some (V.int 30),some (V.ref q),some (V.ref b),some (V.int (0+i)),some (V.int x),some (V.int y)] H8:=by
    intro D0 hD x y H8 x1 x2 y1 y2 W8;obtain⟨m,rfl⟩:=abo x1;obtain⟨n,rfl⟩:=abo y1;have hm:m<ms.length:=by omega
    have vy:n<ms.length:=by omega
    refine⟨_,rfl,.inl ⟨rfl,_,aj.of W8.hb⟩,_,rfl,_,rfl,q,_,_,_,rfl,rfl,aj.of W8.hq,bc (j:=m) (v:=.str ms[m]) (by simp[hm]),_,rfl,_,rfl,q,_,_,_,rfl,rfl,aj.of W8.hq,bc (j:=n) (v:=.str ms[n]) (by simp[vy]),(by show 2<=sizeLine;decide),λt ht=>?_⟩;have C7:p≠t:=aw W8.row.lst.choose_spec ht;have Rx:b≠t:=aw W8.hb ht;have ze:ts.length=i:=by rw[W8.eG.len,W8.len]
    refine⟨b,_,_,rfl,rfl,by rw[L2.aq Rx];exact W8.hb,(by rw[aak,ze];exact c8 (by omega)),?_⟩;rw[hD];have Ht:H t=none:=W8.but.none ht (aaX C7);refine⟨_,_,_,ps++[(ms[m],ms[n])],ts++[t],rfl,(W8.row.aq C7).aq (aaX nbp),(W8.but.ba Ht).ba Hb,?_,?_,?_,?_,?_,?_⟩
    ·rw[L2.aq uA,L2.aq (aw W8.ha ht)];exact W8.ha
    ·rw[L2.aq zd,L2.aq (aw W8.hq ht)];exact W8.hq
    ·rw[af];simp
    ·refine aS.snoc (W8.eG.mono λt' xs e=>?_) ?_
     ·rw[L2.aq (cF e W8.hb (by intro z;cases z)),L2.aq (aw e ht)];exact e
     ·rw[L2.aq (aaX Rx)];exact af
    ·intro z hz;rcases aaD.mp hz with h|h
     ·exact W8.ins z h
     ·rw[aaA.mp h];exact⟨pms.mem_iff.mp (abd hm),pms.mem_iff.mp (abd vy)⟩
    ·rw[aaM,W8.len];rfl
   refine⟨_,rfl,_,rfl,_,_,rfl,rfl,_,rfl,?_⟩;refine cR (λXw=>?_) (λ_=>fin _ rfl one wG H7 o1 o2 t1 t2 W7);refine⟨_,rfl,p,_,rfl,W7.row,by decide,by decide,λd3 H8 _ _ m5 b8=>?_⟩;have W8:=W7.drawn b8 m5 lI iI nbp;refine⟨_,_,rfl,rfl,_,rfl,?_⟩;refine cR (λ_=>?_) (λ_=>fin _ rfl one wG H8 o1 o2 t1 t2 W8);exact⟨_,rfl,_,rfl,_,_,rfl,fin _ rfl wG one H8 t1 t2 o1 o2 W8⟩
  ·rintro σ H5 ⟨v5,v6,v7,ps,ts,rfl,W5⟩;exact⟨_,rfl,k b ps ts H5 Hb W5.hb W5.eG ⟨good,W5.ins,by rw[W5.len];omega⟩ W5.row W5.but⟩
end
abbrev gG:Stmt:=top 74 -- OU
def out(ys:List Str)(p:Str×Str):Bool:=decide (p.1∈ys)&&!decide (p.2∈ys)
def news(ps:List (Str×Str))(ys:List Str):List Str:=(ps.filter (out ys)).map (·.2)
def grow(ps:List (Str×Str))(ys:List Str):List Str:=ys++aF (dist (news ps ys))
theorem wH{ps:List (Str×Str)}{ys:List Str}{z:Str}(h:z∈news ps ys):z∉ys/\∃p∈ps,p.2=z:=by obtain⟨p,hp,rfl⟩:=aaN.mp h;obtain⟨h1,h2⟩:=aaU.mp hp;simp only[out,abh,abG,abD] at h2;exact⟨h2.2,p,h1,rfl⟩
theorem qT{ps:List (Str×Str)}{ys:List Str}:closed ps ys=true ↔ news ps ys=[]:=by unfold closed news;rw[abG,adf,ad7,aca];rfl
theorem Fx{ps:List (Str×Str)}{ys:List Str}{z:Str}:z∈grow ps ys ↔ z∈ys\/z∈news ps ys:=by unfold grow;rw[aaD,eI,mK]
theorem JK{ps:List (Str×Str)}{ys:List Str}(h:ys.Nodup):(grow ps ys).Nodup:=
 acd.mpr ⟨h,nI (mJ _),λa ha b hb e=>(wH (mK.mp (eI.mp hb))).1 (e▸ha)⟩
theorem JL{ps:List (Str×Str)}{ys ns:List Str}(i:jd ns ps)(h:∀z∈ys,z∈ns):∀z∈grow ps ys,z∈ns:=λz hz =>(Fx.mp hz).elim (h z) λq=>by obtain⟨_,p,hp,rfl⟩:=wH q;exact(i p hp).2
theorem C8{ps:List (Str×Str)}{ys:List Str}(h:closed ps ys=true):grow ps ys=ys:=by unfold grow;rw[qT.mp h];simp[dist,aF]
theorem C9{ps:List (Str×Str)}{ys:List Str}(h:¬ closed ps ys=true):ys.length<(grow ps ys).length:=by
 have:news ps ys≠[]:=λe=>h (qT.mpr e)
 obtain⟨z,hz⟩:=abp _ this
 have:=abR (eI.mpr (mK.mpr hz))
 unfold grow;rw[aaM];omega
def vg(ps:List (Str×Str))(i:Nat)(ys:List Str):Prop:=closed ps ys=true\/i<ys.length
theorem vg.next{ps:List (Str×Str)}{i:Nat}{ys:List Str}(h:vg ps i ys):vg ps (i+1) (grow ps ys):=by
 by_cases c:closed ps ys=true
 ·left;rw[C8 c];exact c
 ·right;have:=C9 c;rcases h with h|h
  ·exact absurd h c
  ·omega
theorem wI{ps:List (Str×Str)}{ys zs:List Str}(h:∀z,z∈ys ↔ z∈zs):closed ps ys=closed ps zs:=by unfold closed;congr 2;funext p;simp[h]
section
variable {P:Program}{w:World}{K:PySem.W.Frag}{mg:Str->Option Value}{base:Heap}
structure A4(ns:List Str)(ps:List (Str×Str))(zs:List Str):Prop where
 rise:aF zs=zs
 nd:zs.Nodup
 ins:∀z∈zs,z∈ns
 some:zs≠[]
 aU:closed ps zs=true
def pZ:Sp:=λvs H Q _=>∃(b u:Addr) (ns zs:List Str) (ts:List Addr) (ps:List (Str×Str)),vs=[.ref b,.ref u]/\H b=some (.lst (ts.map V.ref))/\aS H ts ps/\GoodW ns ps/\H u=some (.lst (zs.map V.str))/\zs.Nodup/\(∀z∈zs,z∈ns)/\zs≠[] /\
 ∀(l:Addr) (ys:List Str) (H':Hp),H' l=some (.tup (ys.map V.str))->A4 ns ps ys->au H H'->Q (.ref l) H'
abbrev Ry:List Str:=["_law_ties","_law_some","_law_found","_law_turn"]
theorem A5:aG Ry ["_law_ties","_law_some"] (ak gG):=⟨rfl,rfl,rfl,by decide +kernel,rfl,by decide +kernel,by decide +kernel⟩
def Xx(b u:Addr)(ns:List Str)(ps:List (Str×Str))(H:Hp)(i:Nat)(σ:L2.St)(H2:Hp):Prop:=
 ∃(v3:Option V) (fo:Addr) (ys:List Str),σ=[some (.ref b),some (.ref u),some (.ref fo),v3]/\au H H2/\H2 fo=some (.lst (ys.map V.str))/\ys.Nodup/\(∀z∈ys,z∈ns)/\vg ps i ys/\ys≠[]
theorem uB{f:Addr}{fd:FuncData}(F:a7 K "_law_closed" "_law_closed" gG f fd)(T:bt mg):av P w K mg base aB 1 f fd ["_law_ties","_law_some"] pZ:=by
 refine F.ok A5 (λvs H Q E h=>?_) (λcdv A outer s H vs Q E hr h=>?_)
 ·obtain⟨b,u,ns,zs,ts,ps,rfl,_⟩:=h;rfl
 ·obtain⟨b,u,ns,zs,ts,ps,rfl,hb,hT,g,hu,nd,sub,ne,k⟩:=h;refine⟨_,ag (aN (i:=2) A5.nd rfl (Or.inr rfl) (bp cE (by rfl) T.list aa1 (aa (pv 1) ae)))
   (ag (cJ aaW rfl (dD rfl T.range (aa aE ae)) (aD (i:=3) A5.nd rfl (Or.inl rfl))
    (ao (aN (i:=2) A5.nd rfl (Or.inr rfl) (bV Cb (pv 2) (ay (nU (P:=P) (w:=w) rfl) (by rfl) T.sorted acT (aa (bp (ux (P:=P) (w:=w) (K:=K) rfl) (by rfl) T.set ac1
     (aa (cZ ["_law_a","_law_b"] [2] rfl (bq (osc:=(ak gG).names) (N:=Ry) rfl rfl (by decide +kernel)) (iB (K:=K) (k:=2) (by decide) (by decide)) (bg (pv 0))
      (λ_ _ _=>cI rfl (aO (aD (i:=0) (show(["_law_a","_law_b","_law_found"]:List Str).Nodup by decide +kernel) rfl (Or.inl rfl)) (aO (aD (i:=1) (show(["_law_a","_law_b","_law_found"]:List Str).Nodup by decide +kernel) rfl (Or.inl rfl)) cg)))
      (λ_ _ _=>dA (PW.pt (gO (aQ (r:=gb K false) cn (pv 0) (pv 2) rfl) (fE (aQ (r:=gb K true) cD (pv 1) (pv 2) rfl)))))
      (λ_ _ _=>pv 1)) ae)) ae))))))
   (ao (aI (bp cH (by rfl) T.tuple aa5 (aa (ay kg (by rfl) T.sorted acT (aa (pv 2) ae)) ae))))),?_⟩
  try rw[bw]
  have fw:=g.good.aJ;refine⟨_,rfl,u,_,rfl,.inl (aj.of hu),λfo HK=>?_⟩;refine⟨12,rfl,by decide,by decide,dS (n:=12) (Xx b u ns ps H) ⟨_,fo,zs,rfl,ai HK,af,nd,sub,.inr (ab2.mpr ne),ne⟩ ?_ ?_⟩
  ·rintro i σ H2 _ ⟨v3,C',ys,rfl,s2,h2,wJ,sub2,gr,ne2⟩;have le:=gF wJ sub2;refine⟨_,rfl,_,rfl,b,rfl,⟨_,aj.of (s2 _ _ hb)⟩,?_⟩;have lt:(ts.map V.ref).length=ps.length:=by rw[aak,hT.len]
   refine cA (K:=K) (xs:=ts.map V.ref) (λj vs H3=>au H2 H3/\vs=(news (ps.take j) ys).map V.str) ⟨au.refl _,rfl⟩ ?_ ?_ ?_ ?_
   ·rintro j vs H3 hj ⟨_,rfl⟩;rw[aak];unfold news;rw[aak];exact aap (aa' _ _) (aap (by rw[aaR];exact abF _ _) (aap g.aJ (by decide)))
   ·rintro j vs H3 _ ⟨s3,_⟩;exact aj.of (s3 _ _ (s2 _ _ hb))
   ·rintro j v vs H3 R hv ⟨s3,rfl⟩ kR;rw[aaq] at hv;obtain⟨t,et,rfl⟩:=aar.mp hv;obtain⟨p,ep,ht⟩:=hT.get et;have fin:news (ps.take (j+1)) ys=news (ps.take j) ys++(if out ys p=true then [p.2] else []):=by unfold news;rw[aaI,ep,abt,aaY];congr 1;simp only[abL,abv,adT];split<;>rfl
    refine⟨t,_,rfl,aL.of (s3 _ _ (s2 _ _ ht)),rfl,_,_,rfl,_,_,rfl,rfl,?_⟩;refine⟨_,rfl,_,rfl,C',_,rfl,.inl (aj.of (s3 _ _ h2)),rfl,bf ys,_,rfl,?_⟩;simp only[aaB,aa3];rw[bU];by_cases h1:p.1∈ys
    ·rw[decide_eq_true h1];refine bo ⟨_,rfl,_,rfl,C',_,rfl,.inl (aj.of (s3 _ _ h2)),rfl,bf ys,_,rfl,?_⟩;simp only[aa4];rw[bU];by_cases h3:p.2∈ys
     ·rw[decide_eq_true h3];refine aZ (kR _ _ ⟨s3,?_⟩);rw[fin,if_neg (by simp[out,h3]),abr]
     ·rw[aaz h3];refine bo ⟨_,rfl,kR _ _ ⟨s3,?_⟩⟩;rw[fin,if_pos (by simp[out,h1,h3]),aaY];rfl
    ·rw[aaz h1];refine aZ (kR _ _ ⟨s3,?_⟩);rw[fin,if_neg (by simp[out,h1]),abr]
   ·rintro vs H3 ⟨s3,rfl⟩ D0 i7;rw[lt,aaF (aal _)];have ln:(news ps ys).length<=30:=by unfold news;rw[aak];exact aap (aa' _ _) g.aJ
    have s4:=s3.trans (ai (o:=.lst ((news ps ys).map V.str)) i7);refine⟨D0,news ps ys,rfl,.inl (aj.of af),abJ (adB ln) (by decide),λl1 iG=>?_⟩;have s5:=s4.trans (ai (o:=nR P w l1 (news ps ys)) iG);refine⟨l1,news ps ys,rfl,af,by omega,λl2 hl2=>?_⟩;have s6:=s5.trans (ai (o:=.lst ((aF (dist (news ps ys))).map V.str)) hl2);have nd':(grow ps ys).Nodup:=JK wJ;have Mi:=JL g.ins sub2;have le':=gF nd' Mi;have lg:ys.length+(aF (dist (news ps ys))).length=(grow ps ys).length:=by unfold grow;rw[aaM]
    refine⟨C',l2,_,_,rfl,rfl,s6 _ _ h2,af,by rw[aak,aak,lg];exact abe (c8 (by omega)),λl3 jy=>?_⟩;refine⟨_,l3,grow ps ys,rfl,s2.trans (s6.trans (ai jy)),?_,nd',Mi,gr.next,λe=>?_⟩
    ·rw[af];unfold grow;rw[aaY]
    ·have:(grow ps ys).length=0:=by rw[e];rfl
     have:=ab2.mpr ne2
     omega
  ·rintro σ H2 ⟨v3,C',ys,rfl,s2,h2,wJ,sub2,gr,ne2⟩;have le:=gF wJ sub2;have cl:closed ps ys=true:=gr.elim id λq=>by omega
   refine⟨_,rfl,C',ys,rfl,aj.of h2,by omega,λl hl=>⟨l,_,rfl,.inl ⟨aj.of af,λt ht=>?_⟩⟩⟩;exact k t (aF ys) _ af ⟨yY ys,nI wJ,λz hz=>sub2 z (eI.mp hz),λe=>ne2 (ab1.mp (by rw[<-cC,e];rfl)),by rw[wI λz=>eI];exact cl⟩ (s2.trans ((ai hl).trans (ai ht)))
end
abbrev sE:Stmt:=top 76 -- UW
abbrev wK:Stmt:=top 77 -- OV
section
variable {P:Program}{w:World}{K:PySem.W.Frag}{mg:Str->Option Value}{base:Heap}
def A6:Sp:=λvs H Q _=>∃(p a b:Addr) (ns:List Str) (ts:List Addr) (ps:List (Str×Str)),vs=[.ref p,.ref a,.ref b]/\Row H p/\a≠p/\b≠p/\H a=some (.lst (ns.map V.str))/\H b=some (.lst (ts.map V.ref))/\aS H ts ps/\GoodW ns ps /\
 ∀(l:Addr) (zs:List Str) (H':Hp),H' l=some (.tup (zs.map V.str))->A4 ns ps zs->Row H' p->cb p H H'->Q (.ref l) H'
abbrev Xy:List Str:=["_law_pot_here","_law_names_here","_law_ties","_law_seeds","_law_k","_law_place"]
theorem A7:aG Xy ["_law_pot_here","_law_names_here","_law_ties"] (ak sE):=⟨rfl,rfl,rfl,by decide +kernel,rfl,by decide +kernel,by decide +kernel⟩
def Xz(p a b q:Addr)(ns:List Str)(ts:List Addr)(ps:List (Str×Str))(H:Hp)(i:Nat)(σ:L2.St)(H2:Hp):Prop:=
 ∃(v4 v5:Option V) (ys:List Str),σ=[some (.ref p),some (.ref a),some (.ref b),some (.ref q),v4,v5]/\Row H2 p/\cb p H H2/\H2 q=some (.lst (ys.map V.str))/\ys.Nodup/\(∀z∈ys,z∈ns)/\(0<i->ys≠[])
theorem Dd{f fD fC:Addr}{fd ig qU:FuncData}(F:a7 K "_law_cut" "_law_cut" sE f fd)(D:Df K mg "_law_digit" fu ["_law_pot_here","_law_many"] fD ig)(DC:Df K mg "_law_closed" gG ["_law_ties","_law_some"] fC qU)(T:bt mg) :
  av P w K mg base aB 2 f fd ["_law_pot_here","_law_names_here","_law_ties"] A6:=by
 have G:av P w K mg base aB 1 fD ig ["_law_pot_here","_law_many"] mH:=gn D.fn T;have GC:av P w K mg base aB 1 fC qU ["_law_ties","_law_some"] pZ:=uB DC.fn T;refine F.ok A7 (λvs H Q E h=>?_) (λcdv A outer s H vs Q E hr h=>?_)
 ·obtain⟨p,a,b,ns,ts,ps,rfl,_⟩:=h;rfl
 ·obtain⟨p,a,b,ns,ts,ps,rfl,hp,nap,nbp,ha,hb,hT,g,k⟩:=h;refine⟨_,ag (aN (i:=3) A7.nd rfl (Or.inl rfl) (bR ae))
   (ag (cJ aaW rfl (dD rfl T.range (aa (bj aX (bR (aa aE (aa aE (aa aE (aa aE (aa aE (aa aE ae))))))) (ar G hr rfl D.aK D.fn.kp D.b .nil ax (aa (pv 0) (aa aE ae))) (λ_ _=>rfl)) ae)) (aD (i:=4) A7.nd rfl (Or.inl rfl))
    (ag (aN (i:=5) A7.nd rfl (Or.inl rfl) (bj aX (pv 1) (ar G hr rfl D.aK D.fn.kp D.b .nil ax (aa (pv 0) (aa (ay aA (by rfl) T.len aax (aa (pv 1) ae)) ae))) (λ_ _=>rfl)))
    (ao (bu (aQ cD (pv 5) (pv 3) rfl) (ao (aW (cT aaJ aaO aaP bH (pv 3) (aa (pv 5) ae)))) aT))))
   (ao (aI (ar GC hr rfl DC.aK DC.fn.kp DC.b .nil ax (aa (pv 2) (aa (pv 3) ae)))))),?_⟩
  try rw[bw]
  have fw:=g.good.aJ;have on:=g.good.one;refine⟨(by decide),λq hq=>?_⟩;have je:p≠q:=aw hp.lst.choose_spec hq;refine⟨(by show 6<=sizeLine;decide),λl0 jf=>?_⟩;have oT:p≠l0:=aw (hp.aq je).lst.choose_spec jf;have LO:q≠l0:=aw af jf;have Mj:H l0=none:=by
   cases e:H l0 with
   |none=>rfl
   |some o=>rw[L2.aq (aw e hq)] at jf;rw[jf] at e;cases e
  refine⟨_,rfl,p,6,rfl,(hp.aq je).aq oT,by decide,by decide,λd0 H0 Q9 Ra CL b0=>?_⟩;have XA:cb p H H0:=(((cb.refl p H).ba hq).ba Mj).trans b0;have qM:=b0 _ _ (by rw[L2.aq LO];exact af) (aaX je);have hl:=b0 _ _ af (aaX oT);obtain⟨mm,em,W4,mm5⟩:∃mm:Int,eF [V.int 1,V.int 1,V.int 2,V.int 2,V.int 3,V.int 5] d0=some (.int mm)/\0<mm/\mm<=5:=by
   have:d0=0\/d0=1\/d0=2\/d0=3\/d0=4\/d0=5:=by omega
   rcases this with rfl|rfl|rfl|rfl|rfl|rfl
   ·exact⟨1,rfl,by decide,by decide⟩
   ·exact⟨1,rfl,by decide,by decide⟩
   ·exact⟨2,rfl,by decide,by decide⟩
   ·exact⟨2,rfl,by decide,by decide⟩
   ·exact⟨3,rfl,by decide,by decide⟩
   ·exact⟨5,rfl,by decide,by decide⟩
  refine⟨l0,_,_,_,rfl,rfl,aj.of hl,em,_,rfl,by omega,by omega,?_⟩;have hlen:((ns.map V.str).length:Int)=ns.length:=by rw[aak]
  refine dS (Xz p a b q ns ts ps H) ⟨_,_,[],rfl,CL,XA,qM,aci,(λ_ z=>nomatch z),(λz=>absurd z (by decide))⟩ ?_ ?_
  ·rintro i σ H2 hi ⟨v4,v5,ys,rfl,gR,b2,fv,nd,sub,_⟩;have De:=b2 _ _ ha nap;refine⟨_,rfl,_,rfl,_,rfl,a,_,rfl,.inl (aj.of De),p,_,rfl,gR,by rw[hlen];omega,by rw[hlen];omega,λd H3 d1 d2 oU b3=>?_⟩;rw[hlen] at d2;obtain⟨m,rfl⟩:=abo d1;have hm:m<ns.length:=by omega
   have XB:=b3 _ _ De nap;have dF:=b3 _ _ fv (aaX je);refine⟨a,_,_,_,rfl,rfl,aj.of XB,bc (j:=m) (v:=.str ns[m]) (by simp[hm]),?_⟩;have mem:ns[m]∈ns:=abd hm;generalize ns[m]=z at mem⊢;refine⟨_,rfl,_,rfl,q,_,rfl,.inl (aj.of dF),rfl,bf ys,_,rfl,?_⟩;simp only[aa4];rw[bU];by_cases jz:z∈ys
   ·rw[decide_eq_true jz];exact aZ ⟨_,_,ys,rfl,oU,b2.trans b3,dF,nd,sub,λ_=>List.ne_nil_of_mem jz⟩
   ·rw[aaz jz];have le:=gF nd sub;refine bo ⟨_,rfl,.inl ⟨rfl,_,aj.of dF⟩,_,rfl,q,_,_,rfl,rfl,dF,(by rw[aak];exact c8 (by omega)),?_⟩;refine⟨_,_,ys++[z],rfl,oU.aq je,(b2.trans b3).ba hq,?_,lB nd jz,?_,λ_=>by simp⟩
    ·rw[af];simp
    ·intro y hy;rcases aaD.mp hy with h|h
     ·exact sub y h
     ·rw[aaA.mp h];exact mem
  ·rintro σ H2 ⟨v4,v5,ys,rfl,gR,b2,fv,nd,sub,ne⟩;have rl:=hp.lst;refine⟨_,rfl,_,rfl,b,q,ns,ys,ts,ps,rfl,b2 _ _ hb nbp,hT.but b2 (λxs z=>by obtain⟨x,e⟩:=rl;rw[e] at z;cases z),g,fv,nd,sub,ne (by omega),λl zs H3 jy sh s3=>?_⟩;exact k l zs H3 jy sh (let ⟨x,y,e⟩:=gR;⟨x,y,s3 _ _ e⟩) (λc o e n=>s3 _ _ (b2 c o e n))
end
abbrev jU:Stmt:=top 78 -- PB
def aP(H:Hp):List Addr->List (List Str)->Prop:=Paired λu zs=>H u=some (.tup (zs.map V.str))
theorem aP.mono{H H':Hp}{us:List Addr}{zss:List (List Str)}(h:aP H us zss)(k:∀t xs,H t=some (.tup xs)->H' t=some (.tup xs)):aP H' us zss:=Paired.rK h λt p e=>k t _ e
theorem aP.same{H H':Hp}{us:List Addr}{zss:List (List Str)}(h:aP H us zss)(s:au H H'):aP H' us zss:=h.mono λt xs e=>s t _ e
theorem aP.but{p:Addr}{H H':Hp}{us:List Addr}{zss:List (List Str)}(h:aP H us zss)(s:cb p H H')(r:Row H p):aP H' us zss:=h.mono λt xs e=>s t _ e λz=>by obtain⟨x,y,q⟩:=r;rw[z,q] at e;cases e
theorem aP.len{H:Hp}{us:List Addr}{zss:List (List Str)}(h:aP H us zss):us.length=zss.length:=acz h
theorem aP.get{H:Hp}:∀{us:List Addr} {zss:List (List Str)} {i:Nat} {u:Addr},aP H us zss->us[i]?=some u->∃zs,zss[i]?=some zs/\H u=some (.tup (zs.map V.str))
 |_,_,_,_,.nil,e=>by simp at e
 |_,_,0,_,.cons h _,e=>by simp at e;subst e;exact⟨_,rfl,h⟩
 |_,_,i+1,_,.cons _ t,e=>by simp at e;obtain⟨zs,e2,h⟩:=aP.get t e;exact⟨zs,by simpa using e2,h⟩
theorem aP.snoc{H:Hp}{us:List Addr}{zss:List (List Str)}{u:Addr}{zs:List Str}(h:aP H us zss)(e:H u=some (.tup (zs.map V.str))):aP H (us++[u]) (zss++[zs]):=ad4 h e
structure dw(ns:List Str)(ps:List (Str×Str))(zs:List Str):Prop where
 aU:A4 ns ps zs
 less:zs.length<ns.length
theorem Row.same{H H':Hp}{p:Addr}(r:Row H p)(s:au H H'):Row H' p:=let ⟨x,y,e⟩:=r;⟨x,y,s _ _ e⟩
section
variable {P:Program}{w:World}{K:PySem.W.Frag}{mg:Str->Option Value}{base:Heap}
def HM:Sp:=λvs H Q _=>∃(p a b:Addr) (ns:List Str) (ts:List Addr) (ps:List (Str×Str)),vs=[.ref p,.ref a,.ref b,.int 8]/\Row H p/\a≠p/\b≠p/\H a=some (.lst (ns.map V.str))/\H b=some (.lst (ts.map V.ref))/\aS H ts ps/\GoodW ns ps /\
 ∀(l:Addr) (us:List Addr) (zss:List (List Str)) (H':Hp),H l=none->H' l=some (.lst (us.map V.ref))->aP H' us zss->(∀zs∈zss,dw ns ps zs)->us.length<=8->Row H' p->cb p H H'->Q (.ref l) H'
abbrev XC:List Str:=["_law_pot_here","_law_names_here","_law_ties","_law_most","_law_found","_law_k","_law_part"]
theorem wL:aG XC ["_law_pot_here","_law_names_here","_law_ties","_law_most"] (ak wK):=⟨rfl,rfl,rfl,by decide +kernel,rfl,by decide +kernel,by decide +kernel⟩
def Rz(p a b q:Addr)(ns:List Str)(ps:List (Str×Str))(H:Hp)(i:Nat)(σ:L2.St)(H2:Hp):Prop:=
 ∃(v5 v6:Option V) (us:List Addr) (zss:List (List Str)),σ=[some (.ref p),some (.ref a),some (.ref b),some (.int 8),some (.ref q),v5,v6]/\Row H2 p/\cb p H H2/\H2 q=some (.lst (us.map V.ref))/\aP H2 us zss/\(∀zs∈zss,dw ns ps zs)/\us.length<=i
theorem Ml{f fD fC fK:Addr}{fd ig qU RA:FuncData}(F:a7 K "_law_family" "_law_family" wK f fd)(D:Df K mg "_law_digit" fu ["_law_pot_here","_law_many"] fD ig)(DC:Df K mg "_law_closed" gG ["_law_ties","_law_some"] fC qU)
  (DK:Df K mg "_law_cut" sE ["_law_pot_here","_law_names_here","_law_ties"] fK RA) (T:bt mg):av P w K mg base aB 3 f fd ["_law_pot_here","_law_names_here","_law_ties","_law_most"] HM:=by
 have G:av P w K mg base aB 1 fD ig ["_law_pot_here","_law_many"] mH:=gn D.fn T;have GK:av P w K mg base aB 2 fK RA ["_law_pot_here","_law_names_here","_law_ties"] A6:=Dd DK.fn D DC T;refine F.ok wL (λvs H Q E h=>?_) (λcdv A outer s H vs Q E hr h=>?_)
 ·obtain⟨p,a,b,ns,ts,ps,rfl,_⟩:=h;rfl
 ·obtain⟨p,a,b,ns,ts,ps,rfl,hp,nap,nbp,ha,hb,hT,g,k⟩:=h;have h1:=hr.mono (j:=1) (by decide);refine⟨_,ag (aN (i:=4) wL.nd rfl (Or.inl rfl) (bR ae))
   (ag (cJ aaW rfl (dD rfl T.range (aa (ar G h1 rfl D.aK D.fn.kp D.b .nil ax (aa (pv 0) (aa (bV eE (pv 3) aE) ae))) ae)) (aD (i:=5) wL.nd rfl (Or.inl rfl))
    (ag (aN (i:=6) wL.nd rfl (Or.inl rfl) (ar GK hr rfl DK.aK DK.fn.kp DK.b .nil ax (aa (pv 0) (aa (pv 1) (aa (pv 2) ae)))))
    (ag (bu (PW.pt (gO (aQ (uu (low 0 hr)) (pv 4) (bR ae) (aV _)) (fE (aQ iW (ar G h1 rfl D.aK D.fn.kp D.b .nil ax (aa (pv 0) (aa aE ae))) aE (aV _)))))
     (ao (aN (i:=6) wL.nd rfl (Or.inl rfl) (bj aX (pv 4) (ar G h1 rfl D.aK D.fn.kp D.b .nil ax (aa (pv 0) (aa (ay aA (by rfl) T.len aax (aa (pv 4) ae)) ae))) (λ_ _=>rfl)))) aT)
    (ao (bu (aQ iw (ay aA (by rfl) T.len aax (aa (pv 6) ae)) (ay aA (by rfl) T.len aax (aa (pv 1) ae)) (aV _))
     (ao (aW (cT aaJ aaO aaP bH (pv 4) (aa (pv 6) ae)))) aT)))))
   (ao (aI (pv 4)))),?_⟩
  try rw[bw]
  refine⟨(by decide),λq hq=>?_⟩;have je:p≠q:=aw hp.lst.choose_spec hq;refine⟨_,rfl,_,rfl,_,_,rfl,rfl,p,_,rfl,hp.aq je,by decide,by decide,λd0 H0 Q9 Ra CL b0=>?_⟩;refine⟨_,rfl,by omega,by omega,?_⟩;refine dS (Rz p a b q ns ps H) ⟨_,_,[],[],rfl,CL,((cb.refl p H).ba hq).trans b0,b0 _ _ af (aaX je),.nil,(λ_ z=>nomatch z),aal _⟩ ?_ ?_
  ·rintro i σ H2 hi ⟨v5,v6,us,zss,rfl,gR,b2,fv,hC,all,hl⟩;have i8:i<=8:=by omega
   have XD:aS H2 ts ps:=hT.but b2 (λxs z=>by obtain⟨x,e⟩:=hp.lst;rw[e] at z;cases z);refine⟨_,rfl,_,rfl,_,rfl,p,a,b,ns,ts,ps,rfl,gR,nap,nbp,b2 _ _ ha nap,b2 _ _ hb nbp,XD,g,λl zs H3 jy sh oU b3=>?_⟩;have dF:=b3 _ _ fv (aaX je);have zf:=hC.but b3 gR;have RB:=b2.trans b3;have fin:∀(D:Ends),D.nx=Rz p a b q ns ps H (i+1)->∀(c:Addr) (zs:List Str) (H8:Hp),H8 c=some (.tup (zs.map V.str))->A4 ns ps zs->Row H8 p->cb p H H8->H8 q=some (.lst (us.map V.ref))->aP H8 us zss ->
     Ai (Ap (ni (qu λi j=>.bl (decide (i<j))) (tZ (λxs H Q=>∃p ys,xs=[V.ref p]/\(aj K H p ys\/aL K H p ys)/\Q (V.int ys.length) H) (cw (cf 6) d7)) (tZ (λxs H Q=>∃p ys,xs=[V.ref p]/\(aj K H p ys\/aL K H p ys)/\Q (V.int ys.length) H) (cw (cf 1) d7))))
      (oz (yN K "list" jD (cf 4) (cw (cf 6) d7))) va D
      [some (V.ref p),some (V.ref a),some (V.ref b),some (V.int 8),some (V.ref q),some (V.int (0+i)),some (V.ref c)] H8:=by
    intro D0 hD c zs H8 hc XE m5 b8 Dg hC8;refine⟨_,rfl,c,_,rfl,.inr (aL.of hc),_,rfl,a,_,rfl,.inl (aj.of (b8 _ _ ha nap)),_,_,rfl,rfl,_,rfl,?_⟩;refine cR (λhlt=>?_) (λ_=>?_)
    ·have Fc:zs.length<ns.length:=by simpa using hlt
     refine⟨_,rfl,.inl ⟨rfl,_,aj.of Dg⟩,_,rfl,q,_,_,rfl,rfl,Dg,(by rw[aak];exact c8 (by omega)),?_⟩;rw[hD];refine⟨_,_,us++[c],zss++[zs],rfl,m5.aq je,b8.ba hq,by rw[af];simp,aP.snoc (hC8.mono λt xs e=>?_) ?_,?_,by simp;omega⟩
     ·rw[L2.aq (cF e Dg (by intro z;cases z))];exact e
     ·rw[L2.aq (cF hc Dg (by intro z;cases z))];exact hc
     ·intro z hz;rcases aaD.mp hz with h|h
      ·exact all z h
      ·rw[aaA.mp h];exact⟨XE,Fc⟩
    ·show D0.nx _ _
     rw[hD];exact⟨_,_,us,zss,rfl,m5,b8,Dg,hC8,all,adw hl⟩
   refine⟨_,rfl,(by decide),λe he=>?_⟩;have LU:p≠e:=aw oU.lst.choose_spec he;have He:H e=none:=RB.none he (aaX LU);have se:=ai (o:=.lst []) he;refine⟨q,e,_,rfl,rfl,aj.of (se _ _ dF),aj.of af,_,rfl,?_⟩;have hp4:=oU.same se;have b4:cb p H (upd H3 e (.lst [])):=RB.ba He;have lG:=se _ _ dF;have hC4:=zf.same se;have mY:=se _ _ jy;generalize upd H3 e (.lst [])=H4 at se hp4 b4 lG hC4 mY⊢;refine cR (λyO=>?_) (λ_=>fin _ rfl l zs H4 mY sh hp4 b4 lG hC4);have UX:us≠[]:=λz=>by subst z;simp at yO
   refine⟨_,rfl,p,_,rfl,hp4,by decide,by decide,λd5 H5 _ _ Mm b5=>?_⟩;have L6:H5 l=some (.tup (zs.map V.str)):=b5 _ _ mY λz=>by obtain⟨x,y,q⟩:=hp4;rw[z,q] at mY;cases mY
   have gJ:=b5 _ _ lG (aaX je);have hC5:=hC4.but b5 hp4;refine⟨rfl,_,rfl,?_⟩;refine cR (λ_=>?_) (λ_=>fin _ rfl l zs H5 L6 sh Mm (b4.trans b5) gJ hC5);have lu:((us.map V.ref).length:Int)=us.length:=by rw[aak]
   have pu:=ab2.mpr UX;refine⟨_,rfl,_,rfl,_,rfl,q,_,rfl,.inl (aj.of gJ),p,_,rfl,Mm,by rw[lu];omega,by rw[lu];omega,λd6 H6 XF XG ko b6=>?_⟩;rw[lu] at XG;obtain⟨m,rfl⟩:=abo XF;have hm:m<us.length:=by omega
   have Dh:=b6 _ _ gJ (aaX je);have Di:=hC5.but b6 Mm;obtain⟨ws,ew,hw⟩:=Di.get (show us[m]?=some us[m] by simp[hm]);refine⟨q,_,_,_,rfl,rfl,aj.of Dh,bc (j:=m) (v:=.ref us[m]) (by simp[hm]),?_⟩;exact fin _ rfl us[m] ws H6 hw (all ws (aat ew)).aU ko ((b4.trans b5).trans b6) Dh Di
  ·rintro σ H2 ⟨v5,v6,us,zss,rfl,gR,b2,fv,hC,all,hl⟩;exact⟨_,rfl,k q us zss H2 hq fv hC all (by omega) gR b2⟩
end
end dJ
namespace L2
open PySem PySem.Spec PyProof.Rows
theorem wM{f:Str->Bool}{xs:List Str}{i:Nat}{z:Str}(h:xs[i]?=some z):((xs.take (i+1)).filter f).map V.str=((xs.take i).filter f).map V.str++(if f z=true then [V.str z] else []):=by rw[aaI,h,abt,aaY];congr 1;simp only[abL,abv,adT];split<;>rfl
theorem Dj{f:Str->Bool}{xs:List Str}{i:Nat}(hx:xs.length<=1000):(((xs.take i).filter f).map V.str).length<=sizeLine:=by rw[aak];exact aap (aa' _ _) (aap (by rw[aaR];exact abF _ _) (abe (c8 hx)))
section
variable {K:PySem.W.Frag}{a:Addr}{xs:List Str}{own:List Str}{fr:List Nat}{tt:TT}{te:TE}{σ:St}{Q:VK}{H:Hp}
theorem A8(hx:xs.length<=1000)(ha:H a=some (.lst (xs.map V.str)))(f:Str->Bool)
  (ht:∀z H2 (R:Bool->Hp->Prop),z∈xs->au H H2->R (f z) H2->tt ((dq own fr σ).set 0 (some (.str z))) H2 R) (he:∀z H2 (R:VK),R (.str z) H2->te ((dq own fr σ).set 0 (some (.str z))) H2 R)
  (k:∀D H2,au H H2->H2 D=none->Q (.ref D) (upd H2 D (.lst ((xs.filter f).map V.str)))):gT own fr (bh 0) tt te σ Q (oO K a) H:=by
 refine cA (K:=K) (xs:=xs.map V.str) (λj ys H2=>au H H2/\ys=((xs.take j).filter f).map V.str) ⟨au.refl _,rfl⟩ ?_ ?_ ?_ ?_
 ·rintro i ys H2 _ ⟨_,rfl⟩;exact Dj hx
 ·rintro i ys H2 _ ⟨s2,_⟩;exact aj.of (s2 _ _ ha)
 ·rintro i v ys H2 R hv ⟨s2,rfl⟩ kR;rw[aaq] at hv;obtain⟨z,ez,rfl⟩:=aar.mp hv;refine ht z H2 _ (aat ez) s2 ?_;have e:=wM (f:=f) ez;by_cases hf:f z=true
  ·rw[if_pos hf] at e⊢;exact he z H2 _ (kR _ _ ⟨s2,e.symm⟩)
  ·rw[if_neg hf] at e⊢;exact kR _ _ ⟨s2,by rw[e,abr]⟩
 ·rintro ys H2 ⟨s2,rfl⟩ D hD;rw[aak,aaF (aal _)];exact k D H2 s2 hD
theorem HN(hx:xs.length<=1000)(ha:H a=some (.tup (xs.map V.str)))(f:Str->Bool)
  (ht:∀z H2 (R:Bool->Hp->Prop),z∈xs->au H H2->R (f z) H2->tt ((dq own fr σ).set 0 (some (.str z))) H2 R) (he:∀z H2 (R:VK),R (.str z) H2->te ((dq own fr σ).set 0 (some (.str z))) H2 R)
  (k:∀D H2,au H H2->H2 D=none->Q (.ref D) (upd H2 D (.lst ((xs.filter f).map V.str)))):gT own fr (bh 0) tt te σ Q (G6 K a) H:=by
 refine vV (K:=K) (xs:=xs.map V.str) (λj ys H2=>au H H2/\ys=((xs.take j).filter f).map V.str) ⟨au.refl _,rfl⟩ ?_ ?_ ?_ ?_
 ·rintro i ys H2 _ ⟨_,rfl⟩;exact Dj hx
 ·rintro i ys H2 _ ⟨s2,_⟩;exact aL.of (s2 _ _ ha)
 ·rintro i v ys H2 R hv ⟨s2,rfl⟩ kR;rw[aaq] at hv;obtain⟨z,ez,rfl⟩:=aar.mp hv;refine ht z H2 _ (aat ez) s2 ?_;have e:=wM (f:=f) ez;by_cases hf:f z=true
  ·rw[if_pos hf] at e⊢;exact he z H2 _ (kR _ _ ⟨s2,e.symm⟩)
  ·rw[if_neg hf] at e⊢;exact kR _ _ ⟨s2,by rw[e,abr]⟩
 ·rintro ys H2 ⟨s2,rfl⟩ D hD;rw[aak,aaF (aal _)];exact k D H2 s2 hD
end
end L2
namespace dJ
open PySem PySem.Spec PyProof.Rows L2
def both(ns xs ys:List Str):List Str:=ns.filter λz=>decide (z∈xs)&&decide (z∈ys)
def either(ns xs ys:List Str):List Str:=ns.filter λz=>decide (z∈xs)||decide (z∈ys)
def alone(xs ys:List Str):List Str:=xs.filter λz=>!decide (z∈ys)
def gY(ns xs ys:List Str):Bool:=!(decide (alone xs ys=[])||decide (alone ys xs=[])||decide ((alone xs ys).length=xs.length))&&decide (xs.length+(alone ys xs).length<ns.length)
def bS(ns xs ys:List Str):Bool:=decide (1<=(both ns xs ys).length)&&decide ((both ns xs ys).length<min xs.length ys.length)&&decide ((either ns xs ys).length<ns.length)
theorem wN{l m:List Str}(hl:l.Nodup)(hm:m.Nodup)(h:∀x,x∈l ↔ x∈m):l.length=m.length:=afm (gF hl λx q=>(h x).mp q) (gF hm λx q=>(h x).mpr q)
theorem uC(f:Str->Bool):∀xs:List Str,(xs.filter f).length+(xs.filter λz=>!f z).length=xs.length
 |[]=>rfl
 |x::xs=>by
  have:=uC f xs
  rw[abv,abv];cases f x<;>simp<;>omega
theorem mL{ns xs ys:List Str}(nn:ns.Nodup)(nx:xs.Nodup)(sx:∀z∈xs,z∈ns):(both ns xs ys).length+(alone xs ys).length=xs.length:=by rw[<-uC (λz=>decide (z∈ys)) xs];congr 1;refine wN (nn.filter _) (nx.filter _) λz=>?_;simp only[both,aaU,abh,abi];exact⟨λh=>h.2,λh=>⟨sx z h.1,h⟩⟩
theorem nW(ns xs ys:List Str):both ns xs ys=both ns ys xs:=by unfold both;congr 1;funext z;exact Bool.and_comm _ _
theorem yt(ns xs ys:List Str):either ns xs ys=either ns ys xs:=by unfold either;congr 1;funext z;exact Bool.or_comm _ _
theorem qV{ns xs ys:List Str}(nn:ns.Nodup)(nx:xs.Nodup)(ny:ys.Nodup)(sx:∀z∈xs,z∈ns)(sy:∀z∈ys,z∈ns):(either ns xs ys).length=xs.length+(alone ys xs).length:=by
 rw[<-aaM];refine wN (nn.filter _) (acd.mpr ⟨nx,ny.filter _,λa ha b hb e=>?_⟩) λz=>?_
 ·have:=(aaU.mp hb).2
  rw[<-e] at this;simp[ha] at this
 ·simp only[either,alone,aaU,afk,abi,aaD,abG,abD];constructor
  ·rintro⟨h1,h2⟩;by_cases q:z∈xs
   ·exact .inl q
   ·exact .inr ⟨h2.resolve_left q,q⟩
  ·rintro(h|⟨h,_⟩)
   ·exact⟨sx z h,.inl h⟩
   ·exact⟨sy z h,.inr h⟩
theorem Fy{ns xs ys:List Str}(nn:ns.Nodup)(nx:xs.Nodup)(ny:ys.Nodup)(sx:∀z∈xs,z∈ns)(sy:∀z∈ys,z∈ns):gY ns xs ys=bS ns xs ys:=by have h1:=mL (ys:=ys) nn nx sx;have h2:=mL (ys:=xs) nn ny sy;rw[nW] at h2;have h3:=qV nn nx ny sx sy;unfold gY bS;rw[h3];have e1:(alone xs ys=[]) ↔ (alone xs ys).length=0:=ab1.symm;have e2:(alone ys xs=[]) ↔ (alone ys xs).length=0:=ab1.symm;rw[abH];simp only[abh,abG,aeo,abi,abD,e1,e2];omega
theorem oZ(ns xs ys:List Str):bS ns xs ys=bS ns ys xs:=by unfold bS;rw[nW,yt,Nat.min_comm]
abbrev qW:Stmt:=top 35 -- Mn
abbrev nX:Stmt:=top 36 -- OW
abbrev nY:Stmt:=top 37 -- PD
abbrev wO:Stmt:=top 38 -- Mo
abbrev lJ:Stmt:=top 39 -- aaa
abbrev qX:Stmt:=top 40 -- meet
abbrev qY:Stmt:=top 41 -- join
section
variable {P:Program}{w:World}{K:PySem.W.Frag}{mg:Str->Option Value}{base:Heap}
def mM:Sp:=λvs H Q _=>∃(a u v:Addr) (ns xs ys:List Str),vs=[.ref a,.ref u,.ref v]/\H a=some (.lst (ns.map V.str))/\H u=some (.tup (xs.map V.str))/\H v=some (.tup (ys.map V.str))/\xs.length<=12/\ys.length<=12/\∀H',au H H'->Q (.bl (gY ns xs ys)) H'
abbrev Mp:List Str:=["_law_names_here","_law_one","_law_second","_law_alone","_law_others"]
theorem Fz:aG Mp ["_law_names_here","_law_one","_law_second"] (ak jU):=⟨rfl,rfl,rfl,by decide +kernel,rfl,by decide +kernel,by decide +kernel⟩
theorem Dk{f:Addr}{fd:FuncData}(F:a7 K "_law_cross" "_law_cross" jU f fd)(T:bt mg):av P w K mg base aB 1 f fd ["_law_names_here","_law_one","_law_second"] mM:=by
 refine F.ok Fz (λvs H Q E h=>?_) (λcdv A outer s H vs Q E hr h=>?_)
 ·obtain⟨a,u,v,ns,xs,ys,rfl,_⟩:=h;rfl
 ·obtain⟨a,u,v,ns,xs,ys,rfl,ha,hu,hv,lx,ly,k⟩:=h;refine⟨_,ag (hJ (i:=3) ["_law_place"] [2] Fz.nd rfl rfl rfl (bq (osc:=(ak jU).names) (N:=Mp) rfl rfl (by decide +kernel)) (bx (by decide)) (qr (pv 1))
     (λ_ _ _=>aD (i:=0) (show(["_law_place","_law_second"]:List Str).Nodup by decide +kernel) rfl (Or.inl rfl)) (λ_ _ _=>dA (aQ (r:=gb K true) cD (pv 0) (pv 1) rfl)) (λ_ _ _=>pv 0))
   (ag (hJ (i:=4) ["_law_place"] [1] Fz.nd rfl rfl rfl (bq (osc:=(ak jU).names) (N:=Mp) rfl rfl (by decide +kernel)) (bx (by decide)) (qr (pv 2))
     (λ_ _ _=>aD (i:=0) (show(["_law_place","_law_one"]:List Str).Nodup by decide +kernel) rfl (Or.inl rfl)) (λ_ _ _=>dA (aQ (r:=gb K true) cD (pv 0) (pv 1) rfl)) (λ_ _ _=>pv 0))
   (ag (bu (PW.pt (fG (aQ (ur (low 0 hr)) (pv 3) (bR ae) (aV _)) (fG (aQ (ur (low 0 hr)) (pv 4) (bR ae) (aV _)) (fh (aQ iW (ay aA (by rfl) T.len aax (aa (pv 3) ae)) (ay aA (by rfl) T.len aax (aa (pv 1) ae)) (aV _)))))) (ao (aI eZ)) aT)
   (ao (aI (bL iw (bV eE (ay aA (by rfl) T.len aax (aa (pv 1) ae)) (ay aA (by rfl) T.len aax (aa (pv 4) ae))) (ay aA (by rfl) T.len aax (aa (pv 0) ae)) (aV _)))))),?_⟩
  try rw[bw]
  refine⟨_,rfl,u,rfl,⟨_,aL.of hu⟩,HN (K:=K) (xs:=xs) (by omega) hu (λz=>!decide (z∈ys)) (λz H2 R _ s2 q=>?_) (λz H2 R q=>⟨_,rfl,q⟩) λD H2 s2 hD=>?_⟩
  ·refine⟨_,rfl,_,rfl,v,_,rfl,.inr (aL.of (s2 _ _ hv)),rfl,bf ys,_,rfl,?_⟩;simp only[aa4];rw[bU];exact q
  have s3:=s2.trans (ai (o:=.lst ((alone xs ys).map V.str)) hD);have lC:=af (H:=H2) (a:=D) (o:=.lst ((alone xs ys).map V.str));change kE _ _ _ _ (upd H2 D (.lst ((alone xs ys).map V.str)));generalize upd H2 D (.lst ((alone xs ys).map V.str))=H3 at s3 lC⊢;refine⟨_,rfl,v,rfl,⟨_,aL.of (s3 _ _ hv)⟩,HN (K:=K) (xs:=ys) (by omega) (s3 _ _ hv) (λz=>!decide (z∈xs)) (λz H4 R _ s4 q=>?_) (λz H4 R q=>⟨_,rfl,q⟩) λD2 H4 s4 RC=>?_⟩
  ·refine⟨_,rfl,_,rfl,u,_,rfl,.inr (aL.of (s4 _ _ (s3 _ _ hu))),rfl,bf xs,_,rfl,?_⟩;simp only[aa4];rw[bU];exact q
  have s5:=s3.trans (s4.trans (ai (o:=.lst ((alone ys xs).map V.str)) RC));have Mq:(upd H4 D2 (.lst ((alone ys xs).map V.str))) D=some (.lst ((alone xs ys).map V.str)):=(ai RC) _ _ (s4 _ _ lC);have RD:=af (H:=H4) (a:=D2) (o:=.lst ((alone ys xs).map V.str));change kE _ _ _ _ (upd H4 D2 (.lst ((alone ys xs).map V.str)));generalize upd H4 D2 (.lst ((alone ys xs).map V.str))=H5 at s5 Mq RD⊢;unfold gY at k;refine⟨_,rfl,(by decide),λe he=>⟨D,e,_,rfl,rfl,aj.of ((ai he) _ _ Mq),aj.of af,_,rfl,?_⟩⟩;have se:=ai (o:=.lst []) he;have s6:=s5.trans se;have RE:=se _ _ Mq;have Mr:=se _ _ RD;generalize upd H5 e (.lst [])=H6 at s6 RE Mr⊢;simp only[aaB,aa3];by_cases n1:alone xs ys=[]
  ·rw[n1,decide_eq_true (by rfl)];rw[n1,decide_eq_true rfl] at k;exact bo (show Q (.bl false) _ by simpa using k _ s6)
  have e1:decide ((alone xs ys).map V.str=[])=false:=aaz λz=>n1 (adf.mp z);rw[e1];rw[aaz n1] at k;refine aZ ⟨_,rfl,(by decide),λe2 RF=>⟨D2,e2,_,rfl,rfl,aj.of ((ai RF) _ _ Mr),aj.of af,_,rfl,?_⟩⟩;have Ms:=ai (o:=.lst []) RF;have s7:=s6.trans Ms;have RG:=Ms _ _ RE;have RH:=Ms _ _ Mr;generalize upd H6 e2 (.lst [])=H7 at s7 RG RH⊢;simp only[aaB,aa3];by_cases n2:alone ys xs=[]
  ·rw[n2,decide_eq_true (by rfl)];rw[n2,decide_eq_true rfl] at k;exact bo (show Q (.bl false) _ by simpa using k _ s7)
  have e2:decide ((alone ys xs).map V.str=[])=false:=aaz λz=>n2 (adf.mp z);rw[e2];rw[aaz n2] at k;refine aZ ⟨_,rfl,D,_,rfl,.inl (aj.of RG),_,rfl,u,_,rfl,.inr (aL.of (s7 _ _ hu)),rfl,_,rfl,?_⟩;rw[aak,aak];by_cases n3:(alone xs ys).length=xs.length
  ·rw[decide_eq_true n3] at k;refine cR (λ_=>show Q (.bl false) _ by simpa using k _ s7) (λz=>absurd z (by simp[n3]))
  ·rw[aaz n3] at k;refine cR (λz=>absurd z (by simp;omega)) (λ_=>?_);refine⟨_,rfl,u,_,rfl,.inr (aL.of (s7 _ _ hu)),_,rfl,D2,_,rfl,.inl (aj.of RH),_,_,rfl,rfl,_,rfl,a,_,rfl,.inl (aj.of (s7 _ _ ha)),_,_,rfl,rfl,?_⟩
   have:=k _ s7
   rw[aak,aak,aak];have ee:decide (((xs.length:Nat):Int)+(alone ys xs).length<ns.length)=decide (xs.length+(alone ys xs).length<ns.length):=by rw[decide_eq_decide];omega
   show Q (.bl (decide (((xs.length:Nat):Int)+(alone ys xs).length<ns.length))) _
   rw[ee];simpa using this
def vh(C:Addr):Sp:=λvs H Q _=>∃(x u v:Addr) (ms xs ys:List Str) (ps:List (Str×Str)),vs=[.ref x,.ref u,.ref v]/\a8 C H x ms ps/\ms.length<=12/\H u=some (.tup (xs.map V.str))/\H v=some (.tup (ys.map V.str)) /\
 ∀l H',H' l=some (.tup ((both (aF ms) xs ys).map V.str))->au H H'->Q (.ref l) H'
def vi(C:Addr):Sp:=λvs H Q _=>∃(x u v:Addr) (ms xs ys:List Str) (ps:List (Str×Str)),vs=[.ref x,.ref u,.ref v]/\a8 C H x ms ps/\ms.length<=12/\H u=some (.tup (xs.map V.str))/\H v=some (.tup (ys.map V.str)) /\
 ∀l H',H' l=some (.tup ((either (aF ms) xs ys).map V.str))->au H H'->Q (.ref l) H'
abbrev gK:List Str:=["web","places","others"]
theorem PF:aG gK gK (ak nX):=⟨rfl,rfl,rfl,by decide +kernel,rfl,by decide +kernel,by decide +kernel⟩
theorem PH:aG gK gK (ak nY):=⟨rfl,rfl,rfl,by decide +kernel,rfl,by decide +kernel,by decide +kernel⟩
variable {C fP fS:Addr}{fdP bJ:FuncData}
theorem wQ{f:Addr}{fd:FuncData}(F:a7 K "had_by_both" "had_by_both" nX f fd)(M:Mt K mg C fP fS fdP bJ)(T:bt mg):av P w K mg base aB 2 f fd gK (vh C):=by
 have GL:av P w K mg base aB 1 fP fdP ["self"] (jq C):=c9 M.pF M.wc T;refine F.ok PF (λvs H Q E h=>?_) (λcdv A outer s H vs Q E hr h=>?_)
 ·obtain⟨x,u,v,ms,xs,ys,ps,rfl,_⟩:=h;rfl
 ·obtain⟨x,u,v,ms,xs,ys,ps,rfl,hW,lm,hu,hv,k⟩:=h;refine⟨_,ao (aI (bp cH (by rfl) T.tuple aa5 (aa (cZ ["place"] [2,1] rfl (bq (osc:=(ak nX).names) (N:=gK) rfl rfl (by decide +kernel)) (bx (by decide)) (bg (cm (pv 0) M.wc.cl M.pM GL hr M.pB .nil ax))
   (λ_ _ _=>aD (i:=0) (show(["place","others","places"]:List Str).Nodup by decide +kernel) rfl (Or.inl rfl))
   (λ_ _ _=>dA (PW.pt (gO (aQ (r:=gb K false) cn (pv 0) (pv 2) rfl) (fE (aQ (r:=gb K false) cn (pv 0) (pv 1) rfl))))) (λ_ _ _=>pv 0)) ae))),?_⟩
  try rw[bw]
  obtain⟨d1,f1,q1,r1⟩:=hW.gA "places";refine⟨_,rfl,x,d1,f1,rfl,q1,r1,x,ms,ps,rfl,hW,λl hl=>⟨l,rfl,⟨_,aj.of af⟩,?_⟩⟩;have sl:=ai (o:=.lst ((aF ms).map V.str)) hl;refine A8 (K:=K) (xs:=aF ms) (by rw[cC];omega) af (λz=>decide (z∈xs)&&decide (z∈ys)) (λz H2 R _ s2 q=>?_) (λz H2 R q=>⟨_,rfl,q⟩) λD H2 s2 hD=>?_
  ·refine⟨_,rfl,_,rfl,u,_,rfl,.inr (aL.of (s2 _ _ (sl _ _ hu))),rfl,bf xs,_,rfl,?_⟩;simp only[aaB,aa3];rw[bU];by_cases h1:z∈xs
   ·rw[decide_eq_true h1] at q⊢;refine bo ⟨_,rfl,_,rfl,v,_,rfl,.inr (aL.of (s2 _ _ (sl _ _ hv))),rfl,bf ys,_,rfl,?_⟩;simp only[aaB,aa3];rw[bU];exact q
   ·rw[aaz h1] at q⊢;exact aZ q
  ·exact⟨D,_,rfl,.inl ⟨aj.of af,λl2 hl2=>k l2 _ af (sl.trans (s2.trans ((ai hD).trans (ai hl2))))⟩⟩
theorem wR{f:Addr}{fd:FuncData}(F:a7 K "had_by_one" "had_by_one" nY f fd)(M:Mt K mg C fP fS fdP bJ)(T:bt mg):av P w K mg base aB 2 f fd gK (vi C):=by
 have GL:av P w K mg base aB 1 fP fdP ["self"] (jq C):=c9 M.pF M.wc T;refine F.ok PH (λvs H Q E h=>?_) (λcdv A outer s H vs Q E hr h=>?_)
 ·obtain⟨x,u,v,ms,xs,ys,ps,rfl,_⟩:=h;rfl
 ·obtain⟨x,u,v,ms,xs,ys,ps,rfl,hW,lm,hu,hv,k⟩:=h;refine⟨_,ao (aI (bp cH (by rfl) T.tuple aa5 (aa (cZ ["place"] [2,1] rfl (bq (osc:=(ak nY).names) (N:=gK) rfl rfl (by decide +kernel)) (bx (by decide)) (bg (cm (pv 0) M.wc.cl M.pM GL hr M.pB .nil ax))
   (λ_ _ _=>aD (i:=0) (show(["place","others","places"]:List Str).Nodup by decide +kernel) rfl (Or.inl rfl))
   (λ_ _ _=>dA (PW.pt (fG (aQ (r:=gb K false) cn (pv 0) (pv 2) rfl) (fh (aQ (r:=gb K false) cn (pv 0) (pv 1) rfl))))) (λ_ _ _=>pv 0)) ae))),?_⟩
  try rw[bw]
  obtain⟨d1,f1,q1,r1⟩:=hW.gA "places";refine⟨_,rfl,x,d1,f1,rfl,q1,r1,x,ms,ps,rfl,hW,λl hl=>⟨l,rfl,⟨_,aj.of af⟩,?_⟩⟩;have sl:=ai (o:=.lst ((aF ms).map V.str)) hl;refine A8 (K:=K) (xs:=aF ms) (by rw[cC];omega) af (λz=>decide (z∈xs)||decide (z∈ys)) (λz H2 R _ s2 q=>?_) (λz H2 R q=>⟨_,rfl,q⟩) λD H2 s2 hD=>?_
  ·refine⟨_,rfl,_,rfl,u,_,rfl,.inr (aL.of (s2 _ _ (sl _ _ hu))),rfl,bf xs,_,rfl,?_⟩;simp only[aaB,aa3];rw[bU];by_cases h1:z∈xs
   ·rw[decide_eq_true h1] at q⊢;exact bo q
   ·rw[aaz h1] at q⊢;refine aZ ⟨_,rfl,_,rfl,v,_,rfl,.inr (aL.of (s2 _ _ (sl _ _ hv))),rfl,bf ys,_,rfl,?_⟩;simp only[aaB,aa3];rw[bU];exact q
  ·exact⟨D,_,rfl,.inl ⟨aj.of af,λl2 hl2=>k l2 _ af (sl.trans (s2.trans ((ai hD).trans (ai hl2))))⟩⟩
end
theorem wU{K:PySem.W.Frag}{H:Hp}{ns ms zs:List Str}{ps:List (Str×Str)}{u:Addr}(h:dw ns ps zs)(m:ms.Perm ns)(hu:H u=some (.tup (zs.map V.str))):Thing K H ms (.ref u) (some zs):=by
 refine .inr ⟨u,_,rfl,hu,λx hx=>?_,?_⟩
 ·obtain⟨z,_,rfl⟩:=aaN.mp hx;exact .inl ⟨z,rfl⟩
 ·unfold fH;have e:zs=aF (dist zs):=by rw[pS (mJ zs) h.aU.nd λx=>mK,h.aU.rise]
  have c1:1<=(zs.map V.str).length:=by rw[aak];exact ab2.mpr h.aU.some
  have c2:(zs.map V.str).length<ms.length:=by rw[aak,m.length_eq];exact h.less
  have c3:(zs.map V.str).all (gI ms)=true:=abE.mpr λx hx=>by
   obtain⟨z,hz,rfl⟩:=aaN.mp hx;show decide (z∈ms)=true
   exact decide_eq_true (m.mem_iff.mpr (h.aU.ins z hz))
  rw[if_pos ⟨c1,c2,c3,by rw[lH];exact e⟩,lH]
section
variable {P:Program}{w:World}{K:PySem.W.Frag}{mg:Str->Option Value}{base:Heap}
variable {C fP fS fA eJ dQ:Addr}{fdP bJ cO cX cK:FuncData}
def wV(C:Addr):Sp:=λvs H Q _=>∃(x:Addr) (ns:List Str) (ps:List (Str×Str)) (y:V) (zs:List Str),vs=[.ref x,y]/\a8 C H x ns ps/\GoodW ns ps/\Thing K H ns y (some zs)/\closed ps zs=true/\∀H',au H H'->Q .bz H'
theorem zg{f:Addr}{fd:FuncData}(F:a7 K "check_cut" "check_cut" oH f fd)(D:Cd K mg C fP fS fA eJ dQ fdP bJ cO cX cK)(T:bt mg):av P w K mg base aB 4 f fd ["web","cut"] (wV (K:=K) C):=by
 have GC:av P w K mg base aB 3 dQ cK ["web","thing"] (y' (K:=K) C):=Ft D.c.fn D T;refine F.ok UR (λvs H Q E h=>?_) (λcdv A outer s H vs Q E hr h=>?_)
 ·obtain⟨x,ns,ps,y,zs,rfl,_⟩:=h;rfl
 ·obtain⟨x,ns,ps,y,zs,rfl,hW,g,th,cl,k⟩:=h;refine⟨_,ao (bu (bO (bG (ar GC hr rfl D.c.aK D.c.fn.kp D.c.b .nil ax (aa (pv 0) (aa (pv 1) ae))) (λ_=>rfl))) (ao cN) aT),?_⟩;try rw[bw]
  refine⟨_,rfl,_,rfl,x,ns,ps,y,_,rfl,hW,g,th,λH1 s1=>⟨_,rfl,?_⟩⟩;rw[show L5 ps (some zs)=true from cl];exact aZ (k _ s1)
def Dl(C:Addr):Sp:=λvs H Q _=>∃(x:Addr) (ns:List Str) (ps:List (Str×Str)) (y:V) (zs:List Str),vs=[.ref x,y]/\a8 C H x ns ps/\GoodW ns ps/\Thing K H ns y (some zs)/\closed ps zs=true /\
 ∀(l:Addr) (H':Hp),H l=none->H' l=some (.lst ((c6 ps zs ps.length).map λ(k:Nat)=>V.int k))->au H H'->Q (.ref l) H'
theorem JM{f gB:Addr}{fd dN:FuncData}(F:a7 K "ties_of" "ties_of" jE f fd)(D:Cd K mg C fP fS fA eJ dQ fdP bJ cO cX cK)(DC:Df K mg "check_cut" oH ["web","cut"] gB dN)(T:bt mg):av P w K mg base aB 5 f fd ["web","cut"] (Dl (K:=K) C):=by
 have GC:av P w K mg base aB 4 gB dN ["web","cut"] (wV (K:=K) C):=zg DC.fn D T;have GT:av P w K mg base aB 1 fS bJ ["self"] (AO C):=si D.m.sF D.m.wc T;refine F.ok US (λvs H Q E h=>?_) (λcdv A outer s H vs Q E hr h=>?_)
 ·obtain⟨x,ns,ps,y,zs,rfl,_⟩:=h;rfl
 ·obtain⟨x,ns,ps,y,zs,rfl,hW,g,th,cl,k⟩:=h;have h1:=hr.mono (j:=1) (by decide);refine⟨_,ag (aW (ar GC hr rfl DC.aK DC.fn.kp DC.b .nil ax (aa (pv 0) (aa (pv 1) ae))))
   (ao (aI (cZ ["k","a","b"] [1] rfl (bq (osc:=(ak jE).names) (N:=["web","cut"]) rfl rfl (by decide +kernel)) (AZ (K:=K) (k:=2) (l:=2) (by decide) (by decide) (by decide)) (sr rfl D.g.enum (aa (cm (pv 0) D.m.wc.cl D.m.sM GT h1 D.m.sB .nil ax) ae))
    (λ_ _ _=>cI rfl (aO (aD (i:=0) (show(["k","a","b","cut"]:List Str).Nodup by decide +kernel) rfl (Or.inl rfl)) (aO (cI rfl (aO (aD (i:=1) (show(["k","a","b","cut"]:List Str).Nodup by decide +kernel) rfl (Or.inl rfl)) (aO (aD (i:=2) (show(["k","a","b","cut"]:List Str).Nodup by decide +kernel) rfl (Or.inl rfl)) cg))) cg)))
    (λ_ _ _=>dA (PW.pt (gO (aQ (r:=gb K true) cD (pv 1) (pv 3) rfl) (fE (aQ (r:=gb K false) cn (pv 2) (pv 3) rfl)))))
    (λ_ _ _=>pv 0)))),?_⟩
  try rw[bw]
  refine⟨_,rfl,_,rfl,x,ns,ps,y,zs,rfl,hW,g,th,cl,λH1 s1=>?_⟩;have pt:=(th.same s1).part;obtain⟨u,rfl,hu⟩:=pt.tup;have W2:=hW.same s1;obtain⟨d2,f2,q2,r2⟩:=W2.gA "ties";refine⟨_,rfl,x,d2,f2,rfl,q2,r2,x,ns,ps,rfl,W2,λl2 us hl2 hU=>⟨l2,rfl,⟨_,aj.of af⟩,?_⟩⟩;have s3:=ai (o:=.lst (us.map V.ref)) hl2;have jy:=af (H:=H1) (a:=l2) (o:=.lst (us.map V.ref));generalize upd H1 l2 (.lst (us.map V.ref))=H3 at s3 jy⊢;have hU3:=hU.same s3;have uz:=s3 _ _ hu;have le:(us.map V.ref).length=ps.length:=by rw[aak,hU.len]
  refine JG (K:=K) (xs:=us.map V.ref) (λi ys H4=>au H3 H4/\ys=(c6 ps zs i).map λ(k:Nat)=>V.int k) ⟨au.refl _,rfl⟩ ?_ ?_ ?_ ?_
  ·rintro i ys H4 hi ⟨_,rfl⟩;rw[aak];rw[le] at hi;exact aap (CZ ps zs i) (aap hi (aap g.aJ (by decide)))
  ·rintro i ys H4 _ ⟨s4,_⟩;exact aj.of (s4 _ _ jy)
  ·rintro i v ys H4 qn R hv ⟨s4,rfl⟩ XH kR;rw[aaq] at hv;obtain⟨t,et,rfl⟩:=aar.mp hv;obtain⟨p,ep,ht⟩:=hU3.get et;have s5:=s4.trans (ai (o:=.tup [.int i,.ref t]) XH);have gJ:=af (H:=H4) (a:=qn) (o:=.tup [.int i,.ref t]);generalize upd H4 qn (.tup [.int i,.ref t])=H5 at s5 gJ⊢;have fin:=A0 (zs:=zs) ep;refine⟨qn,_,rfl,aL.of gJ,rfl,_,_,rfl,_,_,rfl,⟨t,_,rfl,aL.of (s5 _ _ ht),rfl,_,_,rfl,_,_,rfl,rfl,rfl,?_⟩⟩;refine⟨_,rfl,_,rfl,u,_,rfl,.inr (aL.of (s5 _ _ uz)),rfl,bf zs,_,rfl,?_⟩;simp only[aa4];rw[bU];by_cases hp:p.1∈zs
   ·rw[decide_eq_true hp] at fin⊢;refine aZ ?_;simp only[aaB,aa3];exact kR _ _ ⟨s5,by rw[fin];simp⟩
   ·rw[aaz hp] at fin⊢;refine bo ⟨_,rfl,_,rfl,u,_,rfl,.inr (aL.of (s5 _ _ uz)),rfl,bf zs,_,rfl,?_⟩;simp only[aaB,aa3];rw[bU];by_cases gR:p.2∈zs
    ·rw[decide_eq_true gR] at fin⊢;exact bo ⟨_,rfl,kR _ _ ⟨s5,by rw[fin];simp⟩⟩
    ·rw[aaz gR] at fin⊢;exact aZ (kR _ _ ⟨s5,by rw[fin];simp⟩)
  ·rintro ys H4 ⟨s4,rfl⟩ D4 nG;rw[le];have s14:=s1.trans (s3.trans s4);exact k D4 _ (s14.free nG) af (s14.trans (ai nG))
end
section
variable {P:Program}{w:World}{K:PySem.W.Frag}{mg:Str->Option Value}{base:Heap}
variable {C fP fS fA eJ dQ fB fO fR gB fF:Addr}{fdP bJ cO cX cK fI fJ gC dN eU:FuncData}
def qZ(C:Addr):Sp:=λvs H Q _=>∃(x u v:Addr) (ms xs ys:List Str) (ps:List (Str×Str)),vs=[.ref x,.ref u,.ref v]/\a8 C H x ms ps/\ms.length<=12/\H u=some (.tup (xs.map V.str))/\H v=some (.tup (ys.map V.str)) /\
 ∀H',au H H'->Q (.bl (bS (aF ms) xs ys)) H'
abbrev XI:List Str:=["web","cut","other","inner","outer"]
theorem FC:aG XI ["web","cut","other"] (ak wO):=⟨rfl,rfl,rfl,by decide +kernel,rfl,by decide +kernel,by decide +kernel⟩
theorem q0{f:Addr}{fd:FuncData}(F:a7 K "are_crossing" "are_crossing" wO f fd)(M:Mt K mg C fP fS fdP bJ)(DB:Df K mg "had_by_both" nX gK fB fI)(DO:Df K mg "had_by_one" nY gK fO fJ)(T:bt mg):av P w K mg base aB 3 f fd ["web","cut","other"] (qZ C):=by
 have GL:av P w K mg base aB 1 fP fdP ["self"] (jq C):=c9 M.pF M.wc T;have GB:av P w K mg base aB 2 fB fI gK (vh C):=wQ DB.fn M T;have GO:av P w K mg base aB 2 fO fJ gK (vi C):=wR DO.fn M T;refine F.ok FC (λvs H Q E h=>?_) (λcdv A outer s H vs Q E hr h=>?_)
 ·obtain⟨x,u,v,ms,xs,ys,ps,rfl,_⟩:=h;rfl
 ·obtain⟨x,u,v,ms,xs,ys,ps,rfl,hW,lm,hu,hv,k⟩:=h;have h1:=hr.mono (j:=1) (by decide);refine⟨_,ag (aN (i:=3) FC.nd rfl (Or.inl rfl) (ay aA (by rfl) T.len aax (aa (ar GB hr rfl DB.aK DB.fn.kp DB.b .nil ax (aa (pv 0) (aa (pv 1) (aa (pv 2) ae)))) ae)))
   (ag (aN (i:=4) FC.nd rfl (Or.inl rfl) (ay aA (by rfl) T.len aax (aa (ar GO hr rfl DO.aK DO.fn.kp DO.b .nil ax (aa (pv 0) (aa (pv 1) (aa (pv 2) ae)))) ae)))
   (ao (aI (eD (md jB iw aE (pv 3) (ay (tU rfl) (by rfl) T.min boot_min (aa (ay aA (by rfl) T.len aax (aa (pv 1) ae)) (aa (ay aA (by rfl) T.len aax (aa (pv 2) ae)) ae))))
    (eC (bL iw (pv 4) (ay aA (by rfl) T.len aax (aa (cm (pv 0) M.wc.cl M.pM GL h1 M.pB .nil ax) ae)) (aV _))))))),?_⟩
  try rw[bw]
  refine⟨_,rfl,_,rfl,_,rfl,x,u,v,ms,xs,ys,ps,rfl,hW,lm,hu,hv,λl1 H1 iG s1=>⟨l1,_,rfl,.inr (aL.of iG),?_⟩⟩;refine⟨_,rfl,_,rfl,_,rfl,x,u,v,ms,xs,ys,ps,rfl,hW.same s1,lm,s1 _ _ hu,s1 _ _ hv,λl2 H2 hl2 s2=>⟨l2,_,rfl,.inr (aL.of hl2),?_⟩⟩;have s02:=s1.trans s2;rw[aak,aak];refine⟨_,rfl,_,_,rfl,rfl,_,rfl,?_⟩;unfold bS at k;refine cR (λh1=>?_) (λh1=>?_)
  ·have e1:1<=(both (aF ms) xs ys).length:=by have:=abZ h1;omega
   refine⟨_,rfl,u,_,rfl,.inr (aL.of (s02 _ _ hu)),_,rfl,v,_,rfl,.inr (aL.of (s02 _ _ hv)),_,_,rfl,_,_,rfl,rfl,_,rfl,?_⟩;rw[aak,aak];have e2:decide (((both (aF ms) xs ys).length:Int)<if ((ys.length:Nat):Int)<(xs.length:Nat) then ((ys.length:Nat):Int) else (xs.length:Nat))=decide ((both (aF ms) xs ys).length<min xs.length ys.length):=by rw[decide_eq_decide];split<;>omega
   rw[e2];rw[decide_eq_true e1] at k;by_cases e3:(both (aF ms) xs ys).length<min xs.length ys.length
   ·rw[decide_eq_true e3] at k⊢;have W2:=hW.same s02;obtain⟨d1,f1,q1,r1⟩:=W2.gA "places";refine bo ⟨_,rfl,_,rfl,x,d1,f1,rfl,q1,r1,x,ms,ps,rfl,W2,λl hl=>⟨l,_,rfl,.inl (aj.of af),_,_,rfl,rfl,?_⟩⟩;rw[aak];have e4:decide (((either (aF ms) xs ys).length:Int)<((aF ms).length:Nat))=decide ((either (aF ms) xs ys).length<(aF ms).length):=by rw[decide_eq_decide];omega
    show Q (.bl (decide (((either (aF ms) xs ys).length:Int)<((aF ms).length:Nat)))) _
    rw[e4];simpa using k _ (s02.trans (ai hl))
   ·rw[aaz e3] at k⊢;exact aZ (show Q (.bl false) _ by simpa using k _ s02)
  ·have e1:¬ 1<=(both (aF ms) xs ys).length:=λz=>h1 (decide_eq_true (by omega));rw[aaz e1] at k;exact⟨_,rfl,aZ (by simpa using k _ s02)⟩
def iJ(C:Addr):Sp:=λvs H Q _=>∃(x l:Addr) (ns ms:List Str) (ps:List (Str×Str)) (us:List Addr) (zss:List (List Str)),vs=[.ref x,.ref l]/\a8 C H x ms ps/\ms.Perm ns/\GoodW ms ps/\H l=some (.lst (us.map V.ref))/\aP H us zss/\(∀zs∈zss,dw ns ps zs)/\∀H',au H H'->Q .bz H'
abbrev XJ:List Str:=["web","family","cut"]
theorem Mu:aG XJ ["web","family"] (ak qW):=⟨rfl,rfl,rfl,by decide +kernel,rfl,by decide +kernel,by decide +kernel⟩
theorem ik{f:Addr}{fd:FuncData}(F:a7 K "check_family" "check_family" qW f fd)(D:Cd K mg C fP fS fA eJ dQ fdP bJ cO cX cK)(DC:Df K mg "check_cut" oH ["web","cut"] gB dN)(T:bt mg):av P w K mg base aB 5 f fd ["web","family"] (iJ C):=by
 have GC:av P w K mg base aB 4 gB dN ["web","cut"] (wV (K:=K) C):=zg DC.fn D T;refine F.ok Mu (λvs H Q E h=>?_) (λcdv A outer s H vs Q E hr h=>?_)
 ·obtain⟨x,l,ns,ms,ps,us,zss,rfl,_⟩:=h;rfl
 ·obtain⟨x,l,ns,ms,ps,us,zss,rfl,hW,pm,g,hl,hC,all,k⟩:=h;refine⟨_,ag (bu (bO (bG (ay (bQ (T:="list")) (by rfl) T.dW abm (aa (pv 1) (aa (dg (v:=.ty "list") rfl T.list aa1 rfl) ae))) (λ_=>rfl))) (ao cN) aT)
   (ao (cJ aaW rfl (bg (pv 1)) (aD (i:=2) Mu.nd rfl (Or.inl rfl)) (ao (aW (ar GC hr rfl DC.aK DC.fn.kp DC.b .nil ax (aa (pv 0) (aa (pv 2) ae))))))),?_⟩
  try rw[bw]
  refine⟨_,rfl,_,_,true,rfl,.lst hl,rfl,_,rfl,?_⟩;refine aZ ⟨_,rfl,l,rfl,⟨_,aj.of hl⟩,fb (K:=K) (xs:=us.map V.ref) (λ_ σ H3=>(∃v2,σ=[some (.ref x),some (.ref l),v2])/\au H H3) ⟨⟨_,rfl⟩,au.refl _⟩ ?_ ?_ ?_⟩
  ·rintro j σ H3 _ ⟨_,s3⟩;exact aj.of (s3 _ _ hl)
  ·rintro j y σ H3 hy ⟨⟨v2,rfl⟩,s3⟩;rw[aaq] at hy;obtain⟨u,eu,rfl⟩:=aar.mp hy;obtain⟨zs,ez,hu⟩:=(hC.same s3).get eu;have ic:=all zs (aat ez);exact⟨_,rfl,_,rfl,x,ms,ps,_,zs,rfl,hW.same s3,g,wU ic pm hu,ic.aU.aU,λH4 s4=>⟨⟨_,rfl⟩,s3.trans s4⟩⟩
  ·rintro σ H3 ⟨_,s3⟩;exact k _ s3
structure Xd(K:PySem.W.Frag)(mg:Str->Option Value)(C fP fS fA eJ dQ fB fO fR gB fF:Addr)(fdP bJ cO cX cK fI fJ gC dN eU:FuncData):Prop where
 cd:Cd K mg C fP fS fA eJ dQ fdP bJ cO cX cK
 b:Df K mg "had_by_both" nX gK fB fI
 o:Df K mg "had_by_one" nY gK fO fJ
 r:Df K mg "are_crossing" wO ["web","cut","other"] fR gC
 cc:Df K mg "check_cut" oH ["web","cut"] gB dN
 f:Df K mg "check_family" qW ["web","family"] fF eU
def RI(C:Addr)(H:Hp)(x u v:Addr)(ns ms xs ys:List Str)(ps:List (Str×Str)):Prop:=a8 C H x ms ps/\ms.Perm ns/\GoodW ms ps/\H u=some (.tup (xs.map V.str))/\H v=some (.tup (ys.map V.str))/\dw ns ps xs/\dw ns ps ys
def zh(C:Addr)(fin:List Str->List Str->List Str->Addr->Hp->V->Hp->Prop):Sp:=λvs H Q _=>∃(x u v:Addr) (ns ms xs ys:List Str) (ps:List (Str×Str)),vs=[.ref x,.ref u,.ref v]/\RI C H x u v ns ms xs ys ps/\∀r l H',au H H'->fin (aF ms) xs ys l H r H'->Q r H'
theorem UY:aG ["web","cut","other"] ["web","cut","other"] (ak lJ):=⟨rfl,rfl,rfl,by decide +kernel,rfl,by decide +kernel,by decide +kernel⟩
theorem UZ:aG ["web","cut","other"] ["web","cut","other"] (ak qX):=⟨rfl,rfl,rfl,by decide +kernel,rfl,by decide +kernel,by decide +kernel⟩
theorem U1:aG ["web","cut","other"] ["web","cut","other"] (ak qY):=⟨rfl,rfl,rfl,by decide +kernel,rfl,by decide +kernel,by decide +kernel⟩
theorem FD{f:Addr}{fd:FuncData}(F:a7 K "cross" "cross" lJ f fd)(D:Xd K mg C fP fS fA eJ dQ fB fO fR gB fF fdP bJ cO cX cK fI fJ gC dN eU)(T:bt mg):av P w K mg base aB 6 f fd ["web","cut","other"] (zh C λns xs ys _ _ r _=>r=.bl (bS ns xs ys)):=by
 have GF:av P w K mg base aB 5 fF eU ["web","family"] (iJ C):=ik D.f.fn D.cd D.cc T;have GR:av P w K mg base aB 3 fR gC ["web","cut","other"] (qZ C):=q0 D.r.fn D.cd.m D.b D.o T;refine F.ok UY (λvs H Q E h=>?_) (λcdv A outer s H vs Q E hr h=>?_)
 ·obtain⟨x,u,v,ns,ms,xs,ys,ps,rfl,_⟩:=h;rfl
 ·obtain⟨x,u,v,ns,ms,xs,ys,ps,rfl,⟨hW,pm,g,hu,hv,ix,iy⟩,k⟩:=h;have h3:=hr.mono (j:=3) (by decide);refine⟨_,ag (aW (ar GF hr rfl D.f.aK D.f.fn.kp D.f.b .nil ax (aa (pv 0) (aa (bR (aa (pv 1) (aa (pv 2) ae))) ae))))
   (ao (aI (ar GR h3 rfl D.r.aK D.r.fn.kp D.r.b .nil ax (aa (pv 0) (aa (pv 1) (aa (pv 2) ae)))))),?_⟩
  try rw[bw]
  refine⟨_,rfl,_,rfl,_,rfl,(by show 2<=sizeLine;decide),λl hl=>?_⟩;have sl:=ai (o:=.lst [.ref u,.ref v]) hl;refine⟨x,l,ns,ms,ps,[u,v],[xs,ys],rfl,hW.same sl,pm,g,af,.cons (sl _ _ hu) (.cons (sl _ _ hv) .nil),(λzs hz=>?_),λH1 s1=>?_⟩
  ·rcases aav.mp hz with e|e
   ·rw[e];exact ix
   ·rw[aaA.mp e];exact iy
  ·have s2:=sl.trans s1;exact⟨_,rfl,_,rfl,_,rfl,x,u,v,ms,xs,ys,ps,rfl,hW.same s2,g.good.aJ,s2 _ _ hu,s2 _ _ hv,λH2 s3=>k _ 0 _ (s2.trans s3) rfl⟩
end
def bump(fs:List Nat)(k:Nat):List Nat:=fs.set k (fs.getD k 0+1)
theorem wW(fs:List Nat)(k:Nat):(bump fs k).length=fs.length:=aff
theorem kq:∀(rs fs:List Nat),(rs.foldl bump fs).length=fs.length
 |[],_=>rfl
 |r::rs,fs=>by rw[abV,kq rs,wW]
theorem FE{fs:List Nat}{k m:Nat}(hk:k<fs.length):(bump fs k).getD m 0=fs.getD m 0+(if k=m then 1 else 0):=by
 unfold bump;rw[abS,List.getElem?_set,abS];by_cases e:k=m
 ·subst e;rw[if_pos rfl,if_pos hk,if_pos rfl];simp
 ·rw[if_neg e,if_neg e,afV,abS]
theorem uD:∀{rs fs:List Nat} {m:Nat},(∀k∈rs,k<fs.length)->(rs.foldl bump fs).getD m 0=fs.getD m 0+rs.count m
 |[],_,_,_=>rfl
 |r::rs,fs,m,h=>by
  rw[abV,uD (λk hk=>by rw[wW];exact h k (aaw _ hk)),FE (h r aau),List.count_cons];by_cases e:r=m
  ·subst e;simp;omega
  ·rw[if_neg e,if_neg (by simpa using e)];omega
theorem getD_at{l:List Nat}{m:Nat}(h:m<l.length):l.getD m 0=l[m]:=by simp[abS,h]
def mN(p:Str×Str)(zs:List Str):Bool:=!decide (p.1∈zs)&&decide (p.2∈zs)
def ent(ps:List (Str×Str))(zss:List (List Str)):List Nat:=ps.map λp=>zss.countP (mN p)
theorem FF(ps:List (Str×Str))(zs:List Str)(n:Nat):(c6 ps zs n).Nodup:=acy.filter _
theorem kr{ps:List (Str×Str)}{zs:List Str}{k:Nat}:k∈c6 ps zs ps.length ↔ ∃p,ps[k]?=some p/\mN p zs=true:=by
 unfold c6;rw[aaU,abl];constructor
 ·rintro⟨hk,h⟩;have e:ps[k]?=some ps[k]:=by simp[hk]
  rw[e] at h;exact⟨_,e,h⟩
 ·rintro⟨p,e,h⟩;refine⟨(aaH.mp e).1,?_⟩;rw[e];exact h
theorem FG(ps:List (Str×Str))(zss:List (List Str))(zs:List Str):ent ps (zss++[zs])=(c6 ps zs ps.length).foldl bump (ent ps zss):=by
 have l1:(ent ps zss).length=ps.length:=aak ..;have hr:∀k∈c6 ps zs ps.length,k<(ent ps zss).length:=λk hk=>by obtain⟨p,e,_⟩:=kr.mp hk;rw[l1];exact(aaH.mp e).1
 refine List.ext_getElem (by rw[kq,l1];exact aak ..) λm h1 h2=>?_;have hm:m<ps.length:=by rw[kq,l1] at h2;exact h2
 have g:=uD (m:=m) hr;rw[getD_at h2,getD_at (by rw[l1];exact hm)] at g;rw[g];have e:ps[m]?=some ps[m]:=by simp[hm]
 simp only[ent,List.getElem_map,List.countP_append];congr 1;rw[ack,adU,ab4];by_cases q:mN ps[m] zs=true
 ·rw[if_pos q];have hc:m∈c6 ps zs ps.length:=kr.mpr ⟨_,e,q⟩;have a:=List.nodup_iff_count.mp (FF ps zs ps.length) m;have b:=List.count_pos_iff.mpr hc;omega
 ·rw[if_neg q];symm
  exact List.count_eq_zero.mpr λz=>by obtain⟨p,e2,q2⟩:=kr.mp z;rw[e] at e2;cases e2;exact q q2
end dJ
namespace L2
open PySem PySem.Spec PyProof.Rows
def PJ(K:PySem.W.Frag):V->V->Hp->VK->Prop:=λo i H Q=>∃(p:Addr) (xs:List V) (k:Nat) (v:V),o=.ref p/\i=.int k/\aj K H p xs/\xs[k]?=some v/\Q v H
theorem FH{X:Cx}{K:PySem.W.Frag}(hK:X.K=K:=by rfl):K7 X (PJ K):=by subst hK;rintro pins s σ H o i ov iv Q I ro ri ⟨p,xs,k,z,rfl,rfl,hq,he,q⟩;cases ro;obtain⟨t,rfl⟩:=ri;obtain⟨its,r,pl,hz⟩:=I.list hq;obtain⟨w,ew,jI⟩:=r.get he;have hl:=r.length;have hn:=i4;have hk:k<xs.length:=(aaH.mp he).1;exact wpAny_getItem_list pl.isList (by omega) (by omega) (by simpa using ew) ⟨z,H,I,jI,q⟩
end L2
namespace dJ
open PySem PySem.Spec PyProof.Rows L2
section
variable {P:Program}{w:World}{K:PySem.W.Frag}{mg:Str->Option Value}{base:Heap}
variable {C fP fS fA eJ dQ fB fO fR gB fF fM fT:Addr}{fdP bJ cO cX cK fI fJ gC dN eU fdM uv:FuncData}
theorem zk{ns xs ys:List Str}{ps:List (Str×Str)}(ix:dw ns ps xs)(iy:dw ns ps ys):∀zs∈[xs,ys],dw ns ps zs:=λzs hz=>by
 rcases aav.mp hz with e|e
 ·rw[e];exact ix
 ·rw[aaA.mp e];exact iy
theorem JN{f:Addr}{fd:FuncData}(F:a7 K "meet" "meet" qX f fd)(D:Xd K mg C fP fS fA eJ dQ fB fO fR gB fF fdP bJ cO cX cK fI fJ gC dN eU)(T:bt mg):av P w K mg base aB 6 f fd ["web","cut","other"] (zh C λns xs ys l _ r H'=>r=.ref l/\H' l=some (.tup ((both ns xs ys).map V.str))):=by
 have GF:av P w K mg base aB 5 fF eU ["web","family"] (iJ C):=ik D.f.fn D.cd D.cc T;have GB:av P w K mg base aB 2 fB fI gK (vh C):=wQ D.b.fn D.cd.m T;refine F.ok UZ (λvs H Q E h=>?_) (λcdv A outer s H vs Q E hr h=>?_)
 ·obtain⟨x,u,v,ns,ms,xs,ys,ps,rfl,_⟩:=h;rfl
 ·obtain⟨x,u,v,ns,ms,xs,ys,ps,rfl,⟨hW,pm,g,hu,hv,ix,iy⟩,k⟩:=h;have h2:=hr.mono (j:=2) (by decide);refine⟨_,ag (aW (ar GF hr rfl D.f.aK D.f.fn.kp D.f.b .nil ax (aa (pv 0) (aa (bR (aa (pv 1) (aa (pv 2) ae))) ae))))
   (ao (aI (ar GB h2 rfl D.b.aK D.b.fn.kp D.b.b .nil ax (aa (pv 0) (aa (pv 1) (aa (pv 2) ae)))))),?_⟩
  try rw[bw]
  refine⟨_,rfl,_,rfl,_,rfl,(by show 2<=sizeLine;decide),λl hl=>?_⟩;have sl:=ai (o:=.lst [.ref u,.ref v]) hl;refine⟨x,l,ns,ms,ps,[u,v],[xs,ys],rfl,hW.same sl,pm,g,af,.cons (sl _ _ hu) (.cons (sl _ _ hv) .nil),zk ix iy,λH1 s1=>?_⟩;have s2:=sl.trans s1;exact⟨_,rfl,_,rfl,_,rfl,x,u,v,ms,xs,ys,ps,rfl,hW.same s2,g.good.aJ,s2 _ _ hu,s2 _ _ hv,λl2 H2 hl2 s3=>k _ l2 _ (s2.trans s3) ⟨rfl,hl2⟩⟩
theorem JO{f:Addr}{fd:FuncData}(F:a7 K "join" "join" qY f fd)(D:Xd K mg C fP fS fA eJ dQ fB fO fR gB fF fdP bJ cO cX cK fI fJ gC dN eU)(T:bt mg):av P w K mg base aB 6 f fd ["web","cut","other"] (zh C λns xs ys l _ r H'=>r=.ref l/\H' l=some (.tup ((either ns xs ys).map V.str))):=by
 have GF:av P w K mg base aB 5 fF eU ["web","family"] (iJ C):=ik D.f.fn D.cd D.cc T;have GO:av P w K mg base aB 2 fO fJ gK (vi C):=wR D.o.fn D.cd.m T;refine F.ok U1 (λvs H Q E h=>?_) (λcdv A outer s H vs Q E hr h=>?_)
 ·obtain⟨x,u,v,ns,ms,xs,ys,ps,rfl,_⟩:=h;rfl
 ·obtain⟨x,u,v,ns,ms,xs,ys,ps,rfl,⟨hW,pm,g,hu,hv,ix,iy⟩,k⟩:=h;have h2:=hr.mono (j:=2) (by decide);refine⟨_,ag (aW (ar GF hr rfl D.f.aK D.f.fn.kp D.f.b .nil ax (aa (pv 0) (aa (bR (aa (pv 1) (aa (pv 2) ae))) ae))))
   (ao (aI (ar GO h2 rfl D.o.aK D.o.fn.kp D.o.b .nil ax (aa (pv 0) (aa (pv 1) (aa (pv 2) ae)))))),?_⟩
  try rw[bw]
  refine⟨_,rfl,_,rfl,_,rfl,(by show 2<=sizeLine;decide),λl hl=>?_⟩;have sl:=ai (o:=.lst [.ref u,.ref v]) hl;refine⟨x,l,ns,ms,ps,[u,v],[xs,ys],rfl,hW.same sl,pm,g,af,.cons (sl _ _ hu) (.cons (sl _ _ hv) .nil),zk ix iy,λH1 s1=>?_⟩;have s2:=sl.trans s1;exact⟨_,rfl,_,rfl,_,rfl,x,u,v,ms,xs,ys,ps,rfl,hW.same s2,g.good.aJ,s2 _ _ hu,s2 _ _ hv,λl2 H2 hl2 s3=>k _ l2 _ (s2.trans s3) ⟨rfl,hl2⟩⟩
end
abbrev wX:Stmt:=top 42 -- Wc
abbrev uE(ns:List Nat):List V:=ns.map λ(n:Nat)=>V.int n
theorem JP(ps:List (Str×Str)):ent ps []=List.replicate ps.length 0:=by unfold ent;simp only[adU];exact List.map_const' ..
theorem JQ(ps:List (Str×Str))(zss:List (List Str)):(ent ps zss).length=ps.length:=aak ..
theorem sI{n k:Nat}(h:k<n):nr n (k:Int)=some k:=by unfold nr;rw[if_pos (by omega),if_pos (by omega),ab0]
section
variable {P:Program}{w:World}{K:PySem.W.Frag}{mg:Str->Option Value}{base:Heap}
variable {C fP fS fA eJ dQ fB fO fR gB fF fM fT:Addr}{fdP bJ cO cX cK fI fJ gC dN eU fdM uv:FuncData}
def Mv(C:Addr)(H:Hp)(x l:Addr)(ns ms:List Str)(ps:List (Str×Str))(us:List Addr)(zss:List (List Str)):Prop:=
 a8 C H x ms ps/\ms.Perm ns/\GoodW ms ps/\H l=some (.lst (us.map V.ref))/\aP H us zss/\∀zs∈zss,dw ns ps zs
def HP(C:Addr):Sp:=λvs H Q _=>∃(x l:Addr) (ns ms:List Str) (ps:List (Str×Str)) (us:List Addr) (zss:List (List Str)),vs=[.ref x,.ref l]/\Mv C H x l ns ms ps us zss /\
 ∀q H',H q=none->H' q=some (.lst (uE (ent ps zss)))->au H H'->Q (.ref q) H'
abbrev XM:List Str:=["web","family","found","cut","k"]
theorem A9:aG XM ["web","family"] (ak wX):=⟨rfl,rfl,rfl,by decide +kernel,rfl,by decide +kernel,by decide +kernel⟩
structure Md(K:PySem.W.Frag)(C fM:Addr)(fdM:FuncData):Prop where
 f:a7 K "many" "Web.many" ve fM fdM
 m:Meth K C "many" fM
 b:Binds K fdM ["self"] []
theorem Mw{f:Addr}{fd:FuncData}(F:a7 K "entered" "entered" wX f fd)(D:Xd K mg C fP fS fA eJ dQ fB fO fR gB fF fdP bJ cO cX cK fI fJ gC dN eU)(DM:Md K C fM fdM)(DT:Df K mg "ties_of" jE ["web","cut"] fT uv)(T:bt mg):av P w K mg base aB 6 f fd ["web","family"] (HP C):=by
 have GF:av P w K mg base aB 5 fF eU ["web","family"] (iJ C):=ik D.f.fn D.cd D.cc T;have GT:av P w K mg base aB 5 fT uv ["web","cut"] (Dl (K:=K) C):=JM DT.fn D.cd D.cc T;have GM:av P w K mg base aB 1 fM fdM ["self"] (LK C):=JA DM.f D.cd.m.wc T;refine F.ok A9 (λvs H Q E h=>?_) (λcdv A outer s H vs Q E hr h=>?_)
 ·obtain⟨x,l,ns,ms,ps,us,zss,rfl,_⟩:=h;rfl
 ·obtain⟨x,l,ns,ms,ps,us,zss,rfl,⟨hW,pm,g,hl,hC,all⟩,k⟩:=h;have h1:=hr.mono (j:=1) (by decide);refine⟨_,ag (aW (ar GF hr rfl D.f.aK D.f.fn.kp D.f.b .nil ax (aa (pv 0) (aa (pv 1) ae))))
   (ag (aN (i:=2) A9.nd rfl (Or.inl rfl) (bV Lr (bR (aa aE ae)) (cm (pv 0) D.cd.m.wc.cl DM.m GM h1 DM.b .nil ax)))
   (ag (cJ aaW rfl (bg (pv 1)) (aD (i:=3) A9.nd rfl (Or.inl rfl))
    (ao (cJ aaW rfl (bg (ar GT hr rfl DT.aK DT.fn.kp DT.b .nil ax (aa (pv 0) (aa (pv 3) ae)))) (aD (i:=4) A9.nd rfl (Or.inl rfl))
     (ao (Jb (pv 2) (pv 4) (FH (K:=K)) aE K8 set_list)))))
   (ao (aI (pv 2))))),?_⟩
  try rw[bw]
  refine⟨_,rfl,_,rfl,x,l,ns,ms,ps,us,zss,rfl,hW,pm,g,hl,hC,all,λH1 s1=>?_⟩;refine⟨(by decide),λl0 jf=>?_⟩;have sl:=ai (o:=.lst [.int 0]) jf;have s2:=s1.trans sl;have W2:=hW.same s2;obtain⟨d1,f1,q1,r1⟩:=W2.gA "many";refine⟨_,rfl,x,d1,f1,rfl,q1,r1,x,ms,ps,rfl,W2,?_⟩;have pf:=g.aJ;refine⟨l0,ps.length,[.int 0],rfl,rfl,af,by omega,by omega,?_,λq hq=>?_⟩
  ·rw[ab0];show 1*ps.length<=sizeLine;exact aap (by omega) (show 30<=sizeLine by decide)
  have Hq:H q=none:=s2.free hq;have e0:(List.replicate (ps.length:Int).toNat [V.int 0]).flatten=uE (ent ps (zss.take 0)):=by rw[ab0,afq,JP];simp[uE]
  rw[e0];have Mx:l≠q:=aw hl Hq;refine⟨_,rfl,l,rfl,⟨_,aj.of (by rw[L2.aq Mx];exact s2 _ _ hl)⟩,fb (K:=K) (xs:=us.map V.ref) (λj σ H3=>(∃v3 v4,σ=[some (.ref x),some (.ref l),some (.ref q),v3,v4])/\au H H3/\H3 q=some (.lst (uE (ent ps (zss.take j))))) ⟨⟨_,_,rfl⟩,au.ba s2 Hq,af⟩ ?_ ?_ ?_⟩
  ·rintro j σ H3 _ ⟨_,s3,_⟩;exact aj.of (s3 _ _ hl)
  ·rintro j y σ H3 hy ⟨⟨v3,v4,rfl⟩,s3,dF⟩;rw[aaq] at hy;obtain⟨u,eu,rfl⟩:=aar.mp hy;obtain⟨zs,ez,hu⟩:=(hC.same s3).get eu;have ic:=all zs (aat ez);refine⟨_,rfl,_,rfl,x,ms,ps,_,zs,rfl,hW.same s3,g,wU ic pm hu,ic.aU.aU,λr H4 RJ My s4=>?_⟩;have XN:r≠q:=λz=>by rw[z,dF] at RJ;cases RJ
   refine⟨r,rfl,⟨_,aj.of My⟩,?_⟩;have et:zss.take (j+1)=zss.take j++[zs]:=by rw[aaI,ez];rfl
   have U2:∀k∈c6 ps zs ps.length,k<ps.length:=λk hk=>by obtain⟨p,e,_⟩:=kr.mp hk;exact(aaH.mp e).1
   refine fb (K:=K) (xs:=(c6 ps zs ps.length).map λ(k:Nat)=>V.int k) (λi σ H5=>(∃v4,σ=[some (.ref x),some (.ref l),some (.ref q),some (.ref u),v4])/\au H H5/\H5 r=some (.lst ((c6 ps zs ps.length).map λ(k:Nat)=>V.int k))/\H5 q=some (.lst (uE (((c6 ps zs ps.length).take i).foldl bump (ent ps (zss.take j)))))) ⟨⟨_,rfl⟩,s3.trans s4,My,s4 _ _ dF⟩ ?_ ?_ ?_
   ·rintro i σ H5 _ ⟨_,_,h,_⟩;exact aj.of h
   ·rintro i y σ H5 hy ⟨⟨v4,rfl⟩,s5,Dm,gJ⟩;rw[aaq] at hy;obtain⟨kk,ek,rfl⟩:=aar.mp hy;have hk:kk<ps.length:=U2 kk (aat ek);have eb:((c6 ps zs ps.length).take (i+1)).foldl bump (ent ps (zss.take j))=bump (((c6 ps zs ps.length).take i).foldl bump (ent ps (zss.take j))) kk:=by rw[aaI,ek,abL,ads];rfl
    rw[eb];have lf:(((c6 ps zs ps.length).take i).foldl bump (ent ps (zss.take j))).length=ps.length:=by rw[kq,JQ]
    generalize ((c6 ps zs ps.length).take i).foldl bump (ent ps (zss.take j))=fs at gJ lf⊢;have hf:fs[kk]?=some fs[kk]:=by simp[lf,hk]
    refine⟨_,rfl,_,rfl,q,_,kk,.int fs[kk],rfl,rfl,aj.of gJ,by simp[uE,lf,hk],_,_,rfl,rfl,q,_,_,kk,rfl,rfl,gJ,?_,?_⟩
    ·exact sI (by simp[uE,lf,hk])
    ·refine⟨⟨_,rfl⟩,au.ba s5 Hq,by rw[L2.aq XN];exact Dm,?_⟩;rw[af];have e2:fs.getD kk 0=fs[kk]:=getD_at (by rw[lf];exact hk);unfold bump uE;rw[aeJ,e2];rfl
   ·rintro σ H5 ⟨⟨v4,rfl⟩,s5,Dm,gJ⟩;refine⟨⟨_,_,rfl⟩,s5,?_⟩;rw[et,FG];rw[aak,aaF (aal _)] at gJ;exact gJ
  ·rintro σ H3 ⟨⟨v3,v4,rfl⟩,s3,dF⟩;rw[aak,hC.len,aaF (aal _)] at dF;exact⟨_,rfl,k q H3 Hq dF s3⟩
end
end dJ
namespace L2
open PySem PySem.Spec PyProof.Rows
section
variable {prog:Program}{w:World}{A:Around}{R:Result->Shared->Prop}{s:Shared}{E:Value->Shared->Prop}
theorem JR{elt:Expr}{c1:Comprehension}{tg iter:Expr}{ifs:List Expr}{sc:Scope}{pos:Pos}{it acc:Value}{env:Env}
  (h0:codeAny (model prog w) A (.compLoop (.ListComp elt [c1,⟨tg,iter,ifs,0⟩] sc pos) 1 it acc env) R s)
  (h:wpAny (model prog w) A (pyIter it) (λwY s'=>codeAny (model prog w) A (.compLoop (.ListComp elt [c1,⟨tg,iter,ifs,0⟩] sc pos) 1 wY acc env) R s')
   (notedBy (model prog w) A env λx s'=>R (.error x) s') s) :
  codeAny (model prog w) A (.compStart (.ListComp elt [c1,⟨tg,iter,ifs,0⟩] sc pos) 1 it acc env) R s:=by
 refine ac8 ?_;show wpAny _ _ ((compStart (.ListComp elt [c1,⟨tg,iter,ifs,0⟩] sc pos) 1 it acc env).onRaise (λx=>do noteFrame x env;standAt theWindowsPlace)) _ _ s
 refine afx ?_;unfold compStart;show wpAny _ _ (ask>>=_) _ _ s
 refine wpAny_bind (wpAny_askSetting (wpAny_ite ?_));split
 ·first
   |exact wpAny_bind (wpAny_pure (wpAny_pure (And.intro rfl h0)))
   |exact wpAny_pure (And.intro rfl h0)
 ·first
   |exact wpAny_bind (wpAny_rule (wpAny_bind (wpAny_standAt (wpAny_bind (wpAny_mono h (λwY s' h'=>wpAny_pure (And.intro rfl h')) λ_ _ x=>x)))))
   |(refine wpAny_bind (wpAny_rule ?_);show wpAny _ _ (standAt iter.pos>>=_) _ _ s;exact wpAny_bind (wpAny_standAt (wpAny_bind (wpAny_mono h (λwY s' h'=>wpAny_pure (And.intro rfl h')) λ_ _ x=>x))))
theorem Mz(elt:Expr)(c1:Comprehension)(tg iter:Expr)(ifs:List Expr)(sc:Scope)(pos:Pos)(it acc:Value)(env:Env) :
  compTurn (.ListComp elt [c1,⟨tg,iter,ifs,0⟩] sc pos) 1 it acc env=(do
   standAt iter.pos
   match <-pyNext it with
   |none=>pure (.done .next)
   |some v=>
    letOwnedTupleGo tg it v
    assign tg env v
    let mut ok:=true
    for c in ifs do
     if ok then ok <-isTrue c env (eval c env)
    if ok then
     (do let _ <-call (.builtin "list.append") [acc,<-eval elt env])
    again (.compLoop (.ListComp elt [c1,⟨tg,iter,ifs,0⟩] sc pos) 1 it acc env)):=by rfl
theorem MB(elt tg iter gL iter2:Expr)(ifs2:List Expr)(sc:Scope)(pos:Pos)(it acc:Value)(env:Env) :
  compTurn (.ListComp elt [⟨tg,iter,[],0⟩,⟨gL,iter2,ifs2,0⟩] sc pos) 0 it acc env=(do
   standAt iter.pos
   match <-pyNext it with
   |none=>pure (.done .next)
   |some v=>
    letOwnedTupleGo tg it v
    assign tg env v
    let x <-eval iter2 env
    standAt iter2.pos
    let x <-foldedSetIterable iter2 env x
    let uF <-holding [x] (pyIter x)
    let _ <-runOwn (.compStart (.ListComp elt [⟨tg,iter,[],0⟩,⟨gL,iter2,ifs2,0⟩] sc pos) 1 uF acc env) env
    again (.compLoop (.ListComp elt [⟨tg,iter,[],0⟩,⟨gL,iter2,ifs2,0⟩] sc pos) 0 it acc env)):=by rfl
theorem JS{elt:Expr}{c1:Comprehension}{tg iter:Expr}{ifs:List Expr}{sc:Scope}{pos:Pos}{env:Env}{it acc:Value}(G:Nat->Shared->Prop)
  (turn:∀k t,G k t->dU.Tame prog w A (pyNext it) (dU.AH ⟨elt,tg,iter,ifs,sc,pos⟩ prog w A env it acc (R (.ok .next)) λu=>∃j,j<k/\G j u) t)
  {k:Nat} {t:Shared} (g:G k t):codeAny (model prog w) A (.compLoop (.ListComp elt [c1,⟨tg,iter,ifs,0⟩] sc pos) 1 it acc env) R t:=by
 have one:∀k t,G k t->dU.Tame prog w A (compTurn (.ListComp elt [c1,⟨tg,iter,ifs,0⟩] sc pos) 1 it acc env) (λx t'=>match x with|.done r=>R (.ok r) t'|.again c=>c=.compLoop (.ListComp elt [c1,⟨tg,iter,ifs,0⟩] sc pos) 1 it acc env/\∃j,j<k/\G j t') t:=by
  intro k t g;rw[Mz];apply wpAny_bind;apply wpAny_standAt;apply wpAny_bind;refine aH (turn k t g) λx t1 h1=>?_;match x,h1 with
  |none,h1=>exact wpAny_pure h1
  |some v,h1=>
   apply wpAny_bind;refine aH h1 λ_ t2 h2=>?_;apply wpAny_bind;refine aH h2 λ_ t3 h3=>?_;apply wpAny_bind;refine aH h3 λb t4 h4=>?_;match b,h4 with
   |false,h4=>exact wpAny_pure ⟨rfl,h4⟩
   |true,h4 =>apply wpAny_bind;apply wpAny_bind;refine aH h4 λy t5 h5=>?_;apply wpAny_bind;refine aH h5 λ_ t6 h6=>?_;exact wpAny_pure (wpAny_pure ⟨rfl,h6⟩)
 exact ac6 rfl G (λk t g=>wpAny_noted (wpAny_mono (one k t g) (λ_ _ q=>q) λ_ _ f=>f.elim)) k g
theorem JT{elt tg iter gL iter2:Expr}{ifs2:List Expr}{sc:Scope}{pos:Pos}{env:Env}{it acc:Value}(G:Nat->Shared->Prop)(hf:∀x,foldedSetIterable iter2 env x=pure x)
  (turn:∀k t,G k t->dU.Tame prog w A (pyNext it) (λr t1=>match r with
   |none=>R (.ok .next) t1
   |some v=>dU.Tame prog w A (letOwnedTupleGo tg it v) (λ_=>dU.Tame prog w A (assign tg env v) λ_=>dU.Tame prog w A (eval iter2 env) λx=>dU.Tame prog w A (pyIter x) λuF =>codeAny (model prog w) A (.compStart (.ListComp elt [⟨tg,iter,[],0⟩,⟨gL,iter2,ifs2,0⟩] sc pos) 1 uF acc env) λr u=>r=.ok .next/\∃j,j<k/\G j u) t1) t)
  {k:Nat} {t:Shared} (g:G k t):codeAny (model prog w) A (.compLoop (.ListComp elt [⟨tg,iter,[],0⟩,⟨gL,iter2,ifs2,0⟩] sc pos) 0 it acc env) R t:=by
 have one:∀k t,G k t->dU.Tame prog w A (compTurn (.ListComp elt [⟨tg,iter,[],0⟩,⟨gL,iter2,ifs2,0⟩] sc pos) 0 it acc env) (λx t'=>match x with|.done r=>R (.ok r) t'|.again c=>c=.compLoop (.ListComp elt [⟨tg,iter,[],0⟩,⟨gL,iter2,ifs2,0⟩] sc pos) 0 it acc env/\∃j,j<k/\G j t') t:=by
  intro k t g;rw[MB];apply wpAny_bind;apply wpAny_standAt;apply wpAny_bind;refine aH (turn k t g) λx t1 h1=>?_;match x,h1 with
  |none,h1=>exact wpAny_pure h1
  |some v,h1 =>apply wpAny_bind;refine aH h1 λ_ t2 h2=>?_;apply wpAny_bind;refine aH h2 λ_ t3 h3=>?_;apply wpAny_bind;refine aH h3 λx2 t4 h4=>?_;apply wpAny_bind;apply wpAny_standAt;apply wpAny_bind;refine wpAny_of_eq (hf x2) ?_;apply wpAny_bind;refine wpAny_holding (aH h4 λuF t5 h5=>?_);apply wpAny_bind;refine wpAny_runOwn (codeAny_mono h5 λr t6 h6=>?_);obtain⟨rfl,h6⟩:=h6;exact wpAny_pure ⟨rfl,h6⟩
 exact ac6 rfl G (λk t g=>wpAny_noted (wpAny_mono (one k t g) (λ_ _ q=>q) λ_ _ f=>f.elim)) k g
end
def MC(i2:Nat)(tt:TT)(te:TE)(σ:St)(ys0:List V)(Rr:List V->Hp->Prop)(J:It)(H1:Hp):Prop:=
 ∃W:Nat->Nat->List V->Hp->Prop,(∃m,W 0 m ys0 H1)/\∀i m ys H2,W i m ys H2->ys.length<=sizeLine /\
  ((J.stop i H2/\Rr ys H2) \/
  (J.go i H2/\∀x H3,J.oN i H2 x H3->tt (σ.set i2 (some x)) H3 λb H5=>if b=true then te (σ.set i2 (some x)) H5 λy H6=>∃m',m'<m/\W (i+1) m' (ys++[y]) H6 else ∃m',m'<m/\W (i+1) m' ys H5))
def zl(own:List Str)(fr:List Nat)(g:TG)(i2:Nat)(wi2:TI)(tt:TT)(te:TE)(σ:St)(Q:VK)(J:It)(H1:Hp):Prop:=
 ∃W:Nat->Nat->List V->Hp->Prop,(∃m,W 0 m [] H1)/\∀i m ys H2,W i m ys H2->ys.length<=sizeLine /\
  ((J.stop i H2/\∀D,H2 D=none->Q (.ref D) (upd H2 D (.lst ys))) \/
  (J.go i H2/\∀x H3,J.oN i H2 x H3->g x (dq own fr σ) H3 λσ4 H4=>σ4[i2]?=some none/\wi2 σ4 H4 (MC i2 tt te σ4 ys λfq H6=>∃m',m'<m/\W (i+1) m' fq H6)))
def U3(own:List Str)(fr:List Nat)(wi:TI)(g:TG)(i2:Nat)(wi2:TI)(tt:TT)(te:TE):TE:=λσ H Q=>wi σ H (zl own fr g i2 wi2 tt te σ Q)
section
variable {Y:Cx}{elt gL iter2:Expr}{c1:Comprehension}{ifs2:List Expr}{sc:Scope}{pos:Pos}{tt:TT}{te:TE}{i2:Nat}
theorem Ba{pins:List (Addr×Obj)}{σ4:St}{H5:Hp}{s5:Shared}{D uF:Addr}{lK:List Addr}{Dp:Nat->Heap->Prop}{J2:It}{ys0:List V}{ME:List Value}{k0:Nat}{Rr:List V->Hp->Prop}{R:Result->Shared->Prop}
  (hc:Y.calm=true) (eX:Y.xe=jw) (hg:PG Y gL (bh i2)) (ht:gc Y ifs2 tt) (he:PE Y elt te) (hi2:σ4[i2]?=some none)
  (I5:Inv Y pins σ4 H5 s5) (T:Turn Y.prog Y.w Y.K gL J2 lK uF Dp) (st5:Dp 0 s5.heap) (f2:∀b∈lK,d4 Y pins H5 b) (fD:d4 Y pins H5 D) (dfp:D∉lK)
  (hDo:s5.heap.get? D=some {cls:=.type "list",data:=.seq (List.toArray ME) k0}) (rv:Vals ys0 ME) (L:MC i2 tt te σ4 ys0 Rr J2 H5)
  (hR:∀ys us k H' s',Rr ys H'->Inv Y pins σ4 H' s'->H' D=none->s'.heap.get? D=some {cls:=.type "list",data:=.seq (List.toArray us) k}->Vals ys us->R (.ok .next) s') :
  codeAny (model Y.prog Y.w) Y.A (.compLoop (.ListComp elt [c1,⟨gL,iter2,ifs2,0⟩] sc pos) 1 (.ref uF) (.ref D) Y.env) R s5:=by
 obtain⟨W,⟨m0,w0⟩,turn⟩:=L;obtain⟨XO,RK,XQ,XR,XS,XT⟩:=fD;have mz:∀{H':Hp} {s':Shared} {ob:Obj},Inv Y pins σ4 H' s'->H' D=none->s'.heap.get? D=some ob->(∀v,ob.data≠.cell v)->Inv Y (pins++[(D,ob)]) σ4 H' s':=λ{H' s' ob} J0 hn e d=>
  J0.cv λp hp=>by
   rcases aaD.mp hp with q|q
   ·exact J0.pin p (aan _ q)
   ·have:p=(D,ob):=by simpa using q
    subst this;exact⟨e,hn,RK,XQ,d⟩
 have fpY:∀{H':Hp} {ob:Obj},(∀b∈lK,H' b=none)->∀b∈lK,d4 Y (pins++[(D,ob)]) H' b:=λ{H' ob} hn b hb=>by
  obtain⟨_,a1,a2,a3,a4,a5⟩:=f2 b hb;refine⟨hn b hb,a1,a2,a3,a4,λp hp=>?_⟩;rcases aaD.mp hp with q|q
  ·exact a5 p (aaL _ q)
  ·rcases aaD.mp q with q|q
   ·exact a5 p (aan _ q)
   ·have:p=(D,ob):=by simpa using q
    subst this;exact λz=>dfp (by have z':D=b:=z;rw[z'];exact hb)
 refine JS (λn s'=>∃i ys us k H',W i n ys H'/\Inv Y pins σ4 H' s'/\Dp i s'.heap/\(∀b∈lK,H' b=none)/\H' D=none/\s'.heap.get? D=some {cls:=.type "list",data:=.seq (List.toArray us) k}/\Vals ys us) ?_ (k:=m0)
  ⟨0,ys0,ME,k0,H5,w0,I5,st5,λb hb=>(f2 b hb).1,XO,hDo,rv⟩
 rintro n s' ⟨i,ys,us,k,H',w',J0,fi,kf,hDn,hDo,rv⟩;obtain⟨qG,iC⟩:=turn i n ys H' w';have J1:=mz J0 hDn hDo (λv z=>nomatch z);rcases iC with⟨stop,fin⟩|⟨go,step⟩
 ·have d0:=T.done Y rfl rfl rfl hc i _ s' _ H' jw J1 (fpY kf) fi stop;refine wpAny_mono d0 (λr s4 ⟨hr,J4⟩=>?_) λ_ _ z=>z;subst hr;have pD:=(J4.pin (D,_) (aan _ (aan _ aau))).1;exact hR ys us k H' s4 fin (J4.cv λp hp=>J4.pin p (aan _ (aaL _ hp))) hDn pD rv
 ·have d0:=T.item Y rfl rfl rfl hc i _ s' _ H' jw J1 (fpY kf) fi go;refine wpAny_mono d0 (λr s4 ⟨u,hr,h4⟩=>?_) λ_ _ z=>z;subst hr;refine wpAny_mono h4 (λ_ s5 ⟨x,H5,J5,r5,y5,st5,ng⟩=>?_) λ_ _ z=>z;have qH:=J5.pinned (fpY ng) (T.obj _ _ st5);have s1:=hg _ s5 _ H5 x u _ qH r5 (show bh i2 x σ4 H5 _ from⟨rfl,step x H5 y5⟩:bh i2 x σ4 H5 λσ' H'=>σ'=σ4.set i2 (some x)/\tt σ' H' λb H5=>if b=true then te σ' H5 λy H6=>∃m',m'<n/\W (i+1) m' (ys++[y]) H6 else ∃m',m'<n/\W (i+1) m' ys H5);rw[eX] at s1;refine wpAny_mono s1 (λ_ s6 ⟨σ6,H6,J6,e6,q6⟩=>?_) λ_ _ z=>z;subst e6;have i9:=ht _ s6 _ H6 _ J6 q6;rw[eX] at i9;refine wpAny_mono i9 (λok s7 ⟨H7,J7,q7⟩=>?_) λ_ _ z=>z;have low:∀{H8:Hp} {s8:Shared},Inv Y (pins++[(D,({cls:=.type "list",data:=.seq (List.toArray us) k}:Obj))]++cV lK s5.heap) (σ4.set i2 (some x)) H8 s8 ->
    Inv Y (pins++cV lK s5.heap) σ4 H8 s8/\H8 D=none/\s8.heap.get? D=some {cls:=.type "list",data:=.seq (List.toArray us) k}/\(∀b∈lK,H8 b=none)/\Dp (i+1) s8.heap:=λ{H8 s8} J8=>by
   have p8:=J8.pin (D,_) (aan _ (aaL _ (aan _ aau)));have Jw:Inv Y (pins++[(D,({cls:=.type "list",data:=.seq (List.toArray us) k}:Obj))]++cV lK s5.heap) σ4 H8 s8:=J8.weak (by simp) λj v e=>by
    by_cases hj:j=i2
    ·subst hj;rw[hi2] at e;cases e
    ·rw[acf (aaX hj)];exact e
   refine⟨Jw.cv λp hp=>J8.pin p (aan _ ?_),p8.2.1,p8.1,λb hb=>?_,T.keep _ _ _ st5 λb hb o e=>(J8.pin (b,o) (aan _ (aan _ (cG hb e)))).1⟩
   ·rcases aaD.mp hp with q|q
    ·exact aaL _ (aaL _ q)
    ·exact aan _ q
   ·obtain⟨o,e,d⟩:=T.obj _ _ st5 b hb;exact(J8.pin (b,o) (aan _ (aan _ (cG hb e)))).2.1
  cases ok with
  |false=>
   obtain⟨m',hm,w7⟩:=(show ∃m',m'<n/\W (i+1) m' ys H7 by simpa using q7)
   obtain⟨Jw,l1,l2,l3,l4⟩:=low J7;exact⟨m',hm,i+1,ys,us,k,H7,w7,Jw.cv λp hp=>Jw.pin p (aan _ (aaL _ hp)),l4,l3,l1,l2,rv⟩
  |true=>
   have vS:te (σ4.set i2 (some x)) H7 λy H6=>∃m',m'<n/\W (i+1) m' (ys++[y]) H6:=by simpa using q7
   have s3:=he _ s7 _ H7 _ J7 vS;rw[eX] at s3;show wpAny _ _ _ _ _ _
   refine wpAny_mono s3 (λxv s8 ⟨y,H8,J8,r8,m',hm,w8⟩=>?_) λ_ _ z=>z;obtain⟨Jw,l1,l2,l3,l4⟩:=low J8;refine append_at (hsz:=by rw[aas,<-rv.length];exact qG) l2 λh' hs' Cq=>?_;have XU:Inv Y pins σ4 H8 s8:=Jw.cv λp hp=>Jw.pin p (aan _ (aaL _ hp));have J9:Inv Y pins σ4 H8 {s8 with heap:=h' }:=XU.turned (t':=s8.toks) (it:=D) (λb o hb e=>(hs'.2 b hb).trans e) l1 RK XR XS XT;refine⟨m',hm,i+1,ys++[y],us++[xv],k+1,H8,w8,J9,?_,l3,l1,?_,rv.append (.cons r8 .nil)⟩
   ·exact T.keep _ _ _ l4 λb hb o e=>(hs'.2 b (λz=>dfp (z▸hb))).trans e
   ·rw[Cq];simp
end
section
variable {X:Cx}{own:List Str}{fr:List Nat}{sc:Scope}{tg iter gL iter2 elt:Expr}{ifs2:List Expr}{pos:Pos}{wi wi2:TI}{g:TG}{tt:TT}{te:TE}{i2:Nat}
theorem FJ{pins:List (Addr×Obj)}{σ:St}{H2:Hp}{s2:Shared}{Q:VK}{it:Addr}{fp:List Addr}{tn:Nat->Heap->Prop}{J:It}{RR:Value->Addr->Result->Shared->Prop}{E:Value->Shared->Prop}(hc:X.calm=true)(S:fk X own fr sc)(gk:GK own.length g)
  (h2l:i2<own.length) (hg:∀s H fp,PG (cq X own fr sc s H fp) tg g) (hi2:∀s H fp,PI (cq X own fr sc s H fp) gL iter2 wi2) (hg2:∀s H fp,PG (cq X own fr sc s H fp) gL (bh i2)) (ht:∀s H fp,gc (cq X own fr sc s H fp) ifs2 tt) (he:∀s H fp,PE (cq X own fr sc s H fp) elt te)
  (hf2:∀s H fp x,foldedSetIterable iter2 (cq X own fr sc s H fp).env x=pure x)
  (I2:Inv X pins σ H2 s2) (T:Turn X.prog X.w X.K tg J fp it tn) (st2:tn 0 s2.heap) (f2:∀b∈fp,d4 X pins H2 b) (L:zl own fr g i2 wi2 tt te σ Q J H2)
  (hRR:∀D C s',(∃m,s'.heap.Ns C m)->@LE.le Nat _ s2.heap.objs.size C->(∃H',H' C=none/\Q (.ref D) H'/\∀h' tk,Heap.SameBut C s'.heap h'->Inv X pins σ H' {s' with heap:=h',toks:=tk})->RR (.ref D) C (.ok .next) s') :
  wpAny (model X.prog X.w) X.A (newList []) (λacc s₃=>wpAny (model X.prog X.w) X.A (newFunctionEnv sc X.env.globals (cS X.env sc.names []) [] X.env.qual none .none (some X.env)) (λjO s₄ =>codeAny (model X.prog X.w) X.A (.compStart (.ListComp elt [⟨tg,iter,[],0⟩,⟨gL,iter2,ifs2,0⟩] sc pos) 0 (.ref it) acc {jO with scope:=relabel sc X.env}) (RR acc jO.locals) s₄) E s₃) E s2:=by
 obtain⟨W,⟨m0,w0⟩,turn⟩:=L;refine wpAny_newObj_type (iX ?_);dsimp only;generalize dE:s2.heap.push {cls:=.type "list",dict:=none,data:=.seq ([]:List Value).toArray}=h1;have hz:h1.objs.size=s2.heap.objs.size+1:=by rw[<-dE,abk]
 have hk1:∀b o,s2.heap.get? b=some o->h1.get? b=some o:=λb o e=>by rw[<-dE];exact aao _ e
 have vQ:h1.get? s2.heap.objs.size=some {cls:=.type "list",data:=.seq ([]:List Value).toArray}:=by rw[<-dE];exact aaC _ rfl
 have hfl:∀b∈fp,@LT.lt Nat _ b s2.heap.objs.size:=λb hb=>by obtain⟨o,e,_⟩:=T.obj _ _ st2 b hb;exact aay e
 have I3:=mi I2 S f2 hz hk1 hfl;rw[hz];generalize hY:cq X own fr sc s2 H2 fp=Y at I3;have lC:(hC s2 sc h1).get? s2.heap.objs.size=some {cls:=.type "list",data:=.seq ([]:List Value).toArray}:=pushCells_keeps _ _ _ _ (aao _ vQ);have kc:tn 0 (hC s2 sc h1):=T.keep _ _ _ st2 λb _ o e=>pushCells_keeps _ _ _ _ (aao _ (hk1 b o e));have eP:Y.prog=X.prog:=by rw[<-hY];rfl
 have eW:Y.w=X.w:=by rw[<-hY];rfl
 have eK:Y.K=X.K:=by rw[<-hY];rfl
 have eA:Y.A=X.A:=by rw[<-hY];rfl
 have eX:Y.xe=jw:=by rw[<-hY];rfl
 have ecm:Y.calm=true:=by rw[<-hY];exact hc
 have pO:({scope:=relabel sc X.env,locals:=s2.heap.objs.size+1,globals:=X.env.globals,cells:=cellsFrom (s2.heap.objs.size+1+1) sc.names (cS X.env sc.names []),qual:=X.env.qual,func:=none,code:=X.env.code,frame:=X.env.frame,builtins:=X.env.builtins}:Env)=Y.env:=by rw[<-hY];rfl
 have eL:Y.env.locals=s2.heap.objs.size+1:=by rw[<-hY];rfl
 rw[pO];have qE:PG Y tg g:=hY▸hg s2 H2 fp;have vR:gc Y ifs2 tt:=hY▸ht s2 H2 fp;have U':PI Y gL iter2 wi2:=hY▸hi2 s2 H2 fp;have Va:PG Y gL (bh i2):=hY▸hg2 s2 H2 fp;have Vb:∀x,foldedSetIterable iter2 Y.env x=pure x:=hY▸hf2 s2 H2 fp;have qF:PE Y elt te:=hY▸he s2 H2 fp;have dfp:s2.heap.objs.size∉fp:=λz=>aa8 _ (hfl _ z);have dC:s2.heap.objs.size≠s2.heap.objs.size+1:=aaG (abg _);have my:∀x c,Y.env.cells.lookup x=some c->c≠s2.heap.objs.size:=λx c e z=>by obtain⟨v,o,q,d⟩:=I3.cell x c e;rw[z] at q;have q':=lC.symm.trans q;cases q';cases d
 have nB:s2.heap.objs.size∉Y.fs:=by
  rw[<-hY];intro z;rcases aav.mp (I2.fZ _ z) with e|e
  ·exact aa8 _ (by have:=I2.lt;rw[<-e] at this;exact this)
  ·exact I2.vt (aal _) e
 have i7:@LE.le Nat _ Y.s₀.heap.objs.size s2.heap.objs.size:=by rw[<-hY];exact aal _
 have fpY:∀{H':Hp} {pp:List (Addr×Obj)},(∀b∈fp,H' b=none)->(∀p∈pp,p.1∉fp)->∀b∈fp,d4 Y pp H' b:=λ{H' pp} hn hp b hb=>by
  refine⟨hn b hb,?_,?_,?_,?_,λp hq z=>?_⟩
  ·have:=hfl b hb;rw[eL];intro z;have z':@Eq Nat b (s2.heap.objs.size+1):=z;omega
  ·rw[<-hY];intro z;rcases aav.mp (I2.fZ _ z) with e|e
   ·exact(f2 b hb).2.1 e
   ·exact(f2 b hb).2.2.1 e
  ·exact .inl (by rw[<-hY];exact hb)
  ·exact(I3.ok.yB b (by rw[<-hY];exact hb)).2
  ·rcases aaD.mp hq with q|q
   ·have:p∈([]:List (Addr×Obj)):=by rw[<-hY] at q;exact q
    exact nomatch this
   ·exact hp p q (z▸hb)
 have mz:∀{H':Hp} {s':Shared} {σ':St} {ob:Obj},Inv Y [] σ' H' s'->H' s2.heap.objs.size=none->s'.heap.get? s2.heap.objs.size=some ob->(∀v,ob.data≠.cell v)->Inv Y [(s2.heap.objs.size,ob)] σ' H' s':=λ{H' s' σ' ob} J0 hn e d=>
  J0.cv λp hp=>by
   have:p=(s2.heap.objs.size,ob):=by simpa using hp
   subst this;exact⟨e,hn,by rw[eL];exact dC,nB,d⟩
 have jP:∀{ob:Obj} (p:Addr×Obj),p∈[(s2.heap.objs.size,ob)]->p.1∉fp:=λ{ob} p hp=>by
  have:p=(s2.heap.objs.size,ob):=by simpa using hp
  subst this;exact dfp
 have loop:codeAny (model X.prog X.w) X.A (.compLoop (.ListComp elt [⟨tg,iter,[],0⟩,⟨gL,iter2,ifs2,0⟩] sc pos) 0 (.ref it) (.ref s2.heap.objs.size) Y.env) (RR (.ref s2.heap.objs.size) (s2.heap.objs.size+1)) {s2 with heap:=hC s2 sc h1}:=by
  refine JT (λn s'=>∃i ys us k H',W i n ys H'/\Inv Y [] (dq own fr σ) H' s'/\tn i s'.heap/\(∀b∈fp,H' b=none)/\H' s2.heap.objs.size=none/\s'.heap.get? s2.heap.objs.size=some {cls:=.type "list",data:=.seq (List.toArray us) k}/\Vals ys us) Vb ?_ (k:=m0)
   ⟨0,[],[],_,H2,w0,I3,kc,λb hb=>(f2 b hb).1,I2.aR.fresh (aal _),lC,.nil⟩
  rintro n s' ⟨i,ys,us,k,H',w',J0,fi,kf,hDn,hDo,rv⟩;obtain⟨qG,iC⟩:=turn i n ys H' w';have J1:=mz J0 hDn hDo (λv z=>nomatch z);rcases iC with⟨stop,fin⟩|⟨go,step⟩
  ·have d0:=T.done Y eP eW eK ecm i _ s' _ H' jw J1 (fpY kf jP) fi stop;rw[eA] at d0;refine wpAny_mono d0 (λr s4 ⟨hr,J4⟩=>?_) λ_ _ z=>z;subst hr;have pD:=(J4.pin (s2.heap.objs.size,_) (aan _ aau)).1;refine hRR _ _ s4 ?_ (abu _) ⟨upd H' s2.heap.objs.size (.lst ys),?_,fin _ hDn,λh' tk hs=>?_⟩
   ·obtain⟨m,hn,_⟩:=J4.loc;rw[eL] at hn;exact⟨m,hn⟩
   ·rw[aq (aaX dC),<-eL];exact J4.free
   ·subst hY;have hO:bD X.prog X.w (upd H' s2.heap.objs.size (.lst ys)) h' s2.heap.objs.size (.lst ys):=⟨qG,us,k,rv,(hs.2 _ dC).trans pD⟩
    exact mj I2 f2 J4 (aal _) hDn dC hs hO tk
  ·have d0:=T.item Y eP eW eK ecm i _ s' _ H' jw J1 (fpY kf jP) fi go;rw[eA] at d0;refine wpAny_mono d0 (λr s4 ⟨u,hr,h4⟩=>?_) λ_ _ z=>z;subst hr;refine wpAny_mono h4 (λ_ s5 ⟨x,H5,J5,r5,y5,st5,ng⟩=>?_) λ_ _ z=>z;have qH:=J5.pinned (fpY ng jP) (T.obj _ _ st5);have s1:=qE _ s5 _ H5 x u _ qH r5 (gk _ _ _ _ (step x H5 y5));rw[eP,eW,eA,eX] at s1;refine wpAny_mono s1 (λ_ s6 ⟨σ6,H6,J6,⟨n6,q6⟩,nC⟩=>?_) λ_ _ z=>z;have i9:=U' _ s6 σ6 H6 _ J6 q6;rw[eP,eW,eA,eX] at i9;refine wpAny_mono i9 (λv7 s7 h7=>wpAny_mono h7 (λitv s8 h8=>?_) λ_ _ z=>z) λ_ _ z=>z;obtain⟨uF,lK,Dp,J2,H8,e8,J8,T2,RL,f8,L2⟩:=h8;subst e8;have pD:=J8.pin (s2.heap.objs.size,_) (aan _ (aaL _ aau));have J9:Inv Y (cV fp s5.heap) σ6 H8 s8:=J8.cv λp hp=>J8.pin p (aan _ (aan _ hp));have sub:∀{p:Addr×Obj},p∈Y.pn++cV fp s5.heap->p∈Y.pn++([(s2.heap.objs.size,({cls:=.type "list",data:=.seq (List.toArray us) k}:Obj))]++cV fp s5.heap):=λhp=>by
    rcases aaD.mp hp with q|q
    ·exact aaL _ q
    ·exact aan _ (aan _ q)
   have f9:∀b∈lK,d4 Y (cV fp s5.heap) H8 b:=λb hb=>by obtain⟨a0,a1,a2,a3,a4,a5⟩:=f8 b hb;exact⟨a0,a1,a2,a3,a4,λp hp=>a5 p (sub hp)⟩
   have d9:s2.heap.objs.size∉lK:=λz=>(f8 _ z).2.2.2.2.2 (s2.heap.objs.size,_) (aan _ (aaL _ aau)) rfl;have fD:d4 Y (cV fp s5.heap) H8 s2.heap.objs.size:=by
    refine⟨pD.2.1,by rw[eL];exact dC,nB,.inr i7,my,λp hp z=>?_⟩;rcases aaD.mp hp with q|q
    ·have:p∈([]:List (Addr×Obj)):=by rw[<-hY] at q;exact q
     exact nomatch this
    ·exact dfp (z▸(tS q).1)
   have inn:=Ba (elt:=elt) (iter2:=iter2) (c1:=⟨tg,iter,[],0⟩) (sc:=sc) (pos:=pos) (R:=λr u=>r=.ok .next/\∃j,j<n/\∃i ys us k H',W i j ys H'/\Inv Y [] (dq own fr σ) H' u/\tn i u.heap/\(∀b∈fp,H' b=none)/\H' s2.heap.objs.size=none/\u.heap.get? s2.heap.objs.size=some {cls:=.type "list",data:=.seq (List.toArray us) k}/\Vals ys us)
    ecm eX Va vR qF n6 J9 T2 RL f9 fD d9 pD.1 rv L2 (λXW XX k1 H9 s9 hw CA wZ Vc Vd=>by
     obtain⟨m',hm,w9⟩:=hw;refine⟨rfl,m',hm,i+1,XW,XX,k1,H9,w9,?_,?_,λb hb=>?_,wZ,Vc,Vd⟩
     ·refine(CA.weak nC.1.symm (λj v e=>?_)).cv λp hp=>nomatch hp;by_cases hj:j<own.length
      ·exfalso;unfold dq at e;rw[abf (by simpa using hj),abO] at e;split at e<;>cases e
      ·rw[nC.2 j (adx.mp hj)];exact e
     ·exact T.keep _ _ _ st5 λb hb o e=>(CA.pin (b,o) (aan _ (cG hb e))).1
     ·obtain⟨o,e,d⟩:=T.obj _ _ st5 b hb;exact(CA.pin (b,o) (aan _ (cG hb e))).2.1)
   rw[eP,eW,eA] at inn;refine JR inn ?_;have z:=λQ E=>T2.self X.A 0 s8 Q E RL;rw[eP,eW] at z;exact z _ _ inn
 exact ad5 loop (T.self X.A 0 _ _ _ kc loop)
theorem MF(own:List Str)(fr:List Nat)(hc:X.calm=true)(S:fk X own fr sc)(gk:GK own.length g)(h2l:i2<own.length)(hi:PI X tg iter wi)
  (hg:∀s H fp,PG (cq X own fr sc s H fp) tg g) (hi2:∀s H fp,PI (cq X own fr sc s H fp) gL iter2 wi2) (hg2:∀s H fp,PG (cq X own fr sc s H fp) gL (bh i2)) (ht:∀s H fp,gc (cq X own fr sc s H fp) ifs2 tt) (he:∀s H fp,PE (cq X own fr sc s H fp) elt te)
  (hs:∀x,foldedSetIterable iter X.env x=pure x:=by intro _;rfl) (hf2:∀s H fp x,foldedSetIterable iter2 (cq X own fr sc s H fp).env x=pure x:=by intro _ _ _ _;rfl):PE X (.ListComp elt [⟨tg,iter,[],0⟩,⟨gL,iter2,ifs2,0⟩] sc pos) (U3 own fr wi g i2 wi2 tt te):=by
 intro pins s σ H Q I h;rw[afw];have iD:closureFor sc X.env=pure (cS X.env sc.names []):=dR λy hy hf=>I.ok.has y.1 (by
  rcases S.ug y hy hf with q|q
  ·exact .inl q
  ·exact .inr q)
 refine wpAny_comprehension_free (use:=none) rfl hs iD S.kind (λy hy hl=>bW S.nd (by rw[<-hl];exact hy)) ?_;refine aH (hi pins s σ H _ I h) λv s1 h1=>aH h1 λitv s2 h2=>?_;obtain⟨it,fp,tn,J,H2,e,I2,T,st2,f2,L⟩:=h2;subst e;exact FJ hc S gk h2l hg hi2 hg2 ht he hf2 I2 T st2 f2 L λD C s' ⟨m,hn⟩ _ ⟨H',_,q,hi⟩=>⟨m,hn,λh' hs'=>⟨.ref D,H',hi h' s'.toks hs',rfl,q⟩⟩
end
def bN(H:Hp):List Addr->List (Nat×Nat)->Prop:=Paired λu p=>H u=some (.tup [.int (p.1:Nat),.int (p.2:Nat)])
theorem bN.mono{H H':Hp}{us:List Addr}{ps:List (Nat×Nat)}(h:bN H us ps)(k:∀t xs,H t=some (.tup xs)->H' t=some (.tup xs)):bN H' us ps:=Paired.rK h λt p e=>k t _ e
theorem bN.same{H H':Hp}{us:List Addr}{ps:List (Nat×Nat)}(h:bN H us ps)(s:au H H'):bN H' us ps:=h.mono λt xs e=>s t _ e
theorem bN.len{H:Hp}:∀{us:List Addr} {ps:List (Nat×Nat)},bN H us ps->us.length=ps.length
 |[],_,.nil=>rfl
 |_::_,_,.cons _ t=>by rw[aa0,aa0,bN.len t]
theorem bN.get{H:Hp}:∀{us:List Addr} {ps:List (Nat×Nat)} {i:Nat} {u:Addr},bN H us ps->us[i]?=some u->∃p,ps[i]?=some p/\H u=some (.tup [.int (p.1:Nat),.int (p.2:Nat)])
 |_,_,0,_,.cons r _,e=>by cases e;exact⟨_,rfl,r⟩
 |_,_,i+1,_,.cons _ t,e=>by simpa using bN.get (i:=i) t (by simpa using e)
theorem bN.snoc{H:Hp}:∀{us:List Addr} {ps:List (Nat×Nat)} {u:Addr} {p:Nat×Nat},bN H us ps->H u=some (.tup [.int (p.1:Nat),.int (p.2:Nat)])->bN H (us++[u]) (ps++[p])
 |[],_,_,_,.nil,e=>.cons e .nil
 |_::_,_,_,_,.cons r t,e=>.cons r (bN.snoc t e)
end L2
namespace dJ
open PySem PySem.Spec PyProof.Rows L2
abbrev gZ:Stmt:=top 47 -- Ve
def kM(n i:Nat):List (Nat×Nat):=(List.range (n-(i+1))).map λj=>(i,i+1+j)
def de(n k:Nat):List (Nat×Nat):=(List.range k).flatMap (kM n)
theorem uG(n k:Nat):de n (k+1)=de n k++kM n k:=by unfold de;rw[adS,List.flatMap_append];simp
theorem p5(n i:Nat):(kM n i).length=n-(i+1):=by unfold kM;simp
theorem jV(n:Nat):∀k,(de n k).length<=k*n
 |0=>by simp[de]
 |k+1=>by rw[uG,aaM,p5];have:=jV n k;rw[aeC];omega
theorem FK{n i:Nat}{p:Nat×Nat}(h:p∈kM n i):p.1=i/\i<p.2/\p.2<n:=by
 obtain⟨j,hj,rfl⟩:=aaN.mp h
 have:=abl.mp hj
 exact⟨rfl,by show i<i+1+j;omega,by show i+1+j<n;omega⟩
theorem jW{n k:Nat}{p:Nat×Nat}(h:p∈de n k):p.1<k/\p.1<p.2/\p.2<n:=by
 obtain⟨i,hi,hp⟩:=afa.mp h;obtain⟨a,b,c⟩:=FK hp
 have:=abl.mp hi
 exact⟨by omega,by omega,c⟩
section
variable {P:Program}{w:World}{K:PySem.W.Frag}{mg:Str->Option Value}{base:Heap}
def oJ:Sp:=λvs H Q _=>∃n:Nat,vs=[.int n]/\n<=100/\∀q us H',H q=none->H' q=some (.lst (us.map V.ref))->bN H' us (de n n)->au H H'->Q (.ref q) H'
theorem Vf:aG ["many"] ["many"] (ak gZ):=⟨rfl,rfl,rfl,by decide +kernel,rfl,by decide +kernel,by decide +kernel⟩
theorem p9{f:Addr}{fd:FuncData}(F:a7 K "pairs_of" "pairs_of" gZ f fd)(T:bt mg):av P w K mg base aB 1 f fd ["many"] oJ:=by
 refine F.ok Vf (λvs H Q E h=>?_) (λcdv A outer s H vs Q E hr h=>?_)
 ·obtain⟨n,rfl,_⟩:=h;rfl
 ·obtain⟨n,rfl,hn,k⟩:=h;refine⟨_,ao (aI (MF (i2:=1) ["i","j"] [0] rfl (bq (osc:=(ak gZ).names) (N:=["many"]) rfl rfl (by decide +kernel)) (bx (by decide)) (by decide) (dD rfl T.range (aa (pv 0) ae))
   (λ_ _ _=>aD (i:=0) (show(["i","j","many"]:List Str).Nodup by decide +kernel) rfl (Or.inl rfl))
   (λ_ _ _=>tR rfl T.range (aa (bV eE (pv 0) aE) (aa (pv 2) ae)))
   (λ_ _ _=>aD (i:=1) (show(["i","j","many"]:List Str).Nodup by decide +kernel) rfl (Or.inl rfl))
   (λ_ _ _=>bK) (λ_ _ _=>c7 (aa (pv 0) (aa (pv 1) ae))))),?_⟩
  try rw[bw]
  refine⟨_,rfl,_,rfl,by omega,by omega,?_⟩;rw[ab0];have nn:n*n<=100*100:=acx hn hn;have sz:20000<=sizeLine:=by decide
  refine⟨λi m ys H2=>m=n-i/\i<=n/\∃us,ys=us.map V.ref/\bN H2 us (de n i)/\au H H2,⟨n,rfl,aaZ _,[],rfl,.nil,au.refl _⟩,?_⟩;rintro i m ys H2 ⟨rfl,hi,us,rfl,hP,s2⟩;have li:i*n<=n*n:=Nat.mul_le_mul_right _ hi;have lu:us.length=(de n i).length:=hP.len;refine⟨by rw[aak];have:=jV n i;omega,?_⟩;by_cases h:i<n
  ·refine .inr ⟨h,λx H3 hy=>?_⟩;obtain⟨rfl,rfl⟩:=hy;refine⟨rfl,?_⟩;refine⟨_,rfl,_,_,rfl,rfl,_,rfl,_,_,rfl,by omega,?_⟩;have e:((n:Int)-(0+(i:Int)+1)).toNat=n-(i+1):=by omega
   rw[e];refine⟨λj m ys H4=>m=n-(i+1)-j/\j<=n-(i+1)/\∃us,ys=us.map V.ref/\bN H4 us (de n i++(kM n i).take j)/\au H H4,⟨n-(i+1),rfl,aaZ _,us,rfl,by simpa using hP,s2⟩,?_⟩;rintro j m ys H4 ⟨rfl,hj,vs,rfl,hP4,s4⟩;have lv:vs.length<=i*n+n:=by
    rw[hP4.len,aaM,aaR,p5]
    have:=jV n i
    omega
   refine⟨by rw[aak];omega,?_⟩;by_cases oY:j<n-(i+1)
   ·refine .inr ⟨oY,λx H5 hy=>?_⟩;obtain⟨rfl,rfl⟩:=hy;refine⟨_,rfl,_,rfl,(show 2<=sizeLine by decide),λp hp=>?_⟩;refine⟨n-(i+1)-(j+1),by omega,rfl,by omega,vs++[p],by simp,?_,s4.trans (ai hp)⟩;have e2:(kM n i).take (j+1)=(kM n i).take j++[(i,i+1+j)]:=by rw[aaI];congr 1;unfold kM;simp[oY]
    rw[e2,<-acr];refine bN.snoc (hP4.same (ai hp)) ?_;rw[af];have e3:(0+(i:Int))=(i:Nat):=by omega
    have e4:(0+(i:Int)+1+(j:Int))=((i+1+j:Nat):Int):=by omega
    rw[e3] at *;show some (HO.tup [V.int (i:Nat),V.int ((i:Int)+1+(j:Int))])=_
    congr 4
   ·have ej:j=n-(i+1):=by omega
    subst ej;refine .inl ⟨aal _,n-(i+1),by omega,rfl,h,vs,rfl,?_,s4⟩;rw[uG];rw[aaF (aey (p5 n i))] at hP4;exact hP4
  ·have ei:i=n:=by omega
   subst ei;refine .inl ⟨aal _,λD hD=>?_⟩;exact k D us _ (s2.free hD) af (hP.same (ai hD)) (s2.trans (ai hD))
end
end dJ
namespace L2
open PySem PySem.Spec PyProof.Rows
section
variable {X:Cx}{a b c d:Expr}{ta tb tc td:TE}{pos:Pos}
def JU(r r' r'':R2)(ta tb tc td:TE):TE:=λσ H Q=>ta σ H λx H1=>tb σ H1 λy H2=>r x y H2 λz H3=>∃k,z=.bl k /\
 (if k=true then tc σ H3 λw' H4=>r' y w' H4 λz' H5=>∃k',z'=.bl k'/\(if k'=true then td σ H5 λv' H6=>r'' w' v' H6 Q else Q (.bl false) H5) else Q (.bl false) H3)
theorem Dq{op nj FN:CmpOp}{r r' r'':R2}(ho:cL X (compareOp op) r)(ho':cL X (compareOp nj) r')(ho'':cL X (compareOp FN) r'')(ha:PE X a ta)(hb:PE X b tb)(hc:PE X c tc)(hd:PE X d td)
  (hm:lastMarks [op,nj,FN] [b,c,d]=false:=by with_unfolding_all rfl):PE X (.Compare a [op,nj,FN] [b,c,d] pos) (JU r r' r'' ta tb tc td):=by
 intro pins s σ H Q I h;refine aft (aH (ha pins s σ H _ I h) λv s1 ⟨x,H1,I1,r1,q1⟩=>chain_link (aH (hb pins s1 σ H1 _ I1 q1) λu s2 ⟨y,H2,I2,r2,q2⟩ =>aH (ho pins s2 σ H2 x y v u _ I2 r1 r2 q2) λd1 s3 ⟨z,H3,I3,r3,k,e,q3⟩=>?_)) hm
 subst e;cases r3;refine wpAny_truthy_bool ?_;cases k with
 |false=>exact ite_ff ⟨.bl false,H3,I3,rfl,q3⟩
 |true=>
  refine ite_tt (chain_link (aH (hc pins s3 σ H3 _ I3 q3) λw' s4 ⟨z',H4,I4,r4,q4⟩=>aH (ho' pins s4 σ H4 y z' u w' _ I4 r2 r4 q4) λd2 s5 ⟨z2,H5,I5,r5,k2,e2,q5⟩=>?_));subst e2;cases r5;refine wpAny_truthy_bool ?_;cases k2 with
  |false=>exact ite_ff ⟨.bl false,H5,I5,rfl,q5⟩
  |true=>exact ite_tt (chain_last (aH (hd pins s5 σ H5 _ I5 q5) λv' s6 ⟨z3,H6,I6,r6,q6⟩=>ho'' pins s6 σ H6 z' z3 w' v' Q I6 r4 r6 q6))
end
end L2
namespace dJ
open PySem PySem.Spec PyProof.Rows L2
abbrev w4:Stmt:=top 48 -- JV
abbrev nZ:Stmt:=top 49 -- Vg
def fQ(ns:List Str)(zss:List (List Str))(p:Nat×Nat):Bool:=bS ns (zss.getD p.1 []) (zss.getD p.2 [])
def jh(ns:List Str)(zss:List (List Str)):List (Nat×Nat):=(de zss.length zss.length).filter (fQ ns zss)
theorem bP{zss:List (List Str)}{i:Nat}{zs:List Str}(h:zss[i]?=some zs):zss.getD i []=zs:=by rw[abS,h];rfl
section
variable {P:Program}{w:World}{K:PySem.W.Frag}{mg:Str->Option Value}{base:Heap}
variable {C fP fS fA eJ dQ fB fO fR gB fF ku o5:Addr}{fdP bJ cO cX cK fI fJ gC dN eU iK kN:FuncData}
def Bb(C:Addr):Sp:=λvs H Q _=>∃(x l:Addr) (ms:List Str) (ps:List (Str×Str)) (us:List Addr) (zss:List (List Str)),vs=[.ref x,.ref l]/\a8 C H x ms ps/\ms.length<=12/\H l=some (.lst (us.map V.ref))/\aP H us zss/\us.length<=100 /\
 ∀q ts H',H q=none->H' q=some (.lst (ts.map V.ref))->bN H' ts (jh (aF ms) zss)->au H H'->Q (.ref q) H'
theorem PL:aG ["web","family"] ["web","family"] (ak w4):=⟨rfl,rfl,rfl,by decide +kernel,rfl,by decide +kernel,by decide +kernel⟩
theorem HR{f:Addr}{fd:FuncData}(F:a7 K "crossing_pairs" "crossing_pairs" w4 f fd)(D:Xd K mg C fP fS fA eJ dQ fB fO fR gB fF fdP bJ cO cX cK fI fJ gC dN eU)(DP:Df K mg "pairs_of" gZ ["many"] ku iK)(T:bt mg):av P w K mg base aB 4 f fd ["web","family"] (Bb C):=by
 have GP:av P w K mg base aB 1 ku iK ["many"] oJ:=p9 DP.fn T;have GA:av P w K mg base aB 3 fR gC ["web","cut","other"] (qZ C):=q0 D.r.fn D.cd.m D.b D.o T;refine F.ok PL (λvs H Q E h=>?_) (λcdv A outer s H vs Q E hr h=>?_)
 ·obtain⟨x,l,ms,ps,us,zss,rfl,_⟩:=h;rfl
 ·obtain⟨x,l,ms,ps,us,zss,rfl,hW,lm,hl,hC,lu,k⟩:=h;have h1:=hr.mono (j:=1) (by decide);refine⟨_,ao (aI (cZ ["i","j"] [0,1] rfl (bq (osc:=(ak w4).names) (N:=["web","family"]) rfl rfl (by decide +kernel)) (iB (K:=K) (k:=2) (by decide) (by decide))
   (bg (ar GP h1 rfl DP.aK DP.fn.kp DP.b .nil ax (aa (ay aA (by rfl) T.len aax (aa (pv 1) ae)) ae)))
   (λ_ _ _=>cI rfl (aO (aD (i:=0) (show(["i","j","web","family"]:List Str).Nodup by decide +kernel) rfl (Or.inl rfl)) (aO (aD (i:=1) (show(["i","j","web","family"]:List Str).Nodup by decide +kernel) rfl (Or.inl rfl)) cg)))
   (λ_ _ _=>dA (bG (ar GA hr rfl D.r.aK D.r.fn.kp D.r.b .nil ax (aa (pv 2) (aa (bj (r:=pJ K) aX (pv 3) (pv 0) (λ_ _=>rfl)) (aa (bj (r:=pJ K) aX (pv 3) (pv 1) (λ_ _=>rfl)) ae)))) (λ_=>rfl)))
   (λ_ _ _=>c7 (aa (pv 0) (aa (pv 1) ae))))),?_⟩
  try rw[bw]
  have lz:us.length=zss.length:=hC.len;refine⟨_,rfl,l,_,rfl,.inl (aj.of hl),us.length,by simp,lu,λq ts H1 hq km o6 s1=>⟨q,rfl,⟨_,aj.of km⟩,?_⟩⟩;rw[lz] at o6;have lT:ts.length=(de zss.length zss.length).length:=o6.len;have lb:(de zss.length zss.length).length<=10000:=aap (jV _ _) (aap (acx (by omega) (by omega):_<=100*100) (by decide));refine cA (K:=K) (xs:=ts.map V.ref) (λi ys H2=>au H1 H2/\∃vs,ys=vs.map V.ref/\bN H2 vs (((de zss.length zss.length).take i).filter (fQ (aF ms) zss))) ⟨au.refl _,[],rfl,.nil⟩ ?_ ?_ ?_ ?_
  ·rintro i ys H2 hi ⟨_,vs,rfl,hP⟩;rw[aak,hP.len];refine aap (aa' _ _) (aap (List.length_take_le _ _) ?_);exact aap (by rw[aak] at hi;omega:i<=10000) (by decide)
  ·rintro i ys H2 _ ⟨s2,_⟩;exact aj.of (s2 _ _ km)
  ·rintro i v ys H2 R hv ⟨s2,vs,rfl,hP⟩ kR;rw[aaq] at hv;obtain⟨t,et,rfl⟩:=aar.mp hv;obtain⟨p,ep,ht⟩:=o6.get et;obtain⟨m1,m2,m3⟩:=jW (aat ep);have s02:=s1.trans s2;have b1:p.1<us.length:=by omega
   have b2:p.2<us.length:=by omega
   have e1:us[p.1]?=some us[p.1]:=aam b1;have e2:us[p.2]?=some us[p.2]:=aam b2;obtain⟨xs,ex,hx⟩:=(hC.same s02).get e1;obtain⟨zs,ez,hz⟩:=(hC.same s02).get e2;have ec:bS (aF ms) xs zs=fQ (aF ms) zss p:=by unfold fQ;rw[bP ex,bP ez]
   have fin:((de zss.length zss.length).take (i+1)).filter (fQ (aF ms) zss)=((de zss.length zss.length).take i).filter (fQ (aF ms) zss)++(if fQ (aF ms) zss p=true then [p] else []):=by rw[aaI,ep,abt];congr 1;rw[abL,abv];rfl
   refine⟨t,_,rfl,aL.of (s2 _ _ ht),rfl,_,_,rfl,_,_,rfl,rfl,?_⟩;refine⟨_,rfl,_,rfl,_,rfl,l,_,_,_,rfl,rfl,aj.of (s02 _ _ hl),bc (j:=p.1) (v:=.ref us[p.1]) (by simp[b1]),_,rfl,_,rfl,l,_,_,_,rfl,rfl,aj.of (s02 _ _ hl),bc (j:=p.2) (v:=.ref us[p.2]) (by simp[b2]),?_⟩;refine⟨x,us[p.1],us[p.2],ms,xs,zs,ps,rfl,hW.same s02,lm,hx,hz,λH3 s3=>⟨_,rfl,?_⟩⟩;rw[ec];show(if fQ (aF ms) zss p=true then _ else _)
   by_cases hb:fQ (aF ms) zss p=true
   ·rw[if_pos hb];rw[if_pos hb] at fin;refine⟨_,rfl,_,rfl,(show 2<=sizeLine by decide),λpp uH=>kR _ _ ⟨s2.trans (s3.trans (ai uH)),vs++[pp],by simp,?_⟩⟩;rw[fin];exact bN.snoc (hP.same (s3.trans (ai uH))) af
   ·rw[if_neg hb];rw[if_neg hb,abr] at fin;exact kR _ _ ⟨s2.trans s3,vs,rfl,by rw[fin];exact hP.same s3⟩
  ·rintro ys H2 ⟨s2,vs,rfl,hP⟩ D0 i7;rw[aak,lT,aaF (aal _)] at hP;exact k D0 vs _ ((s1.trans s2).free i7) af (hP.same (ai i7)) (s1.trans (s2.trans (ai i7)))
def Dr(C:Addr)(H:Hp)(x l:Addr)(ns ms:List Str)(ps:List (Str×Str))(us:List Addr)(zss:List (List Str)):Prop:=
 a8 C H x ms ps/\ms.Perm ns/\GoodW ms ps/\H l=some (.lst (us.map V.ref))/\aP H us zss/\(∀zs∈zss,dw ns ps zs)/\us.length<=100
def zo(C:Addr):Sp:=λvs H Q _=>∃(x l:Addr) (ns ms:List Str) (ps:List (Str×Str)) (us:List Addr) (zss:List (List Str)),vs=[.ref x,.ref l]/\Dr C H x l ns ms ps us zss /\
 ∀q ts H',H q=none->H' q=some (.lst (ts.map V.ref))->bN H' ts (jh (aF ms) zss)->au H H'->Q (.ref q) H'
theorem Vh:aG ["web","family"] ["web","family"] (ak nZ):=⟨rfl,rfl,rfl,by decide +kernel,rfl,by decide +kernel,by decide +kernel⟩
theorem FO{f:Addr}{fd:FuncData}(F:a7 K "steps_of" "steps_of" nZ f fd)(D:Xd K mg C fP fS fA eJ dQ fB fO fR gB fF fdP bJ cO cX cK fI fJ gC dN eU)(DP:Df K mg "pairs_of" gZ ["many"] ku iK)(DC:Df K mg "crossing_pairs" w4 ["web","family"] o5 kN)(T:bt mg):av P w K mg base aB 6 f fd ["web","family"] (zo C):=by
 have GF:av P w K mg base aB 5 fF eU ["web","family"] (iJ C):=ik D.f.fn D.cd D.cc T;have GC:av P w K mg base aB 4 o5 kN ["web","family"] (Bb C):=HR DC.fn D DP T;refine F.ok Vh (λvs H Q E h=>?_) (λcdv A outer s H vs Q E hr h=>?_)
 ·obtain⟨x,l,ns,ms,ps,us,zss,rfl,_⟩:=h;rfl
 ·obtain⟨x,l,ns,ms,ps,us,zss,rfl,⟨hW,pm,g,hl,hC,all,lu⟩,k⟩:=h;have h4:=hr.mono (j:=4) (by decide);refine⟨_,ag (aW (ar GF hr rfl D.f.aK D.f.fn.kp D.f.b .nil ax (aa (pv 0) (aa (pv 1) ae))))
   (ao (aI (ar GC h4 rfl DC.aK DC.fn.kp DC.b .nil ax (aa (pv 0) (aa (pv 1) ae))))),?_⟩
  try rw[bw]
  refine⟨_,rfl,_,rfl,x,l,ns,ms,ps,us,zss,rfl,hW,pm,g,hl,hC,all,λH1 s1=>?_⟩;exact⟨_,rfl,_,rfl,x,l,ms,ps,us,zss,rfl,hW.same s1,g.good.aJ,s1 _ _ hl,hC.same s1,lu,λq ts H2 hq fv hP s2=>k q ts H2 (s1.free hq) fv hP (s1.trans s2)⟩
end
abbrev lL:Stmt:=top 50 -- Wd
abbrev iV:Stmt:=top 51 -- behind
abbrev jX:Stmt:=top 52 -- We
def ck(ns:List Str)(zss:List (List Str))(p:Nat×Nat):List (List Str):=(zss.set p.1 (both ns (zss.getD p.1 []) (zss.getD p.2 []))).set p.2 (either ns (zss.getD p.1 []) (zss.getD p.2 []))
theorem kO(ns:List Str)(zss:List (List Str))(p:Nat×Nat):(ck ns zss p).length=zss.length:=by simp[ck]
theorem aP.set{H:Hp}:∀{us:List Addr} {zss:List (List Str)} {i:Nat} {u:Addr} {zs:List Str},aP H us zss->H u=some (.tup (zs.map V.str))->aP H (us.set i u) (zss.set i zs)
 |[],_,_,_,_,.nil,_=>.nil
 |_::_,_,0,_,_,.cons _ t,e=>.cons e t
 |_::_,_,i+1,_,_,.cons r t,e=>.cons r (aP.set (i:=i) t e)
section
variable {P:Program}{w:World}{K:PySem.W.Frag}{mg:Str->Option Value}{base:Heap}
variable {C fP fS fA eJ dQ fB fO fR gB fF ku o5 fW HS uI:Addr}{fdP bJ cO cX cK fI fJ gC dN eU iK kN MG Bc n0:FuncData}
def w5:Sp:=λvs H Q _=>∃(n:Nat) (u:Addr) (p:Nat×Nat),vs=[.int n,.ref u]/\H u=some (.tup [.int (p.1:Nat),.int (p.2:Nat)])/\p.1<p.2/\p.2<n/\Q (.bl true) H
theorem Vi:aG ["many","thing"] ["many","thing"] (ak lL):=⟨rfl,rfl,rfl,by decide +kernel,rfl,by decide +kernel,by decide +kernel⟩
theorem Ds{f:Addr}{fd:FuncData}(F:a7 K "is_pair" "is_pair" lL f fd)(DW:Df K mg "is_whole" jb ["thing"] fW MG)(T:bt mg):av P w K mg base aB 2 f fd ["many","thing"] w5:=by
 have GW:av P w K mg base aB 1 fW MG ["thing"] (rZ (K:=K)):=we DW.fn T;refine F.ok Vi (λvs H Q E h=>?_) (λcdv A outer s H vs Q E hr h=>?_)
 ·obtain⟨n,u,p,rfl,_⟩:=h;rfl
 ·obtain⟨n,u,p,rfl,hu,lt,ln,k⟩:=h;refine⟨_,ag (bu (PW.pt (fG (bO (bG (ay (bQ (T:="tuple")) (by rfl) T.dW abm (aa (pv 1) (aa (dg (v:=.ty "tuple") rfl T.tuple aa5 rfl) ae))) (λ_=>rfl)))
    (fh (aQ vb (ay aA (by rfl) T.len aax (aa (pv 1) ae)) aE (aV _))))) (ao (aI eZ)) aT)
   (ao (aI (eD (ar GW hr rfl DW.aK DW.fn.kp DW.b .nil ax (aa (bj jK (pv 1) aE (λ_ _=>rfl)) ae))
    (eD (ar GW hr rfl DW.aK DW.fn.kp DW.b .nil ax (aa (bj jK (pv 1) aE (λ_ _=>rfl)) ae))
    (eC (Dq jB iw iw aE (bj jK (pv 1) aE (λ_ _=>rfl)) (bj jK (pv 1) aE (λ_ _=>rfl)) (pv 0))))))),?_⟩
  try rw[bw]
  refine⟨_,rfl,_,_,true,rfl,.tup hu,rfl,_,rfl,?_⟩;refine aZ ⟨_,rfl,u,_,rfl,.inr (aL.of hu),rfl,_,rfl,?_⟩;refine aZ ?_;have a0:eF [V.int (p.1:Nat),V.int (p.2:Nat)] 0=some (.int (p.1:Nat)):=rfl;have a1:eF [V.int (p.1:Nat),V.int (p.2:Nat)] 1=some (.int (p.2:Nat)):=rfl;refine⟨_,rfl,u,_,_,_,rfl,rfl,aL.of hu,a0,_,_,true,false,rfl,.int _,rfl,rfl,_,rfl,?_⟩;refine bo ⟨_,rfl,u,_,_,_,rfl,rfl,aL.of hu,a1,_,_,true,false,rfl,.int _,rfl,rfl,_,rfl,?_⟩;refine bo ⟨_,rfl,u,_,_,_,rfl,rfl,aL.of hu,a0,_,_,rfl,rfl,_,rfl,?_⟩;rw[decide_eq_true (show(0:Int)<=(p.1:Nat) by omega)];refine bo ⟨_,rfl,u,_,_,_,rfl,rfl,aL.of hu,a1,_,_,rfl,rfl,_,rfl,?_⟩;rw[decide_eq_true (show((p.1:Nat):Int)<(p.2:Nat) by omega)];refine bo ⟨_,rfl,_,_,rfl,rfl,?_⟩;show Q (.bl (decide (((p.2:Nat):Int)<(n:Nat)))) H
  rw[decide_eq_true (show((p.2:Nat):Int)<(n:Nat) by omega)];exact k
def qa(C:Addr):Sp:=λvs H Q _=>∃(x l:Addr) (ms:List Str) (ps:List (Str×Str)) (us:List Addr) (zss:List (List Str)) (p:Nat×Nat),vs=[.ref x,.ref l,.int (p.1:Nat),.int (p.2:Nat)]/\a8 C H x ms ps/\ms.length<=12/\H l=some (.lst (us.map V.ref))/\aP H us zss/\p.1<p.2/\p.2<us.length /\
 ∀q ts H',H q=none->H' q=some (.lst (ts.map V.ref))->aP H' ts (ck (aF ms) zss p)->au H H'->Q (.ref q) H'
abbrev XY:List Str:=["web","family","i","j","after"]
theorem MH:aG XY ["web","family","i","j"] (ak iV):=⟨rfl,rfl,rfl,by decide +kernel,rfl,by decide +kernel,by decide +kernel⟩
theorem uJ{f:Addr}{fd:FuncData}(F:a7 K "behind" "behind" iV f fd)(M:Mt K mg C fP fS fdP bJ)(DB:Df K mg "had_by_both" nX gK fB fI)(DO:Df K mg "had_by_one" nY gK fO fJ)(T:bt mg):av P w K mg base aB 3 f fd ["web","family","i","j"] (qa C):=by
 have GB:av P w K mg base aB 2 fB fI gK (vh C):=wQ DB.fn M T;have GO:av P w K mg base aB 2 fO fJ gK (vi C):=wR DO.fn M T;refine F.ok MH (λvs H Q E h=>?_) (λcdv A outer s H vs Q E hr h=>?_)
 ·obtain⟨x,l,ms,ps,us,zss,p,rfl,_⟩:=h;rfl
 ·obtain⟨x,l,ms,ps,us,zss,p,rfl,hW,lm,hl,hC,lt,ln,k⟩:=h;refine⟨_,ag (aN (i:=4) MH.nd rfl (Or.inl rfl) (bp cE (by rfl) T.list aa1 (aa (pv 1) ae)))
   (ag (iu (ar GB hr rfl DB.aK DB.fn.kp DB.b .nil ax (aa (pv 0) (aa (bj aX (pv 1) (pv 2) (λ_ _=>rfl)) (aa (bj aX (pv 1) (pv 3) (λ_ _=>rfl)) ae)))) (qq (pv 4) (pv 2) set_list))
   (ag (iu (ar GO hr rfl DO.aK DO.fn.kp DO.b .nil ax (aa (pv 0) (aa (bj aX (pv 1) (pv 2) (λ_ _=>rfl)) (aa (bj aX (pv 1) (pv 3) (λ_ _=>rfl)) ae)))) (qq (pv 4) (pv 3) set_list))
   (ao (aI (pv 4))))),?_⟩
  try rw[bw]
  refine⟨_,rfl,l,_,rfl,.inl (aj.of hl),λq hq=>?_⟩;have s1:=ai (o:=.lst (us.map V.ref)) hq;have km:=af (H:=H) (a:=q) (o:=.lst (us.map V.ref));change kE _ _ _ _ (upd H q (.lst (us.map V.ref)));generalize upd H q (.lst (us.map V.ref))=H1 at s1 km⊢;have b1:p.1<us.length:=by omega
  have e1:us[p.1]?=some us[p.1]:=aam b1;have e2:us[p.2]?=some us[p.2]:=aam ln;have a1:eF (us.map V.ref) ((p.1:Nat):Int)=some (.ref us[p.1]):=bc (j:=p.1) (by simp[b1]);have a2:eF (us.map V.ref) ((p.2:Nat):Int)=some (.ref us[p.2]):=bc (j:=p.2) (by simp[ln]);obtain⟨xs,ex,hx⟩:=hC.get e1;obtain⟨zs,ez,hz⟩:=hC.get e2;refine⟨_,rfl,_,rfl,_,rfl,l,_,_,_,rfl,rfl,aj.of (s1 _ _ hl),a1,_,rfl,_,rfl,l,_,_,_,rfl,rfl,aj.of (s1 _ _ hl),a2,?_⟩;refine⟨x,us[p.1],us[p.2],ms,xs,zs,ps,rfl,hW.same s1,lm,s1 _ _ hx,s1 _ _ hz,λl1 H2 iG s2=>?_⟩;have fv:=s2 _ _ km;refine⟨_,rfl,_,rfl,q,_,_,p.1,rfl,rfl,fv,sI (by simp[b1]),?_⟩;have n1:l1≠q:=cF iG fv (by intro z;cases z);have s3:au H (upd H2 q (.lst ((us.map V.ref).set p.1 (.ref l1)))):=au.ba (s1.trans s2) hq;have dF:=af (H:=H2) (a:=q) (o:=.lst ((us.map V.ref).set p.1 (.ref l1)));have jy:(upd H2 q (.lst ((us.map V.ref).set p.1 (.ref l1)))) l1=some (.tup ((both (aF ms) xs zs).map V.str)):=by rw[L2.aq n1];exact iG
  show kE _ _ _ _ (upd H2 q (.lst ((us.map V.ref).set p.1 (.ref l1))))
  generalize upd H2 q (.lst ((us.map V.ref).set p.1 (.ref l1)))=H3 at s3 dF jy⊢;refine⟨_,rfl,_,rfl,_,rfl,l,_,_,_,rfl,rfl,aj.of (s3 _ _ hl),a1,_,rfl,_,rfl,l,_,_,_,rfl,rfl,aj.of (s3 _ _ hl),a2,?_⟩;refine⟨x,us[p.1],us[p.2],ms,xs,zs,ps,rfl,hW.same s3,lm,s3 _ _ hx,s3 _ _ hz,λl2 H4 hl2 s4=>?_⟩;have lG:=s4 _ _ dF;refine⟨_,rfl,_,rfl,q,_,_,p.2,rfl,rfl,lG,sI (by simp[ln]),?_⟩;have n2:l2≠q:=cF hl2 lG (by intro z;cases z);refine⟨_,rfl,?_⟩;have s5:au H (upd H4 q (.lst (((us.map V.ref).set p.1 (.ref l1)).set p.2 (.ref l2)))):=au.ba (s3.trans s4) hq;refine k q ((us.set p.1 l1).set p.2 l2) _ hq (by rw[af,aeJ,aeJ]) ?_ s5;unfold ck;rw[bP ex,bP ez];refine aP.set (aP.set (hC.same s5) ?_) ?_
  ·rw[L2.aq n1];exact s4 _ _ jy
  ·rw[L2.aq n2];exact hl2
def uK(C:Addr):Sp:=λvs H Q _=>∃(x l st:Addr) (ns ms:List Str) (ps:List (Str×Str)) (us:List Addr) (zss:List (List Str)) (p:Nat×Nat),vs=[.ref x,.ref l,.ref st]/\Dr C H x l ns ms ps us zss/\H st=some (.tup [.int (p.1:Nat),.int (p.2:Nat)])/\p.1<p.2/\p.2<us.length/\fQ (aF ms) zss p=true /\
 ∀q ts H',H q=none->H' q=some (.lst (ts.map V.ref))->aP H' ts (ck (aF ms) zss p)->au H H'->Q (.ref q) H'
abbrev Vj:List Str:=["web","family","step","i","j"]
theorem Bd:aG Vj ["web","family","step"] (ak jX):=⟨rfl,rfl,rfl,by decide +kernel,rfl,by decide +kernel,by decide +kernel⟩
theorem Be{f:Addr}{fd:FuncData}(F:a7 K "stepped" "stepped" jX f fd)(D:Xd K mg C fP fS fA eJ dQ fB fO fR gB fF fdP bJ cO cX cK fI fJ gC dN eU)(DW:Df K mg "is_whole" jb ["thing"] fW MG)(DI:Df K mg "is_pair" lL ["many","thing"] HS Bc)(DB:Df K mg "behind" iV ["web","family","i","j"] uI n0)(T:bt mg) :
  av P w K mg base aB 6 f fd ["web","family","step"] (uK C):=by
 have GF:av P w K mg base aB 5 fF eU ["web","family"] (iJ C):=ik D.f.fn D.cd D.cc T;have GI:av P w K mg base aB 2 HS Bc ["many","thing"] w5:=Ds DI.fn DW T;have GA:av P w K mg base aB 3 fR gC ["web","cut","other"] (qZ C):=q0 D.r.fn D.cd.m D.b D.o T;have GB:av P w K mg base aB 3 uI n0 ["web","family","i","j"] (qa C):=uJ DB.fn D.cd.m D.b D.o T;refine F.ok Bd (λvs H Q E h=>?_) (λcdv A outer s H vs Q E hr h=>?_)
 ·obtain⟨x,l,st,ns,ms,ps,us,zss,p,rfl,_⟩:=h;rfl
 ·obtain⟨x,l,st,ns,ms,ps,us,zss,p,rfl,⟨hW,pm,g,hl,hC,all,lu⟩,hst,lt,ln,cr,k⟩:=h;have h2:=hr.mono (j:=2) (by decide);have h3:=hr.mono (j:=3) (by decide);refine⟨_,ag (aW (ar GF hr rfl D.f.aK D.f.fn.kp D.f.b .nil ax (aa (pv 0) (aa (pv 1) ae))))
   (ag (bu (bO (bG (ar GI h2 rfl DI.aK DI.fn.kp DI.b .nil ax (aa (ay aA (by rfl) T.len aax (aa (pv 1) ae)) (aa (pv 2) ae))) (λ_=>rfl))) (ao cN) aT)
   (ag (iu (pv 2) (cI rfl (aO (aD (i:=3) Bd.nd rfl (Or.inl rfl)) (aO (aD (i:=4) Bd.nd rfl (Or.inl rfl)) cg))))
   (ag (bu (bO (bG (ar GA h3 rfl D.r.aK D.r.fn.kp D.r.b .nil ax (aa (pv 0) (aa (bj aX (pv 1) (pv 3) (λ_ _=>rfl)) (aa (bj aX (pv 1) (pv 4) (λ_ _=>rfl)) ae)))) (λ_=>rfl))) (ao cN) aT)
   (ao (aI (ar GB h3 rfl DB.aK DB.fn.kp DB.b .nil ax (aa (pv 0) (aa (pv 1) (aa (pv 3) (aa (pv 4) ae)))))))))),?_⟩
  try rw[bw]
  refine⟨_,rfl,_,rfl,x,l,ns,ms,ps,us,zss,rfl,hW,pm,g,hl,hC,all,λH1 s1=>?_⟩;refine⟨_,rfl,l,_,rfl,.inl (aj.of (s1 _ _ hl)),_,rfl,us.length,st,p,by simp,s1 _ _ hst,lt,ln,_,rfl,?_⟩;refine aZ ⟨_,rfl,st,_,rfl,aL.of (s1 _ _ hst),rfl,_,_,rfl,_,_,rfl,rfl,?_⟩;have b1:p.1<us.length:=by omega
  have e1:us[p.1]?=some us[p.1]:=aam b1;have e2:us[p.2]?=some us[p.2]:=aam ln;have a1:eF (us.map V.ref) ((p.1:Nat):Int)=some (.ref us[p.1]):=bc (j:=p.1) (by simp[b1]);have a2:eF (us.map V.ref) ((p.2:Nat):Int)=some (.ref us[p.2]):=bc (j:=p.2) (by simp[ln]);obtain⟨xs,ex,hx⟩:=hC.get e1;obtain⟨zs,ez,hz⟩:=hC.get e2;refine⟨_,rfl,_,rfl,_,rfl,l,_,_,_,rfl,rfl,aj.of (s1 _ _ hl),a1,_,rfl,_,rfl,l,_,_,_,rfl,rfl,aj.of (s1 _ _ hl),a2,?_⟩;refine⟨x,us[p.1],us[p.2],ms,xs,zs,ps,rfl,hW.same s1,g.good.aJ,s1 _ _ hx,s1 _ _ hz,λH2 s2=>⟨_,rfl,?_⟩⟩;have ec:bS (aF ms) xs zs=true:=by unfold fQ at cr;rw[bP ex,bP ez] at cr;exact cr
  rw[ec];have s12:=s1.trans s2;refine aZ ⟨_,rfl,_,rfl,_,rfl,_,rfl,x,l,ms,ps,us,zss,p,rfl,hW.same s12,g.good.aJ,s12 _ _ hl,hC.same s12,lt,ln,λq ts H3 hq dF zf s3=>k q ts H3 (s12.free hq) dF zf (s12.trans s3)⟩
end
end dJ
namespace L3
open PySem
def o7(m:Nat)(p:Probe):Probe:=
 if p.more > 0 then {p with j:=p.j+1,more:=p.more-1} else
 let (i,perturb):=SetTable.leap m p.i p.perturb
 {p with j:=i,more:=SetTable.runEnd m i-i,i,perturb}
def start(m:Nat)(h:Int):Probe:={j:=SetTable.bits h % (m+1),more:=SetTable.runEnd m (SetTable.bits h % (m+1))-SetTable.bits h % (m+1),i:=SetTable.bits h % (m+1),perturb:=SetTable.bits h,dummy:=none}
def st(m:Nat)(h:Int):Nat->Probe
 |0=>start m h
 |k+1=>o7 m (st m h k)
def sl(m:Nat)(h:Int)(k:Nat):Nat:=(st m h k).j
theorem Dt(m:Nat)(p:Probe)(h:p.dummy=none):(o7 m p).dummy=none:=by unfold o7;split<;>exact h
theorem w6(m:Nat)(h:Int):∀k,(st m h k).dummy=none
 |0=>rfl
 |k+1=>Dt m _ (w6 m h k)
def lp(m:Nat)(h:Int):Nat->Nat×Nat
 |0=>(SetTable.bits h % (m+1),SetTable.bits h)
 |k+1=>SetTable.leap m (lp m h k).1 (lp m h k).2
def at_(m:Nat)(h:Int)(L r:Nat):Probe:={j:=(lp m h L).1+r,more:=SetTable.runEnd m (lp m h L).1-(lp m h L).1-r,i:=(lp m h L).1,perturb:=(lp m h L).2,dummy:=none}
def run(m:Nat)(h:Int)(L:Nat):Nat:=SetTable.runEnd m (lp m h L).1-(lp m h L).1
theorem Du(m:Nat)(h:Int)(L:Nat):run m h L<=9:=by unfold run SetTable.runEnd;split<;>omega
def off(m:Nat)(h:Int):Nat->Nat
 |0=>0
 |L+1=>off m h L+run m h L+1
theorem xa(m:Nat)(h:Int):∀L,off m h L<=10*L
 |0=>aal _
 |L+1=>by have:=xa m h L;have:=Du m h L;unfold off;omega
theorem xb(m:Nat)(h:Int):∀(L r:Nat),r<=run m h L->st m h (off m h L+r)=at_ m h L r
 |0,0,_=>by simp[off,st,start,at_,lp]
 |L+1,0,_=>by
  show o7 m (st m h (off m h L+run m h L))=_
  rw[xb m h L (run m h L) (aal _)];unfold o7 at_;rw[if_neg (by unfold run;simp)];simp[lp]
 |L,r+1,hr=>by
  show o7 m (st m h (off m h L+r))=_
  rw[xb m h L r (by omega)];unfold o7 at_;rw[if_pos (by unfold run at hr;simp;omega)];simp;omega
theorem oa{m:Nat}{h:Int}{L r:Nat}(hr:r<=run m h L):sl m h (off m h L+r)=(lp m h L).1+r:=by unfold sl;rw[xb m h L r hr];rfl
theorem JW(h:Int):SetTable.bits h<2 ^ 64:=by unfold SetTable.bits;have a:=adQ h (show(2 ^ 64:Int)≠0 by decide);have b:=adi h (show(0:Int)<2 ^ 64 by decide);omega
theorem Dv(m:Nat)(h:Int):∀k,(lp m h k).2=SetTable.bits h / 32 ^ k
 |0=>by simp[lp]
 |k+1=>by
  show(lp m h k).2 / 32=_
  rw[Dv m h k,Nat.div_div_eq_div_mul,Nat.pow_succ]
theorem JX(m:Nat)(h:Int)(k:Nat):(lp m h (13+k)).2=0:=by rw[Dv];refine Nat.div_eq_of_lt (aaT (JW h) ?_);rw[Nat.pow_add];exact aap (by decide:2 ^ 64<=32 ^ 13) (Nat.le_mul_of_pos_right _ (Nat.pow_pos (by decide)))
theorem HU(m:Nat)(h:Int):∀k,(lp m h k).1<m+1
 |0=>ac' _ (adH _)
 |k+1=>ac' _ (adH _)
def it(m:Nat)(i:Nat):Nat->Nat
 |0=>i
 |k+1=>(it m i k*5+1) % (m+1)
theorem Bf(m:Nat)(h:Int):∀k,(lp m h (13+k)).1=it m (lp m h 13).1 k
 |0=>rfl
 |k+1=>by
  show(SetTable.leap m (lp m h (13+k)).1 (lp m h (13+k)).2).1=_
  have z:(lp m h (13+k)).2 / 32=0:=by rw[JX]
  unfold SetTable.leap;rw[z,Bf m h k];rfl
theorem XZ:∀i j:Fin 8,∃k:Fin 8,it 7 i.val k.val=j.val:=by decide +kernel
theorem Vk:∀i j:Fin 32,∃k:Fin 32,it 31 i.val k.val=j.val:=by decide +kernel
theorem HV{m:Nat}(hm:m=7\/m=31)(h:Int){j:Nat}(hj:j<=m):∃L,L<m+15/\(lp m h L).1=j:=by
 have i:=HU m h 13;rcases hm with rfl|rfl
 ·obtain⟨k,e⟩:=XZ ⟨_,i⟩ ⟨j,by omega⟩;exact⟨13+k.val,by omega,by rw[Bf];exact e⟩
 ·obtain⟨k,e⟩:=Vk ⟨_,i⟩ ⟨j,by omega⟩;exact⟨13+k.val,by omega,by rw[Bf];exact e⟩
theorem cover{m:Nat}(hm:m=7\/m=31)(h:Int){j:Nat}(hj:j<=m):∃k,k<10*SetTable.turns m/\sl m h k=j:=by
 obtain⟨L,hL,e⟩:=HV hm h hj;refine⟨off m h L+0,?_,by rw[oa (aaZ _)];exact e⟩
 have:=xa m h L
 unfold SetTable.turns;omega
theorem least{P:Nat->Prop}:∀n,P n->∃m,m<=n/\P m/\∀k,k<m->¬ P k:=by
 intro n;induction n using Nat.strongRecOn with
 |ind n ih=>
  intro h;by_cases q:∃k,k<n/\P k
  ·obtain⟨k,hk,pk⟩:=q;obtain⟨m,a,b,c⟩:=ih k hk pk;exact⟨m,by omega,b,c⟩
  ·exact⟨n,aal _,h,λk hk pk=>q ⟨k,hk,pk⟩⟩
theorem xc{α:Type}[DecidableEq α]:∀{l m:List α},l.Nodup->(∀x∈l,x∈m)->l.length<=m.length
 |[],m,_,_=>aaZ _
 |x::l,m,h,k=>by
  obtain⟨h1,h2⟩:=aa6.mp h;have mx:=k x aau
  have:=xc (m:=m.erase x) h2 λy hy=>(aen (a:=y) (b:=x) (λe=>h1 (by rw[<-e];exact hy))).mpr (k y (aaw _ hy))
  rw[acJ mx] at this;have pos:=abR mx;rw[aa0];omega
theorem iP{α:Type}(xs:Array α){p:Nat}(hp:p<=xs.size)(x:α)(i:Nat):(SetTable.insertAt xs p x)[i]?=if i<p then xs[i]? else if i=p then some x else xs[i-1]?:=by
 rw[<-aa9,SetTable.toList_insertAt];have lt:(xs.toList.take p).length=p:=by rw[aaR];simp;omega
 by_cases h:i<p
 ·rw[if_pos h,abf (by omega),List.getElem?_take,if_pos h,aa9]
 ·rw[if_neg h,abn (by omega),lt];by_cases e:i=p
  ·subst e;simp
  ·rw[if_neg e];obtain⟨d,rfl⟩:∃d,i=p+1+d:=⟨i-(p+1),by omega⟩
   rw[show p+1+d-p=d+1 by omega,List.getElem?_cons_succ,List.getElem?_drop,aa9];congr 1;omega
structure Tab(t:SetTable)(es:Array (Int×Value)):Prop where
 rise:jS t.place
 size:t.place.size=es.size
 xf:t.dummies=#[]
 xg:t.mask=7\/t.mask=31
 le:∀i j:Nat,t.place[i]?=some j->j<=t.mask
 aJ:es.size<=t.mask
 wp:∀(i j:Nat) (e:Int×Value),t.place[i]?=some j->es[i]?=some e->∃k,k<10*SetTable.turns t.mask/\sl t.mask e.1 k=j/\∀k',k'<k->∃i':Nat,t.place[i']?=some (sl t.mask e.1 k')
theorem Tab.fits{t:SetTable}{es:Array (Int×Value)}(T:Tab t es):t.fits es.size=true:=by
 unfold SetTable.fits SetTable.fill;rw[T.size,T.xf]
 have:=T.aJ
 simp;omega
theorem Tab.LW{t:SetTable}{es:Array (Int×Value)}(T:Tab t es):t.gaveWay=false:=by unfold SetTable.gaveWay;rcases T.xg with e|e<;>rw[e]<;>rfl
theorem Tab.free{t:SetTable}{es:Array (Int×Value)}(T:Tab t es):∃j,j<=t.mask/\∀i:Nat,t.place[i]?≠some j:=by
 refine ach λno=>?_;have all:∀j,j<=t.mask->∃i:Nat,t.place[i]?=some j:=λj hj=>ach λq=>no ⟨j,hj,λi e=>q ⟨i,e⟩⟩;have l:=xc (l:=List.range (t.mask+1)) (m:=t.place.toList) acy λj hj=>by obtain⟨i,e⟩:=all j (by have:=abl.mp hj;omega);rw[<-aa9] at e;exact aat e
 rw[ace,aaV,T.size] at l
 have:=T.aJ
 omega
theorem Tab.first{t:SetTable}{es:Array (Int×Value)}(T:Tab t es)(h:Int):∃K,K<10*SetTable.turns t.mask/\(∀i:Nat,t.place[i]?≠some (sl t.mask h K))/\∀k,k<K->∃i:Nat,t.place[i]?=some (sl t.mask h k):=by obtain⟨j,hj,e⟩:=T.free;obtain⟨k,hk,es⟩:=cover T.xg h hj;obtain⟨K,a,b,c⟩:=least (P:=λk=>∀i:Nat,t.place[i]?≠some (sl t.mask h k)) k (by rw[es];exact e);exact⟨K,by omega,b,λk' gS=>ach λq=>c k' gS λi e=>q ⟨i,e⟩⟩
theorem zq{t:SetTable}{es:Array (Int×Value)}(T:Tab t es)(hashAt:Nat->Int)(h:Int):∀(f k:Nat),(∃K,k<=K/\K<k+f/\∀i:Nat,t.place[i]?≠some (sl t.mask h K)) ->
  ∃n,k<=n/\(∀k',k<=k'->k'<n->∃i:Nat,t.place[i]?=some (sl t.mask h k')/\(hashAt i==h)=false) /\
   (((∀i:Nat,t.place[i]?≠some (sl t.mask h n))/\SetTable.probe.go t hashAt h f (st t.mask h k)=some (.empty (sl t.mask h n) none)) \/
   ∃i:Nat,t.place[i]?=some (sl t.mask h n)/\(hashAt i==h)=true/\SetTable.probe.go t hashAt h f (st t.mask h k)=some (.candidate (sl t.mask h n) i (st t.mask h (n+1))))
 |0,k,⟨K,a,b,_⟩=>by omega
 |f+1,k,⟨K,a,b,c⟩=>by
  have ej:(st t.mask h k).j=sl t.mask h k:=rfl;by_cases em:∃i:Nat,t.place[i]?=some (sl t.mask h k)
  ·obtain⟨i,ei⟩:=em;cases hh:hashAt i==h with
   |true =>refine⟨k,aal _,λk' x y=>by omega,.inr ⟨i,ei,hh,?_⟩⟩;rw[SetTable.probe.go,ej,nM T.rise ei];dsimp only;rw[hh];rfl
   |false=>
    have ne:k≠K:=λe=>c i (e▸ei);obtain⟨n,n1,n2,n3⟩:=zq T hashAt h f (k+1) ⟨K,by omega,by omega,c⟩;have e:SetTable.probe.go t hashAt h (f+1) (st t.mask h k)=SetTable.probe.go t hashAt h f (st t.mask h (k+1)):=by rw[SetTable.probe.go,ej,nM T.rise ei];dsimp only;rw[hh];rfl
    rw[e];refine⟨n,by omega,λk' x y=>?_,n3⟩;by_cases q:k'=k
    ·subst q;exact⟨i,ei,hh⟩
    ·exact n2 k' (by omega) y
  ·refine⟨k,aal _,λk' x y=>by omega,.inl ⟨λi e=>em ⟨i,e⟩,?_⟩⟩;rw[SetTable.probe.go,ej,AV T.xf (λi e=>em ⟨i,e⟩)];dsimp only;rw[w6]
theorem Tab.put{t:SetTable}{es:Array (Int×Value)}(T:Tab t es){h:Int}{x:Value}{K:Nat}(room:es.size+1<=t.mask)(hK:K<10*SetTable.turns t.mask)(hj:∀i:Nat,t.place[i]?≠some (sl t.mask h K))(hb:∀k,k<K->∃i:Nat,t.place[i]?=some (sl t.mask h k))(sle:sl t.mask h K<=t.mask) :
  Tab (t.put (sl t.mask h K)).1 (SetTable.insertAt es (t.put (sl t.mask h K)).2 (h,x)):=by
 obtain⟨b1,b2,b3⟩:=pU T.rise (sl t.mask h K);have ep:(t.put (sl t.mask h K)).2=SetTable.below t.place (sl t.mask h K):=rfl;have em:(t.put (sl t.mask h K)).1.mask=t.mask:=rfl;have Dw:(t.put (sl t.mask h K)).1.place=SetTable.insertAt t.place (SetTable.below t.place (sl t.mask h K)) (sl t.mask h K):=rfl;have ed:(t.put (sl t.mask h K)).1.dummies=#[]:=by
  show(if SetTable.has t.dummies (sl t.mask h K) then _ else t.dummies)=#[]
  have e:SetTable.has t.dummies (sl t.mask h K)=false:=by rw[T.xf];rfl
  rw[e];exact T.xf
 rw[ep];generalize hp:SetTable.below t.place (sl t.mask h K)=p at b1 b2 b3 Dw⊢;generalize (t.put (sl t.mask h K)).1=t' at em Dw ed⊢;have vj:∀{α:Type} (xs:Array α) (x:α),(SetTable.insertAt xs p x).size=xs.size+1:=λxs x=>by rw[<-aaV,(ad8 xs p x).length_eq];simp
 have pe:p<=es.size:=by rw[<-T.size];exact b1
 have get':∀i:Nat,t'.place[i]?=if i<p then t.place[i]? else if i=p then some (sl t.mask h K) else t.place[i-1]?:=λi=>by rw[Dw,iP _ b1]
 have FP:∀i:Nat,(SetTable.insertAt es p (h,x))[i]?=if i<p then es[i]? else if i=p then some (h,x) else es[i-1]?:=λi=>iP _ pe _ i;have up:∀{s:Nat},(∃i:Nat,t.place[i]?=some s)->∃i:Nat,t'.place[i]?=some s:=λ{s} ⟨i,e⟩=>by
  by_cases q:i<p
  ·exact⟨i,by rw[get',if_pos q];exact e⟩
  ·exact⟨i+1,by rw[get',if_neg (by omega),if_neg (by omega),adj];exact e⟩
 refine⟨λi j hi oY ij=>?_,by rw[Dw,vj,vj,T.size],ed,by rw[em];exact T.xg,λi j e=>?_,by rw[em,vj];exact room,λi j e e1 e2=>?_⟩
 ·have g1:=get' i;have g2:=get' j;rw[aaE hi] at g1;rw[aaE oY] at g2;have sz:t'.place.size=t.place.size+1:=by rw[Dw,vj]
  have lo:∀a (ha:a<t.place.size),a<p->t.place[a]<sl t.mask h K:=λa ha q=>b2 a ha q;have hi':∀a (ha:a<t.place.size),p<=a->sl t.mask h K<t.place[a]:=λa ha q=>by
   have:=b3 a ha q
   have ne:t.place[a]≠sl t.mask h K:=λe=>hj a (by rw[aaE ha,e]);omega
  by_cases c1:i<p
  ·rw[if_pos c1,aaE (show i<t.place.size by omega)] at g1;have v1:=aaS g1;rw[v1];by_cases c2:j<p
   ·rw[if_pos c2,aaE (show j<t.place.size by omega)] at g2;rw[aaS g2];exact T.rise _ _ _ _ ij
   ·rw[if_neg c2] at g2;by_cases c3:j=p
    ·rw[if_pos c3] at g2;rw[aaS g2];exact lo i _ c1
    ·rw[if_neg c3,aaE (show j-1<t.place.size by omega)] at g2;rw[aaS g2];exact aeD (lo i _ c1) (hi' (j-1) _ (by omega))
  ·rw[if_neg c1] at g1;rw[if_neg (show ¬ j<p by omega),if_neg (show j≠p by omega),aaE (show j-1<t.place.size by omega)] at g2;rw[aaS g2];by_cases c3:i=p
   ·rw[if_pos c3] at g1;rw[aaS g1];exact hi' (j-1) _ (by omega)
   ·rw[if_neg c3,aaE (show i-1<t.place.size by omega)] at g1;rw[aaS g1];exact T.rise _ _ _ _ (by omega)
 ·rw[get'] at e;rw[em];split at e
  ·exact T.le _ _ e
  ·split at e
   ·cases e;exact sle
   ·exact T.le _ _ e
 ·rw[get'] at e1;rw[FP] at e2;rw[em];have old:∀{i:Nat},t.place[i]?=some j->es[i]?=some e->∃k,k<10*SetTable.turns t.mask/\sl t.mask e.1 k=j/\∀k',k'<k->∃i':Nat,t'.place[i']?=some (sl t.mask e.1 k'):=λ{i} a b=>by obtain⟨k,x1,x2,x3⟩:=T.wp i j e a b;exact⟨k,x1,x2,λk' gS=>up (x3 k' gS)⟩
  split at e1
  ·rename_i c;rw[if_pos c] at e2;exact old e1 e2
  ·rename_i c
   rw[if_neg c] at e2;split at e1
   ·rename_i c2
    rw[if_pos c2] at e2;cases e1;cases e2;exact⟨K,hK,rfl,λk' gS=>up (hb k' gS)⟩
   ·rename_i c2;rw[if_neg c2] at e2;exact old e1 e2
theorem oe{m i:Nat}(h:i<=m):SetTable.runEnd m i<=m:=by unfold SetTable.runEnd;split<;>omega
theorem kA(m i:Nat):i<=SetTable.runEnd m i:=by unfold SetTable.runEnd;split<;>omega
theorem HW(m:Nat)(h:Int):∀k,(st m h k).j+(st m h k).more<=m
 |0=>by
  have a:SetTable.bits h % (m+1)<=m:=aeX (ac' _ (adH m));have b:=oe a;have c:=kA m (SetTable.bits h % (m+1));show SetTable.bits h % (m+1)+(SetTable.runEnd m (SetTable.bits h % (m+1))-SetTable.bits h % (m+1))<=m
  omega
 |k+1=>by
  have ih:=HW m h k;show(o7 m (st m h k)).j+(o7 m (st m h k)).more<=m
  unfold o7;split
  ·dsimp only;omega
  ·have a:(SetTable.leap m (st m h k).i (st m h k).perturb).1<=m:=aeX (ac' _ (adH m));have b:=oe a;have c:=kA m (SetTable.leap m (st m h k).i (st m h k).perturb).1;dsimp only;omega
theorem Bg(m:Nat)(h:Int)(k:Nat):sl m h k<=m:=by have:=HW m h k;unfold sl;omega
structure Own(m:Nat)(hs:List Int)(ow:Array (Option Nat)):Prop where
 size:ow.size=m+1
 has:∀a,a<hs.length->∃j:Nat,ow[j]?=some (some a)
 lt:∀(j a:Nat),ow[j]?=some (some a)->a<hs.length
 inj:∀(i j a:Nat),ow[i]?=some (some a)->ow[j]?=some (some a)->i=j
 wp:∀(j a:Nat) (h:Int),ow[j]?=some (some a)->hs[a]?=some h->∃k,k<10*SetTable.turns m/\sl m h k=j/\∀k',k'<k->∃b:Nat,ow[sl m h k']?=some (some b)
theorem sL{m:Nat}{hs:List Int}{ow:Array (Option Nat)}(O:Own m hs ow){j:Nat}(h:j<=m):ow[j]?=some none\/∃a,ow[j]?=some (some a):=by
 have hj:j<ow.size:=by rw[O.size];omega
 rw[aaE hj];cases e:ow[j] with
 |none=>exact .inl rfl
 |some a=>exact .inr ⟨a,rfl⟩
theorem xh{α β:Type}{f:α->β}:∀{l:List α},l.Nodup->(∀i∈l,∀j∈l,f i=f j->i=j)->(l.map f).Nodup
 |[],_,_=>aci
 |x::l,h,k=>by
  obtain⟨h1,h2⟩:=aa6.mp h;refine aa6.mpr ⟨λm=>?_,xh h2 λi hi j hj=>k i (aaw _ hi) j (aaw _ hj)⟩;obtain⟨y,hy,e⟩:=aaN.mp m
  have:=k y (aaw _ hy) x aau e
  exact h1 (this▸hy)
theorem FQ{m:Nat}{hs:List Int}{ow:Array (Option Nat)}(O:Own m hs ow)(l:hs.length<=m):∃j,j<=m/\ow[j]?=some none:=by
 refine ach λno=>?_;have all:∀j,j<=m->∃a,ow[j]?=some (some a):=λj hj=>(sL O hj).elim (λe=>absurd ⟨j,hj,e⟩ no) id;have f:=xc (l:=(List.range (m+1)).map λj=>((ow[j]?).join).getD 0) (m:=List.range hs.length) (by
   refine xh acy λi hi j hj e=>?_;obtain⟨a,ea⟩:=all i (by have:=abl.mp hi;omega);obtain⟨b,eb⟩:=all j (by have:=abl.mp hj;omega);rw[ea,eb] at e;have e':a=b:=by simpa using e
   subst e';exact O.inj i j a ea eb) λx hx=>by
  obtain⟨j,hj,rfl⟩:=aaN.mp hx;obtain⟨a,ea⟩:=all j (by have:=abl.mp hj;omega);rw[ea];exact abl.mpr (O.lt j a ea)
 rw[aak,ace,ace] at f;omega
theorem uL{m:Nat}{hs:List Int}{ow:Array (Option Nat)}(O:Own m hs ow)(h:Int):∀(f L:Nat),(∃L',L<=L'/\L'<L+f/\ow[(lp m h L').1]?=some none)->(∀k,k<off m h L->∃b:Nat,ow[sl m h k]?=some (some b)) ->
  ∃K,SetTable.layClean.free m ow f (lp m h L).1 (lp m h L).2=some (sl m h K)/\K<10*(L+f)/\ow[sl m h K]?=some none/\∀k,k<K->∃b:Nat,ow[sl m h k]?=some (some b)
 |0,L,⟨L',a,b,_⟩,_=>by omega
 |f+1,L,⟨L',a,b,c⟩,hb=>by
  have il:(lp m h L).1<=m:=by have:=HU m h L;omega
  have re:SetTable.runEnd m (lp m h L).1+1-(lp m h L).1=run m h L+1:=by have:=kA m (lp m h L).1;unfold run;omega
  have inb:∀r,r<=run m h L->(lp m h L).1+r<=m:=λr hr=>by have:=oe il;have:=kA m (lp m h L).1;unfold run at hr;omega
  have gd:∀r,r<=run m h L->((ow.getD ((lp m h L).1+r) (some 0)).isNone=true ↔ ow[(lp m h L).1+r]?=some none):=λr hr=>by
   have hj:(lp m h L).1+r<ow.size:=by rw[O.size];have:=inb r hr;omega
   rw[aaE hj];simp[Array.getD,hj]
  rw[SetTable.layClean.free,re];cases hf:(List.range (run m h L+1)).find? λk=>(ow.getD ((lp m h L).1+k) (some 0)).isNone with
  |some r=>
   dsimp only;obtain⟨h1,h2,h3⟩:=List.find?_range_eq_some.mp hf;have hr:r<=run m h L:=by have:=abl.mp h2;omega
   refine⟨off m h L+r,by rw[oa hr],?_,by rw[oa hr];exact(gd r hr).mp h1,λk hk=>?_⟩
   ·have:=xa m h L;have:=Du m h L;omega
   ·by_cases q:k<off m h L
    ·exact hb k q
    ·obtain⟨r',rfl⟩:∃r',k=off m h L+r':=⟨k-off m h L,by omega⟩
     have hr':r'<=run m h L:=by omega
     rw[oa hr'];have nn:=h3 r' (by omega);rcases sL O (inb r' hr') with e|e
     ·have:=(gd r' hr').mpr e
      rw[this] at nn;cases nn
     ·exact e
  |none=>
   dsimp only;have all:=List.find?_range_eq_none.mp hf;have RM:∀r,r<=run m h L->∃b:Nat,ow[(lp m h L).1+r]?=some (some b):=λr hr=>by
    have nn:=all r (by omega);rcases sL O (inb r hr) with e|e
    ·have:=(gd r hr).mpr e
     rw[this] at nn;cases nn
    ·exact e
   have ne:L≠L':=λe=>by subst e;obtain⟨b,eb⟩:=RM 0 (aaZ _);rw[afV,c] at eb;cases eb
   obtain⟨K,k1,k2,k3,k4⟩:=uL O h f (L+1) ⟨L',by omega,by omega,c⟩ λk hk=>by
    by_cases q:k<off m h L
    ·exact hb k q
    ·obtain⟨r,rfl⟩:∃r,k=off m h L+r:=⟨k-off m h L,by omega⟩
     have hr:r<=run m h L:=by have gS:off m h L+r<off m h L+run m h L+1:=hk;omega
     rw[oa hr];exact RM r hr
   exact⟨K,k1,by omega,k3,k4⟩
theorem FR{m:Nat}{hs:List Int}{ow:Array (Option Nat)}(O:Own m hs ow){h:Int}{K:Nat}(hK:K<10*SetTable.turns m)(e:ow[sl m h K]?=some none)(hb:∀k,k<K->∃b:Nat,ow[sl m h k]?=some (some b)):Own m (hs++[h]) (ow.setIfInBounds (sl m h K) (some hs.length)):=by
 have hj:sl m h K<ow.size:=by rw[O.size];have:=Bg m h K;omega
 have get:∀j:Nat,(ow.setIfInBounds (sl m h K) (some hs.length))[j]?=if sl m h K=j then some (some hs.length) else ow[j]?:=λj=>by
  rw[Array.getElem?_setIfInBounds];by_cases q:sl m h K=j
  ·rw[if_pos q,if_pos q,if_pos hj]
  ·rw[if_neg q,if_neg q]
 have keep:∀{j a:Nat},ow[j]?=some (some a)->(ow.setIfInBounds (sl m h K) (some hs.length))[j]?=some (some a):=λ{j a} q=>by rw[get,if_neg (λz=>by rw[z,q] at e;cases e)];exact q
 refine⟨by rw[Array.size_setIfInBounds];exact O.size,λa ha=>?_,λj a q=>?_,λi j a p q=>?_,λj a g p q=>?_⟩
 ·rw[aaM,abT] at ha;by_cases q:a<hs.length
  ·obtain⟨j,ej⟩:=O.has a q;exact⟨j,keep ej⟩
  ·exact⟨sl m h K,by rw[get,if_pos rfl,show a=hs.length by omega]⟩
 ·rw[get] at q;rw[aaM,abT];split at q
  ·cases q;omega
  ·have:=O.lt j a q;omega
 ·rw[get] at p q;split at p
  ·cases p;split at q
   ·rename_i x y;omega
   ·exact absurd (O.lt _ _ q) (aa8 _)
  ·split at q
   ·cases q;exact absurd (O.lt _ _ p) (aa8 _)
   ·exact O.inj i j a p q
 ·rw[get] at p;split at p
  ·rename_i x
   cases p;rw[abn (aal _),Nat.sub_self] at q;cases q;exact⟨K,hK,x,λk' gS=>let ⟨b,eb⟩:=hb k' gS;⟨b,keep eb⟩⟩
  ·have la:=O.lt j a p;rw[abf la] at q;obtain⟨k,a1,a2,a3⟩:=O.wp j a g p q;exact⟨k,a1,a2,λk' gS=>let ⟨b,eb⟩:=a3 k' gS;⟨b,keep eb⟩⟩
def xi(m:Nat)(acc:Option (Array (Option Nat)×Nat))(h:Int):Option (Array (Option Nat)×Nat):=do
 let (owner,k) <-acc
 let j <-SetTable.layClean.free m owner (SetTable.turns m) (SetTable.bits h % (m+1)) (SetTable.bits h)
 pure (owner.setIfInBounds j (some k),k+1)
theorem zt{m:Nat}(hm:m=7\/m=31):∀(more hs:List Int) (ow:Array (Option Nat)),Own m hs ow->hs.length+more.length<=m->∃ow',more.foldl (xi m) (some (ow,hs.length))=some (ow',(hs++more).length)/\Own m (hs++more) ow'
 |[],hs,ow,O,_=>⟨ow,by simp,by simpa using O⟩
 |h::more,hs,ow,O,l=>by
  rw[aa0] at l;obtain⟨j,hj,ej⟩:=FQ O (by omega);obtain⟨L',l1,l2⟩:=HV hm h hj;obtain⟨K,k1,k2,k3,k4⟩:=uL O h (SetTable.turns m) 0 ⟨L',aaZ _,by unfold SetTable.turns;omega,by rw[l2];exact ej⟩ λk hk=>absurd hk (ab7 _);rw[ab4] at k2;have O':=FR O k2 k3 k4;have e:xi m (some (ow,hs.length)) h=some (ow.setIfInBounds (sl m h K) (some hs.length),(hs++[h]).length):=by unfold xi;have X0:SetTable.layClean.free m ow (SetTable.turns m) (SetTable.bits h % (m+1)) (SetTable.bits h)=some (sl m h K):=k1;simp[X0]
  obtain⟨ow',a,b⟩:=zt hm more (hs++[h]) _ O' (by rw[aaM,abT];omega);refine⟨ow',?_,by simpa using b⟩;rw[abV,e,a];simp
theorem Dy{m:Nat}(hm:m=7\/m=31)(hs:Array Int)(l:hs.size<=m):∃ow,SetTable.layClean m hs=some ow/\Own m hs.toList ow:=by
 have O0:Own m [] (Array.replicate (m+1) (none:Option Nat)):=by
  have no:∀(j a:Nat),(Array.replicate (m+1) (none:Option Nat))[j]?≠some (some a):=λj a e=>by rw[Array.getElem?_replicate] at e;split at e<;>cases e
  exact⟨by simp,λa ha=>absurd ha (ab7 _),λj a e=>absurd e (no j a),λi j a e=>absurd e (no i a),λj a h e=>absurd e (no j a)⟩
 obtain⟨ow,a,b⟩:=zt hm hs.toList [] _ O0 (by simpa using l);refine⟨ow,?_,by simpa using b⟩;unfold SetTable.layClean;rw[<-Array.foldl_toList];have a':List.foldl (xi m) (some (Array.replicate (m+1) none,0)) hs.toList=some (ow,([]++hs.toList).length):=a;show Option.map (·.1) (List.foldl (xi m) (some (Array.replicate (m+1) none,0)) hs.toList)=some ow
 rw[a'];rfl
theorem xm{g:Nat->Option Nat}:∀l:List Nat,(l.filterMap λj=>(g j).map λa=>(j,a)).map (·.1)=l.filter λj=>(g j).isSome
 |[]=>rfl
 |j::l=>by
  cases e:g j with
  |none=>rw[List.filterMap_cons_none (by simp[e]),xm l,List.filter_cons_of_neg (by simp[e])]
  |some a=>rw[adI (b:=(j,a)) (by simp[e]),aaQ,xm l,List.filter_cons_of_pos (by simp[e])]
theorem Dz{α:Type}{f:Nat->Option α}:∀{l:List Nat},(∀a∈l,∃x,f a=some x)->∀i:Nat,(l.filterMap f)[i]?=(l[i]?).bind f
 |[],_,i=>by simp
 |a::l,h,i=>by
  obtain⟨x,e⟩:=h a aau;rw[adI e];cases i with
  |zero=>simp[e]
  |succ i=>simpa using Dz (λb hb=>h b (aaw _ hb)) i
theorem uM{α β:Type}{f:α->β}:∀{l:List α},(l.map f).Nodup->l.Nodup
 |[],_=>aci
 |x::l,h=>by obtain⟨h1,h2⟩:=aa6.mp h;exact aa6.mpr ⟨λm=>h1 (aaN.mpr ⟨x,m,rfl⟩),uM h2⟩
theorem FT{m:Nat}(hm:m=7\/m=31)(es:Array (Int×Value))(l:es.size<=m)(finger moves:Nat)(led plain:Bool):∃(t:SetTable) (order:Array Nat),SetTable.laid m finger moves led plain (es.map (·.1))=some (t,order)/\t.mask=m/\t.led=led/\t.plain=plain /\
  Tab t (order.filterMap λi=>es[i]?)/\(order.filterMap λi=>es[i]?).toList.Perm es.toList/\(order.filterMap λi=>es[i]?).size=es.size:=by
 obtain⟨ow,e,O⟩:=Dy hm (es.map (·.1)) (by rw[aei];exact l);have hl:(es.map (·.1)).toList.length=es.size:=by simp
 have gd:∀j a:Nat,ow.getD j none=some a ↔ ow[j]?=some (some a):=λj a=>by
  by_cases hj:j<ow.size
  ·simp[Array.getD,hj]
  ·simp[Array.getD,hj]
 refine⟨_,_,by unfold SetTable.laid;rw[e];rfl,rfl,rfl,rfl,?_⟩;generalize hL:(List.range (m+1)).filterMap (λj=>(ow.getD j none).map λx=>(j,x))=live;have mem:∀{j a:Nat},(j,a)∈live ↔ j<=m/\ow[j]?=some (some a):=λ{j a}=>by
  rw[<-hL,adh];constructor
  ·rintro⟨j',oY,q⟩;cases g:ow.getD j' none with
   |none=>rw[g] at q;cases q
   |some a' =>rw[g] at q;cases q;exact⟨by have:=abl.mp oY;omega,(gd _ _).mp g⟩
  ·rintro⟨hj,q⟩;exact⟨j,abl.mpr (by omega),by rw[(gd j a).mpr q];rfl⟩
 have e1:live.map (·.1)=(List.range (m+1)).filter λj=>(ow.getD j none).isSome:=by rw[<-hL];exact xm _
 have ge:∀a∈live.map (·.2),∃x,es[a]?=some x:=λa ha=>by
  obtain⟨⟨j,a'⟩,hp,rfl⟩:=aaN.mp ha
  have:=O.lt j a' (mem.mp hp).2
  rw[hl] at this;exact⟨es[a'],aaE this⟩
 have wJ:(live.map (·.2)).Nodup:=by
  have X1:live.Nodup:=by
   have:(live.map (·.1)).Nodup:=by rw[e1];exact acy.filter _
   exact uM this
  refine xh X1 λp hp q hq ee=>?_;obtain⟨j1,a1⟩:=p;obtain⟨j2,a2⟩:=q;have X2:a1=a2:=ee;subst X2;rw[O.inj j1 j2 a1 (mem.mp hp).2 (mem.mp hq).2]
 have pm:(live.map (·.2)).Perm (List.range es.size):=(adn wJ acy).mpr λa=>by
  rw[abl];constructor
  ·intro h;obtain⟨⟨j,a'⟩,hp,rfl⟩:=aaN.mp h
   have:=O.lt j a' (mem.mp hp).2
   rw[hl] at this;exact this
  ·intro h;obtain⟨j,ej⟩:=O.has a (by rw[hl];exact h);have hj:j<ow.size:=(acC.mp ej).1;exact aaN.mpr ⟨(j,a),mem.mpr ⟨by rw[O.size] at hj;omega,ej⟩,rfl⟩
 have tl:((live.map (·.2)).toArray.filterMap λi=>es[i]?).toList=(live.map (·.2)).filterMap λi=>es[i]?:=by rw[Array.toList_filterMap]
 have perm:((live.map (·.2)).toArray.filterMap λi=>es[i]?).toList.Perm es.toList:=by rw[tl];exact(pm.filterMap _).trans (by rw[filterMap_getElem?_range])
 have size:((live.map (·.2)).toArray.filterMap λi=>es[i]?).size=es.size:=by rw[<-aaV,perm.length_eq,aaV]
 have FP:∀i:Nat,((live.map (·.2)).toArray.filterMap λi=>es[i]?)[i]?=(live[i]?).bind λp=>es[p.2]?:=λi=>by rw[<-aa9,tl,Dz ge,aaq];cases live[i]?<;>rfl
 have FU:∀i:Nat,((live.map (·.1)).toArray)[i]?=(live[i]?).map (·.1):=λi=>by rw[aeg,aaq]
 have inn:∀{j:Nat},(∃b:Nat,ow[j]?=some (some b))->j<=m->∃i:Nat,((live.map (·.1)).toArray)[i]?=some j:=λ{j} ⟨b,eb⟩ hj=>by obtain⟨i,hi,ei⟩:=aa7 (mem.mpr ⟨hj,eb⟩);exact⟨i,by rw[FU,aam hi,ei];rfl⟩
 refine⟨⟨λi j hi hj ij=>?_,?_,rfl,hm,λi j q=>?_,by rw[size];exact l,λi j x q1 q2=>?_⟩,perm,size⟩
 ·have pw:(live.map (·.1)).Pairwise (· < ·):=by rw[e1];exact List.pairwise_lt_range.filter _
  have:=abj.mp pw i j (by simpa using hi) (by simpa using hj) ij
  simpa using this
 ·rw[size]
  have:=pm.length_eq
  rw[aak,ace] at this;simp[this]
 ·rw[FU] at q;obtain⟨⟨j',a⟩,qR,nF⟩:=aar.mp q;cases nF;exact(mem.mp (aat qR)).1
 ·rw[FU] at q1;rw[FP] at q2;obtain⟨⟨j',a⟩,qR,nF⟩:=aar.mp q1;cases nF;rw[qR] at q2;have X3:es[a]?=some x:=q2;have mm:=mem.mp (aat qR);obtain⟨k,k1,k2,k3⟩:=O.wp j' a x.1 mm.2 (by rw[aa9,Array.getElem?_map,X3];rfl);exact⟨k,k1,k2,λk' gS=>inn (k3 k' gS) (Bg _ _ _)⟩
theorem JY:SetTable.sizeAbove 20-1=31:=by decide
end L3
namespace L2
open PySem PySem.Spec PyProof.Rows
section
variable {prog:Program}{w:World}{A:Around}{E:Value->Shared->Prop}{s:Shared}{src:Array Keyed}{kd:SortKind}{κ:PyProof.Rows.KeyKind}
structure fU(src:Array Keyed)(kd:SortKind)(st:SortSt):Prop where
 pm:(arrOf st).Perm src
 kn:kindOf st=kd
 pn:pendingOf st=#[]
 fl:failedOf st=none
theorem fU.len{st:SortSt}(q:fU src kd st):(arrOf st).size=src.size:=q.pm.size_eq
theorem fU.put{st:SortSt}{xs:Array Keyed}(q:fU src kd st)(p:xs.Perm (arrOf st)):fU src kd (setArr st xs):=⟨p.trans q.pm,q.kn,q.pn,q.fl⟩
abbrev ky(κ:PyProof.Rows.KeyKind)(st:SortSt)(i:Nat):κ.α:=KK κ (arrOf st) i
def o8(prog:Program)(w:World)(A:Around)(E:Value->Shared->Prop)(s:Shared)(src:Array Keyed)(kd:SortKind)(κ:PyProof.Rows.KeyKind):Prop:=
 ∀(st:SortSt) (i j:Nat) (R:Option Bool->SortSt->Prop),fU src kd st->i<src.size->j<src.size->R (some (κ.blt (ky κ st i) (ky κ st j))) st->wpS (model prog w) A E s (ltAt' i j) R st
theorem FV{st:SortSt}{n:Nat}(up:SortedToK κ (arrOf st) n)(last:0<n->κ.kle (ky κ st (n-1)) (ky κ st n)):SortedToK κ (arrOf st) (n+1):=by
 intro i j ij jn;rcases acK j n with q|q
 ·exact up i j ij q
 ·obtain rfl:j=n:=by omega
  rcases acK i j with r|r
  ·exact acX (up i (j-1) (by omega) (by omega)) (last (by omega))
  ·obtain rfl:i=j:=by omega
   exact abX _
theorem ji{xs:Array Keyed}{n:Nat}(dn:NonIncK κ xs n)(last:0<n->κ.kle (KK κ xs n) (KK κ xs (n-1))):NonIncK κ xs (n+1):=by
 intro i j ij jn;rcases acK j n with q|q
 ·exact dn i j ij q
 ·obtain rfl:j=n:=by omega
  rcases acK i j with r|r
  ·exact acX (last (by omega)) (dn i (j-1) (by omega) (by omega))
  ·obtain rfl:i=j:=by omega
   exact abX _
theorem JZ{xs:Array Keyed}:SortedToK κ xs 1:=λi j ij j1=>by
 obtain rfl:i=j:=by omega
 exact abX _
theorem HZ{st:SortSt}{b n:Nat}{R:AscSt->SortSt->Prop}(C:o8 prog w A E s src kd κ)(q:fU src kd st)(b1:1<=b)(bn:b<=n)(nn:n<=src.size)(up:SortedToK κ (arrOf st) b)
  (k:∀m,b<=m->m<=n->SortedToK κ (arrOf st) m->(m<n->κ.klt (ky κ st m) (ky κ st (m-1)))->R (none,m) st):wpS (model prog w) A E s (ascLoop b n) R st:=by
 unfold ascLoop;refine wpS_forRange (I:=λm c t=>t=st/\c=(none,m)/\SortedToK κ (arrOf st) m) (λm c t bm mn h=>?_) (λc t h=>?_) ⟨rfl,rfl,up⟩
 ·obtain⟨e1,e2,um⟩:=h;subst e1 e2;refine wpS_bind (C _ _ _ _ q (by omega) (by omega) ?_);by_cases lt:κ.klt (ky κ t m) (ky κ t (m-1))
  ·have lt':κ.blt (ky κ t m) (ky κ t (m-1))=true:=lt;rw[lt'];exact wpS_pure (k m bm (by omega) um λ_=>lt)
  ·have lt':κ.blt (ky κ t m) (ky κ t (m-1))=false:=ab8 lt;rw[lt'];exact wpS_pure ⟨rfl,rfl,FV um λ_=>lt'⟩
 ·obtain⟨e1,e2,um⟩:=h;subst e1 e2;rw[afb bn] at um⊢;exact k n bn (aal _) um λz=>absurd z (aa8 _)
theorem zw{st:SortSt}{m n:Nat}{R:Option Nat->SortSt->Prop}(C:o8 prog w A E s src kd κ)(q:fU src kd st)(m1:1<=m)(mn:m<=n)(nn:n<=src.size)(dn:NonIncK κ (arrOf st) m)
  (k:∀l t,fU src kd t->1<=l->l<=n->SortedToK κ (arrOf t) l->R (some l) t):wpS (model prog w) A E s (tail3 m n) R st:=by
 unfold tail3;have ml:m<=(arrOf st).size:=by rw[q.len];omega
 refine wpS_bind (wpS_reverse ?_);have q2:=q.put (mirror_perm (arrOf st) 0 m ((m-0) / 2));refine wpS_bind (HZ C q2 m1 mn nn (λi j ij jm=>?_) λl ml ln up _=>wpS_pure (k l _ q2 (by omega) ln up));have ei:KK κ (mirror (arrOf st) 0 m ((m-0) / 2)) i=KK κ (arrOf st) (0+m-1-i):=by rw[KK_mirror ml,if_pos ⟨aaZ _,by omega⟩]
 have ej:KK κ (mirror (arrOf st) 0 m ((m-0) / 2)) j=KK κ (arrOf st) (0+m-1-j):=by rw[KK_mirror ml,if_pos ⟨aaZ _,by omega⟩]
 show κ.kle (KK κ (mirror (arrOf st) 0 m ((m-0) / 2)) i) (KK κ (mirror (arrOf st) 0 m ((m-0) / 2)) j)
 rw[ei,ej];exact dn _ _ (by omega) (by omega)
def Bh(κ:PyProof.Rows.KeyKind)(xs:Array Keyed)(m e:Nat):Prop:=e<m/\∀i,m-(e+1)<=i->i<m->KK κ xs i=KK κ xs (m-1)
theorem xo{xs:Array Keyed}{m:Nat}(h:0<m):Bh κ xs m 0:=⟨h,λi a b=>by
 have e:i=m-1:=by omega
 rw[e]⟩
theorem J'{st:SortSt}{b n:Nat}{R:DescSt->SortSt->Prop}(C:o8 prog w A E s src kd κ)(q:fU src kd st)(b1:1<=b)(bn:b<=n)(nn:n<=src.size)(dn:NonIncK κ (arrOf st) b)
  (k:∀m e t,fU src kd t->b<=m->m<=n->NonIncK κ (arrOf t) m->Bh κ (arrOf t) m e->R (none,m,e) t):wpS (model prog w) A E s (descLoop b n) R st:=by
 unfold descLoop;refine wpS_forRange (I:=λm c t=>∃e,c=(none,m,e)/\fU src kd t/\NonIncK κ (arrOf t) m/\Bh κ (arrOf t) m e) (λm c t bm mn h=>?_) (λc t h=>?_) ⟨0,rfl,q,dn,xo (by omega)⟩
 ·obtain⟨e,rfl,qt,dt,fl⟩:=h;have ml:m<=(arrOf t).size:=by rw[qt.len];omega
  dsimp only;refine wpS_bind (C _ _ _ _ qt (by omega) (by omega) ?_);by_cases lt:κ.klt (ky κ t m) (ky κ t (m-1))
  ·have lt':κ.blt (ky κ t m) (ky κ t (m-1))=true:=lt;rw[lt'];dsimp only;rw[if_pos rfl];by_cases e0:e > 0
   ·rw[if_pos e0];refine wpS_bind (wpS_reverse (wpS_pure ⟨0,rfl,qt.put (mirror_perm _ _ _ _),?_,xo (by omega)⟩));have same:∀i,KK κ (mirror (arrOf t) (m-(e+1)) m ((m-(m-(e+1))) / 2)) i=KK κ (arrOf t) i:=adV ml fl.2;refine ji (λi j ij jm=>?_) λ_=>?_
    ·show κ.kle (KK κ (mirror (arrOf t) _ _ _) j) (KK κ (mirror (arrOf t) _ _ _) i)
     rw[same,same];exact dt i j ij jm
    ·show κ.kle (KK κ (mirror (arrOf t) _ _ _) m) (KK κ (mirror (arrOf t) _ _ _) (m-1))
     rw[same,same];exact acs lt
   ·rw[if_neg e0];exact wpS_pure ⟨0,rfl,qt,ji dt λ_=>acs lt,xo (by omega)⟩
  ·have lt':κ.blt (ky κ t m) (ky κ t (m-1))=false:=ab8 lt;rw[lt'];dsimp only;rw[if_neg aaK];refine wpS_bind (C _ _ _ _ qt (by omega) (by omega) ?_);by_cases gt:κ.klt (ky κ t (m-1)) (ky κ t m)
   ·have gt':κ.blt (ky κ t (m-1)) (ky κ t m)=true:=gt;rw[gt'];exact wpS_pure (k m e t qt bm (by omega) dt fl)
   ·have gt':κ.blt (ky κ t (m-1)) (ky κ t m)=false:=ab8 gt;rw[gt'];have alike:ky κ t m=ky κ t (m-1):=aet gt' lt';refine wpS_pure ⟨e+1,rfl,qt,ji dt λ_=>gt',by have:=fl.1;omega,λi a b=>?_⟩;rw[adj];rcases acK i m with r|r
    ·exact(fl.2 i (by omega) r).trans alike.symm
    ·obtain rfl:i=m:=by omega
     rfl
 ·obtain⟨e,rfl,qt,dt,fl⟩:=h;rw[afb bn] at dt fl⊢;exact k n e t qt bn (aal _) dt fl
theorem uN{st:SortSt}{m n:Nat}{R:Option Nat->SortSt->Prop}(C:o8 prog w A E s src kd κ)(q:fU src kd st)(mn:m+1<=n)(nn:n<=src.size)(dn:NonIncK κ (arrOf st) (m+1))
  (k:∀l t,fU src kd t->1<=l->l<=n->SortedToK κ (arrOf t) l->R (some l) t):wpS (model prog w) A E s (descPart m n) R st:=by
 unfold descPart;refine wpS_bind (wpS_lift (wpAny_rule ⟨rfl,?_⟩));refine wpS_bind (J' C q (by omega) mn nn dn λl e t qt bl ln dt fl=>?_);dsimp only;by_cases e0:e > 0
 ·rw[if_pos e0];have ll:l<=(arrOf t).size:=by rw[qt.len];omega
  have same:∀i,KK κ (mirror (arrOf t) (l-(e+1)) l ((l-(l-(e+1))) / 2)) i=KK κ (arrOf t) i:=adV ll fl.2;refine wpS_bind (wpS_reverse (zw C (qt.put (mirror_perm _ _ _ _)) (by omega) ln nn (λi j ij jl=>?_) k));show κ.kle (KK κ (mirror (arrOf t) _ _ _) j) (KK κ (mirror (arrOf t) _ _ _) i)
  rw[same,same];exact dt i j ij jl
 ·rw[if_neg e0];exact zw C qt (by omega) ln nn dt k
theorem DD{st:SortSt}{n:Nat}{R:Option Nat->SortSt->Prop}(C:o8 prog w A E s src kd κ)(q:fU src kd st)(n1:1<=n)(nn:n<=src.size)
  (k:∀l t,fU src kd t->1<=l->l<=n->SortedToK κ (arrOf t) l->R (some l) t):wpS (model prog w) A E s (countRun' 0 n) R st:=by
 rw[countRun0_eq];refine wpS_bind (HZ C q (aal 1) n1 nn JZ λm m1 mn up low=>?_);dsimp only;by_cases whole:m=n
 ·rw[if_pos (by simpa using whole)];exact wpS_pure (k m st q m1 mn up)
 rw[if_neg (by simpa using whole)];have less:=low (by omega);by_cases long:m > 1
 ·rw[if_pos long];refine wpS_bind (C _ _ _ _ q (by omega) (by omega) ?_);by_cases MI:κ.klt (ky κ st 0) (ky κ st (m-1))
  ·have vk:κ.blt (ky κ st 0) (ky κ st (m-1))=true:=MI;rw[vk];exact wpS_pure (k m st q m1 mn up)
  ·have vk:κ.blt (ky κ st 0) (ky κ st (m-1))=false:=ab8 MI;rw[vk];have ml:m<=(arrOf st).size:=by rw[q.len];omega
   have alike:∀i,0<=i->i<m->KK κ (arrOf st) i=KK κ (arrOf st) (m-1):=λi _ im =>aet (up i (m-1) (by omega) (by omega)) (acX vk (up 0 i (aaZ _) im))
   have same:∀i,KK κ (mirror (arrOf st) 0 m ((m-0) / 2)) i=KK κ (arrOf st) i:=adV ml alike;dsimp only;rw[if_neg aaK];refine wpS_bind (wpS_reverse (uN C (q.put (mirror_perm _ _ _ _)) (by omega) nn (ji (λi j ij jm=>?_) λ_=>?_) k))
   ·show κ.kle (KK κ (mirror (arrOf st) _ _ _) j) (KK κ (mirror (arrOf st) _ _ _) i)
    rw[same,same,alike i (aaZ _) (by omega),alike j (aaZ _) jm];exact abX _
   ·show κ.kle (KK κ (mirror (arrOf st) _ _ _) m) (KK κ (mirror (arrOf st) _ _ _) (m-1))
    rw[same,same];exact acs less
 ·rw[if_neg long];obtain rfl:m=1:=by omega
  refine uN C q (by omega) nn (ji (λi j ij j1=>?_) λ_=>acs less) k;obtain rfl:i=j:=by omega
  exact abX _
theorem seek{st:SortSt}{k:Nat}{R:Option Bool×Nat×Nat->SortSt->Prop}(C:o8 prog w A E s src kd κ)(q:fU src kd st)(kn:k<src.size)(up:SortedToK κ (arrOf st) k)
  (f:Nat->Option Bool×Nat×Nat->StateT SortSt Sem (ForInStep (Option Bool×Nat×Nat)))
  (hf:∀x l r,f x (none,l,r)=if l ≥ r then pure (.done (none,l,r)) else ltAt' k ((l+r) / 2)>>=λb=>match b with
   |some true=>pure (.yield (none,l,(l+r) / 2))
   |some false=>pure (.yield (none,(l+r) / 2+1,r))
   |none=>pure (.done (some false,l,r)))
  (h:∀l r,l<=k->(∀i,i<l->κ.kle (ky κ st i) (ky κ st k))->(∀i,l<=i->i<k->κ.klt (ky κ st k) (ky κ st i))->R (none,l,r) st) :
  wpS (model prog w) A E s (forIn [0:k] (none,0,k) f) R st:=by
 refine wpS_forRange (I:=λx c t=>t=st/\∃l r,c=(none,l,r)/\l<=r/\r<=k/\r<=l+(k-x)/\(∀i,i<l->κ.kle (ky κ st i) (ky κ st k))/\∀i,r<=i->i<k->κ.klt (ky κ st k) (ky κ st i))
  (λx c t _ xk z=>?_) (λc t z=>?_) ⟨rfl,0,k,rfl,aaZ _,aal _,by omega,λi z=>absurd z (ab7 _),λi a b=>by omega⟩
 ·obtain⟨e,l,r,rfl,lr,rk,gap,lo,hi⟩:=z;subst e;rw[hf];by_cases met:l ≥ r
  ·rw[if_pos met];obtain rfl:l=r:=by omega
   exact wpS_pure (h l l rk lo hi)
  ·rw[if_neg met];refine wpS_bind (C _ _ _ _ q kn (by omega) ?_);by_cases lt:κ.klt (ky κ t k) (ky κ t ((l+r) / 2))
   ·have lt':κ.blt (ky κ t k) (ky κ t ((l+r) / 2))=true:=lt;rw[lt'];exact wpS_pure ⟨rfl,l,(l+r) / 2,rfl,by omega,by omega,by omega,lo,λi a b=>KeyOrd.klt_of_klt_of_kle lt (up _ _ a b)⟩
   ·have lt':κ.blt (ky κ t k) (ky κ t ((l+r) / 2))=false:=ab8 lt;rw[lt'];exact wpS_pure ⟨rfl,(l+r) / 2+1,r,rfl,by omega,rk,by omega,λi a=>acX (up i ((l+r) / 2) (by omega) (by omega)) lt',hi⟩
 ·obtain⟨e,l,r,rfl,lr,rk,gap,lo,hi⟩:=z;subst e;obtain rfl:l=r:=by omega
  exact h l l rk lo hi
theorem Bi{st:SortSt}{k l:Nat}(kn:k<(arrOf st).size)(lk:l<=k)(up:SortedToK κ (arrOf st) k)(lo:∀i,i<l->κ.kle (ky κ st i) (ky κ st k))(hi:∀i,l<=i->i<k->κ.klt (ky κ st k) (ky κ st i)) :
  SortedToK κ (bubble (arrOf st) k (k-l)) (k+1):=by
 have at_:∀i,KK κ (bubble (arrOf st) k (k-l)) i=if i=l then ky κ st k else if l<i/\i<=k then ky κ st (i-1) else ky κ st i:=λi=>by rw[KK_bubble kn (by omega),show k-(k-l)=l by omega]
 intro i j ij jk;rw[at_,at_];rcases acb i l with a|a|a
 ·rw[if_neg (by omega),if_neg (by omega)];rcases acb j l with b|b|b
  ·rw[if_neg (by omega),if_neg (by omega)];exact up i j ij (by omega)
  ·rw[if_pos b];exact lo i a
  ·rw[if_neg (by omega),if_pos ⟨b,by omega⟩];exact up i (j-1) (by omega) (by omega)
 ·rw[if_pos a];rcases acK l j with b|b
  ·rw[if_neg (by omega),if_pos ⟨b,by omega⟩];exact acs (hi _ (by omega) (by omega))
  ·rw[if_pos (by omega)];exact abX _
 ·rw[if_neg (by omega),if_pos ⟨a,by omega⟩,if_neg (by omega),if_pos ⟨by omega,by omega⟩];exact up (i-1) (j-1) (by omega) (by omega)
theorem Bj{st:SortSt}{n m:Nat}{R:Bool->SortSt->Prop}(C:o8 prog w A E s src kd κ)(q:fU src kd st)(nn:n<=src.size)(mn:m<=n)(up:SortedToK κ (arrOf st) m)
  (k:∀t,fU src kd t->SortedToK κ (arrOf t) n->R true t):wpS (model prog w) A E s (binarySort' 0 n m) R st:=by
 rw[binarySort'_eq];simp only[ab4];refine wpS_bind (wpS_mono (wpS_forRange (I:=λx c t=>c=(none,())/\fU src kd t/\SortedToK κ (arrOf t) (min x n)) (Q:=λc t=>c=(none,())/\fU src kd t/\SortedToK κ (arrOf t) n)
  (λx c t mx xn z=>?_) (λc t z=>?_) ⟨rfl,q,?_⟩) λc t z=>?_)
 ·obtain⟨rfl,qt,ut⟩:=z;rw[adW (by omega)] at ut;have xs:x<(arrOf t).size:=by rw[qt.len];omega
  refine wpS_bind (seek (k:=x) C qt (by omega) ut _ (λy l r=>?_) λl r lx lo hi=>?_)
  ·split
   ·rfl
   ·congr 1;funext b
    match b with
    |some true=>rfl
    |some false=>rfl
    |none=>rfl
  ·show wpS _ _ _ _ (moveDown' x l>>=λ_=>pure (ForInStep.yield (none,()))) _ _
   rw[moveDown'_eq];refine wpS_bind (wpS_modify (wpS_pure ⟨rfl,qt.put (bubble_perm _ _ _),?_⟩));rw[adW (by omega)];exact Bi xs lx ut lo hi
 ·obtain⟨rfl,qt,ut⟩:=z;refine⟨rfl,qt,?_⟩;rw[Nat.min_eq_right (by omega)] at ut;exact ut
 ·rcases aeI m with e|e
  ·intro i j ij j1;obtain rfl:i=j:=by omega
   exact abX _
  ·rw[Nat.max_eq_left e,adW mn];exact up
 ·obtain⟨rfl,qt,ut⟩:=z;exact wpS_pure (k t qt ut)
structure q9(src:Array Keyed)(κ:PyProof.Rows.KeyKind)(st:SortSt):Prop where
 pm:(arrOf st).Perm src
 fl:failedOf st=none
 pn:(pendingOf st).size=1
 up:SortedToK κ (arrOf st) src.size
theorem FW{st:SortSt}{R:Unit->SortSt->Prop}(C:o8 prog w A E s src kd κ)(q:fU src kd st)(two:2<=src.size)(aJ:src.size<64)(k:∀t,q9 src κ t->R () t):wpS (model prog w) A E s sortRuns' R st:=by
 rw[sortRuns'_eq];refine wpS_bind (wpS_get ?_);dsimp only;have one:minRun' src.size src.size 0=src.size:=by
  match hs:src.size,two with
  |n+1,_=>rw[minRun'_succ,if_pos (by omega)]
 simp only[q.len,one];refine wpS_bind (wpS_mono (wpS_forRange (I:=λx c t=>(x=0/\c=(none,0)/\fU src kd t)\/(0<x/\c=(none,src.size)/\q9 src κ t)) (Q:=λc t=>c=(none,src.size)/\q9 src κ t)
  (λx c t _ xn z=>?_) (λc t z=>?_) (.inl ⟨rfl,rfl,q⟩)) λc t z=>?_)
 ·rcases z with⟨rfl,rfl,qt⟩|⟨x0,rfl,en⟩
  ·dsimp only;rw[if_neg (by omega)];simp only[afW,Nat.min_self,ab4];have push:∀t2,fU src kd t2->SortedToK κ (arrOf t2) src.size->q9 src κ (setPending t2 ((pendingOf t2).push (0,src.size,0))):=λt2 q2 u2=>⟨q2.pm,q2.fl,by show((pendingOf t2).push _).size=1;rw[q2.pn];rfl,u2⟩
   refine wpS_bind (DD C qt (by omega) (aal _) λl t1 q1 l1 ln u1=>?_);dsimp only;by_cases short:l<src.size
   ·rw[if_pos short];refine wpS_bind (wpS_lift (wpAny_rule ⟨rfl,?_⟩));refine wpS_bind (Bj C q1 (aal _) ln u1 λt2 q2 u2=>?_);simp only[acD,aaB,aa3];refine wpS_bind (wpS_get ?_);rw[show(pendingOf t2).back?=none by rw[q2.pn];rfl];exact wpS_bind (wpS_modify (wpS_pure (.inr ⟨afn,rfl,push t2 q2 u2⟩)))
   ·rw[if_neg short];obtain rfl:l=src.size:=by omega
    refine wpS_bind (wpS_get ?_);rw[show(pendingOf t1).back?=none by rw[q1.pn];rfl];exact wpS_bind (wpS_modify (wpS_pure (.inr ⟨afn,rfl,push t1 q1 u1⟩)))
  ·dsimp only;rw[if_pos (aal _)];exact wpS_pure ⟨rfl,en⟩
 ·rcases z with⟨z,_⟩|⟨_,e,en⟩
  ·omega
  ·exact⟨e,en⟩
 ·obtain⟨rfl,en⟩:=z;dsimp only;refine wpS_bind (wpS_mono (wpS_forRange (I:=λ_ c t'=>t'=t/\c=(none,())) (Q:=λc t'=>t'=t/\c=(none,())) (λx c t' _ _ z=>?_) (λ_ _ z=>z) ⟨rfl,rfl⟩) λc t' z=>?_)
  ·obtain⟨e,rfl⟩:=z;subst e;refine wpS_bind (wpS_get ?_);rw[if_pos (by rw[en.pn];exact aal 1)];exact wpS_pure ⟨rfl,rfl⟩
  ·obtain⟨e,rfl⟩:=z;subst e;exact wpS_pure (k _ en)
theorem FX{h:Heap}{us:List Value}{P:Fin->Shared->Prop}(hs:s.heap=h.push (seqObj "list" us.toArray 0))(aJ:us.length<64)(kd:SortKind)(κ:PyProof.Rows.KeyKind)
  (hk:∀(t:Shared),(∀b o,h.get? b=some o->t.heap.get? b=some o)->2<=us.length->∀(R:SortKind->Shared->Prop),R kd t->wpAny (model prog w) A (keyKind' us.toArray) R E t)
  (C:∀(t:Shared),(∀b o,h.get? b=some o->t.heap.get? b=some o)->o8 prog w A E t (pairsOf us) kd κ)
  (k:∀(out:Array Keyed) (n:Nat) (h2:Heap),out.Perm (pairsOf us)->SortedToK κ out us.length->(∀b o,h.get? b=some o->h2.get? b=some o)->h2.get? h.objs.size=some (seqObj "list" (out.map (·.2)) n)->P (.done (.ret .none)) {s with heap:=h2}) :
  wpAny (model prog w) A (Builtin.«list.sort» ⟨[.ref h.objs.size],[]⟩) P E s:=by
 have ho:s.heap.get? h.objs.size=some (seqObj "list" us.toArray 0):=by rw[hs];exact aaC _ rfl
 have old:∀b o,h.get? b=some o->b≠h.objs.size:=λb o e=>aaG (aay e);have k0:∀b o,h.get? b=some o->s.heap.get? b=some o:=λb o e=>by rw[hs];exact aao _ e
 rw[list_sort_plain];refine wpAny_bind (listItems_at ho rfl ?_);refine wpAny_bind (listUpdate_at ho rfl ?_);have jx:=adX ho (λ_=>#[]);have k1:∀b o,h.get? b=some o->(s.heap.update h.objs.size (Obj.mapSeq λ_=>#[])).get? b=some o:=λb o e=>(abq _ _ (aaX (old b o e))).trans (k0 b o e);generalize s.heap.update h.objs.size (Obj.mapSeq λ_=>#[])=h1 at jx k1⊢;generalize (if ((λ_=>#[]) us.toArray).size==us.toArray.size then 0 else 0+1)=e1 at jx;refine wpAny_bind (seqEpoch_at jx rfl ?_);refine wpAny_bind (wpAny_newTuple ?_ (aap (abe aJ) (by decide)));refine wpAny_bind (wpAny_newList ?_);refine wpAny_holding ?_;dsimp only;have lt1:@LT.lt Nat _ h.objs.size h1.objs.size:=aay jx;have k2:∀b o,h1.get? b=some o->((h1.push (seqObj "tuple" us.toArray.toList.toArray 0)).push (seqObj "list" #[] 0)).get? b=some o:=λb o e=>aao _ (aao _ e);have xp:=k2 _ _ jx;show wpAny (model prog w) A _ P E {s with heap:=(h1.push (seqObj "tuple" us.toArray.toList.toArray 0)).push (seqObj "list" #[] 0)}
 generalize (h1.push (seqObj "tuple" us.toArray.toList.toArray 0)).push (seqObj "list" #[] 0)=h2 at k2 xp⊢;have us2:us.toArray.size=us.length:=aas ..;by_cases two:us.length<2
 ·rw[if_pos (by rw[us2];exact two)];refine wpAny_bind (wpAny_pure ?_);rw[if_pos (by rw[us2];exact two),StateT.run_pure];refine wpAny_bind (wpAny_pure ?_);have up:SortedToK κ (pairsOf us) us.length:=λi j ij j1=>by
   obtain rfl:i=j:=by omega
   exact abX _
  obtain⟨st,es,ef,pm⟩:∃st,st=SortSt.mk' general' (us.toArray.zip us.toArray) #[] 7 none/\failedOf st=none/\arrOf st=pairsOf us:=⟨_,rfl,rfl,rfl⟩
  rw[<-es];dsimp only;have len:((arrOf st).map (·.2)).size=us.length:=by rw[aei,((by rw[pm]:(arrOf st).Perm (pairsOf us))).size_eq,acL]
  refine wpAny_bind (seqEpoch_at xp rfl ?_);refine wpAny_bind (listUpdate_at xp rfl ?_ (hsz2:=by rw[len];exact aap (abe aJ) (by decide)));rw[ef];dsimp only;rw[if_neg (by simp)];have MJ:=adX xp (λ_=>(arrOf st).map (·.2));exact wpAny_pure (k (arrOf st) _ _ ((by rw[pm]:(arrOf st).Perm (pairsOf us))) (by rw[pm];exact up) (λb o e=>(abq _ _ (aaX (old b o e))).trans (k2 b o (k1 b o e))) MJ)
 ·rw[if_neg (by rw[us2];exact two)];refine wpAny_bind (hk _ (λb o e=>k2 b o (k1 b o e)) (by omega) _ ?_);rw[if_neg (by rw[us2];exact two)];refine wpAny_bind (wpAny_mono (FW (R:=λ_ t=>q9 (pairsOf us) κ t) (C _ (λb o e=>k2 b o (k1 b o e))) (st:=SortSt.mk' kd (us.toArray.zip us.toArray) #[] 7 none) ⟨agl _,rfl,rfl,rfl⟩ (by rw[acL];omega) (by rw[acL];exact aJ) λt en=>en) (λr s' z=>?_) λ_ _ z=>z);obtain⟨u,st⟩:=r;obtain⟨e,en⟩:=z;subst e;have up:=en.up;rw[acL] at up;dsimp only;have len:((arrOf st).map (·.2)).size=us.length:=by rw[aei,(en.pm).size_eq,acL]
  refine wpAny_bind (seqEpoch_at xp rfl ?_);refine wpAny_bind (listUpdate_at xp rfl ?_ (hsz2:=by rw[len];exact aap (abe aJ) (by decide)));rw[en.fl];dsimp only;rw[if_neg (by simp)];have MJ:=adX xp (λ_=>(arrOf st).map (·.2));exact wpAny_pure (k (arrOf st) _ _ (en.pm) (up) (λb o e=>(abq _ _ (aaX (old b o e))).trans (k2 b o (k1 b o e))) MJ)
end
def dv:List Str->List Str->Bool
 |[],[]=>false
 |[],_::_=>true
 |_::_,[]=>false
 |a::as,b::bs=>if a=b then dv as bs else decide (a.cps.toList<b.cps.toList)
theorem zx{a b:Str}(h:a.cps.toList=b.cps.toList):a=b:=by cases a;cases b;simp only[afU];exact adF.mp h
theorem ra:∀a:List Str,dv a a=false
 |[]=>rfl
 |x::xs=>by rw[dv,if_pos rfl];exact ra xs
theorem uO:∀a b c:List Str,dv a b=true->dv b c=true->dv a c=true
 |[],[],_,h,_=>by cases h
 |[],_::_,[],_,h=>by cases h
 |[],_::_,_::_,_,_=>rfl
 |_::_,[],_,h,_=>by cases h
 |_::_,_::_,[],_,h=>by cases h
 |x::xs,y::ys,z::zs,h1,h2=>by
  rw[dv] at h1 h2⊢;by_cases e1:x=y
  ·subst e1;rw[if_pos rfl] at h1;by_cases e2:x=z
   ·subst e2;rw[if_pos rfl] at h2⊢;exact uO xs ys zs h1 h2
   ·rw[if_neg e2] at h2⊢;exact h2
  ·rw[if_neg e1,abC] at h1;by_cases e2:y=z
   ·subst e2;rw[if_neg e1];exact decide_eq_true h1
   ·rw[if_neg e2,abC] at h2;have lt:=List.lt_trans h1 h2;have ne:x≠z:=λq=>by rw[q] at lt;exact afp _ lt
    rw[if_neg ne];exact decide_eq_true lt
theorem zy:∀a b c:List Str,dv a c=true->dv a b=true\/dv b c=true
 |[],[],_,h=>.inr h
 |[],_::_,_,_=>.inl rfl
 |_::_,_,[],h=>by cases h
 |_::_,[],_::_,_=>.inr rfl
 |x::xs,y::ys,z::zs,h=>by
  rw[dv] at h;rw[dv,dv];by_cases e:x=z
  ·subst e;rw[if_pos rfl] at h;by_cases e1:x=y
   ·subst e1;rw[if_pos rfl,if_pos rfl];exact zy xs ys zs h
   ·rw[if_neg e1,if_neg (aaX e1)];rcases Std.lt_trichotomy x.cps.toList y.cps.toList with q|q|q
    ·exact .inl (decide_eq_true q)
    ·exact absurd (zx q) e1
    ·exact .inr (decide_eq_true q)
  ·rw[if_neg e,abC] at h;by_cases e1:x=y
   ·subst e1;rw[if_neg e];exact .inr (decide_eq_true h)
   ·by_cases e2:y=z
    ·subst e2;rw[if_neg e1];exact .inl (decide_eq_true h)
    ·rw[if_neg e1,if_neg e2];by_cases q:x.cps.toList<y.cps.toList
     ·exact .inl (decide_eq_true q)
     ·exact .inr (decide_eq_true (List.lt_of_le_of_lt (ae3.mp q) h))
theorem uP:∀a b:List Str,dv a b=false->dv b a=false->a=b
 |[],[],_,_=>rfl
 |[],_::_,h,_=>by cases h
 |_::_,[],_,h=>by cases h
 |x::xs,y::ys,h1,h2=>by
  rw[dv] at h1 h2;by_cases e:x=y
  ·subst e;rw[if_pos rfl] at h1 h2;rw[uP xs ys h1 h2]
  ·rw[if_neg e,abD] at h1;rw[if_neg (aaX e),abD] at h2;exact absurd (zx (ae8 (ae3.mp h2) (ae3.mp h1))) e
def lM(f:Addr->List Str):PyProof.Rows.KeyKind where
 α:=List Str
 blt:=dv
 irrefl:=ra
 trans:=uO
 negTrans:=zy
 total:=uP
 keyOf v:=match v with|.ref a=>some (f a)|_=>none
 dflt:=[]
theorem xq(b:Bool)(x y:Value):keyLt' (tuples' b) x y=(do
  let xs <-Builtin.List.listItems x;let ys <-Builtin.List.listItems y
  for ((p,q),i) in (xs.toList.zip ys.toList).zipIdx do
   if !(<-eqBool p q) then return <-oneLt' (b&&i==0) p q
  return xs.size<ys.size):=rfl
section
variable {prog:Program}{w:World}{A:Around}{E:Value->Shared->Prop}{s:Shared}
theorem DE{a b:Str}{t u:Tok}{o:Bool}{Q:Bool->Shared->Prop}(h:Q (decide (a.cps.toList<b.cps.toList)) s):wpAny (model prog w) A (oneLt' o (.str a t) (.str b u)) Q E s:=by
 cases o with
 |true=>exact oneLt_str h
 |false=>
  rw[oneLt'_eq];simp only[aaB,aa3];refine wpAny_bind ?_;show wpAny _ _ (compareOp .Lt (.str a t) (.str b u)) _ _ _
  exact lt_str (wpAny_truthy_bool h)
theorem Ka{o:Bool}{f:(Value×Value)×Nat->Option Bool×Unit->Sem (ForInStep (Option Bool×Unit))}
  (hf:∀p q i,f ((p,q),i) (none,())=eqBool p q>>=λe=>if (!e)=true then oneLt' (o&&i==0) p q>>=λr=>pure (.done (some r,())) else pure (.yield (none,()))) :
  ∀{xs:List Value} {as:List Str},StrsAre xs as->∀{ys:List Value} {bs:List Str},StrsAre ys bs->∀(k:Nat) (Q:Option Bool×Unit->Shared->Prop),
   (∀r,(match r with|some b=>b=dv as bs|none=>dv as bs=decide (as.length<bs.length))->Q (r,()) s)->wpAny (model prog w) A (forIn ((xs.zip ys).zipIdx k) (none,()) f) Q E s:=by
 intro xs as sx;induction sx with
 |nil =>intro ys bs sy k Q h;rw[List.zip_nil_left,afo,adg];refine wpAny_pure (h none ?_);cases bs<;>simp[dv]
 |cons a ta sx ih=>
  intro ys bs sy k Q h;cases sy with
  |nil =>rw[List.zip_nil_right,afo,adg];exact wpAny_pure (h none (by simp[dv]))
  |cons b tb sy=>
   rw[List.zip_cons_cons,List.zipIdx_cons,adP,hf];refine wpAny_bind (wpAny_bind (wpAny_eqBool_str ?_));by_cases e:a=b
   ·rw[decide_eq_true e,if_neg (by simp)];refine wpAny_pure (ih sy (k+1) Q λr z=>h r ?_);cases r with
    |some v=>rw[show v=_ from z,dv,if_pos e]
    |none=>
     show dv (a::_) (b::_)=_
     rw[dv,if_pos e,show dv _ _=_ from z];simp
   ·rw[aaz e,if_pos (by simp)];refine wpAny_bind (DE (wpAny_pure (wpAny_pure (h (some _) ?_))));show _=dv (a::_) (b::_)
    rw[dv,if_neg e]
theorem Kb{x y:Addr}{xs ys:List Value}{as bs:List Str}{o:Bool}{Q:Bool->Shared->Prop}(hx:IsTup s.heap x xs.toArray)(hy:IsTup s.heap y ys.toArray)(sx:StrsAre xs as)(sy:StrsAre ys bs)(h:Q (dv as bs) s) :
  wpAny (model prog w) A (keyLt' (tuples' o) (.ref x) (.ref y)) Q E s:=by
 obtain⟨ox,X4,_,nx,dx⟩:=hx;obtain⟨oy,X5,_,ny,dy⟩:=hy;rw[xq];refine wpAny_bind (listItems_at X4 dx ?_);refine wpAny_bind (listItems_at X5 dy ?_);refine wpAny_bind ?_;refine Ka (o:=o) (λp q i=>rfl) (by simpa using sx) (by simpa using sy) 0 _ λr z=>?_;cases r with
 |some v=>rw[show v=_ from z];exact wpAny_pure h
 |none =>refine wpAny_pure ?_;have lx:=gj sx;have ly:=gj sy;rw[aas,aas,lx,ly,<-show dv as bs=_ from z];exact h
def Bk(h:Heap):List Value->List (List Str)->Prop:=Paired λv zs=>∃a its,v=.ref a/\IsTup h a its.toArray/\StrsAre its zs
theorem DF{a:Addr}{its:List Value}{z:Str}{zs:List Str}{Q:Option Value->Shared->Prop}(ha:IsTup s.heap a its.toArray)(q:StrsAre its (z::zs))(h:∀t,Q (some (.str z t)) s):wpAny (model prog w) A (firstOfTuple' (.ref a)) Q E s:=by
 obtain⟨o,ho,hc,n,hd⟩:=id ha;cases q with
 |cons _ t r=>
  show wpAny _ _ (typeOf (.ref a)>>=λt=>if (t !=.type "tuple")=true then pure none else Builtin.List.listItems (.ref a)>>=λxs=>pure xs[0]?) _ _ _
  refine wpAny_bind (wpAny_typeOf ha.typeIs ?_);rw[if_neg (by decide)];exact wpAny_bind (listItems_at ho hd (wpAny_pure (h t)))
theorem DG:∀{us:List Value} {zss:List (List Str)} {Q:List (Option Value)->Shared->Prop},Bk s.heap us zss->(∀zs∈zss,zs≠[])->(∀vs ss,StrsAre vs ss->vs.length=us.length->Q (vs.map some) s)->wpAny (model prog w) A (us.mapM firstOfTuple') Q E s
 |[],_,Q,.nil,_,h=>by rw[List.mapM_nil];exact wpAny_pure (h [] [] .nil rfl)
 |u::us,_,Q,.cons (b:=zs) ⟨a,its,e,ha,q⟩ t,ne,h=>by
  subst e;rw[List.mapM_cons];match zs,q,ne zs aau with
  |z::zr,q,_ =>refine wpAny_bind (DF ha q λtk=>wpAny_bind (DG t (λMK hz=>ne MK (aaw _ hz)) λvs ss sv lv=>wpAny_pure ?_));exact h (.str z tk::vs) (z::ss) (.cons z tk sv) (by simp[lv])
  |[],_,z=>exact absurd rfl z
theorem DJ{us:List Value}{zss:List (List Str)}{R:SortKind->Shared->Prop}(t:Bk s.heap us zss)(ne:∀zs∈zss,zs≠[])(two:2<=us.length)(h:R (tuples' true) s):wpAny (model prog w) A (keyKind' us.toArray) R E s:=by
 rw[keyKind'_eq,aeY];refine wpAny_bind ?_;show wpAny _ _ (List.toArray <$> us.mapM firstOfTuple') _ _ _
 rw[map_eq_pure_bind];refine wpAny_bind (DG t ne λvs ss sv lv=>wpAny_pure ?_);rw[if_pos (by simp)];refine wpAny_bind (wpAny_rule ?_);have e:((vs.map some).toArray.filterMap id)=vs.toArray:=by simp
 rw[e,oneTypeOnly'_eq,aeY,mapM_typeOf_strs sv];simp only[map_pure,pure_bind];match vs,lv,sv with
 |v::r,lv,sv=>
  have all:((List.map (λ_=>Value.type "str") (v::r)).toArray.all λx=>x==Value.type "str")=true:=by simp only[List.all_toArray,acj,abE];intro _ _;rfl
  have h0:(List.map (λ_=>Value.type "str") (v::r)).toArray[0]?=some (Value.type "str"):=by simp
  rw[h0];simp only[all,aa4,pure_bind];exact wpAny_pure h
 |[],lv,_=>simp at lv;omega
end
end L2
namespace L3
open PySem PySem.Spec PyProof.Rows L2
section
variable {prog:Program}{w:World}{A:Around}{E:Value->Shared->Prop}{s:Shared}
abbrev KT(prog:Program)(w:World)(h:Heap)(zs:List Str)(a:Addr):Prop:=IsTupleKey (PySem.strKind prog w) h zs a
abbrev hT(prog:Program)(w:World)(zs:List Str):Int:=tupleKeyHash (PySem.strKind prog w) zs
theorem items_str{ks:List Str}{vs:List Value}(h:ItemsAre (PySem.strKind prog w) ks vs):∀v∈vs,∃z t,v=.str z t:=by
 induction h with
 |nil=>intro v hv;exact nomatch hv
 |@cons k v' ks vs h1 _ ih=>
  intro v hv;rcases aav.mp hv with rfl|hv
  ·have h1':Value.isStrOf k v=true:=h1;cases v with
   |str z t=>exact⟨z,t,rfl⟩
   |_=>simp[Value.isStrOf] at h1'
  ·exact ih v hv
theorem o9{ks:List Str}{a:Addr}{Q:Bool->Shared->Prop}(hk:KT prog w s.heap ks a)(h:Q false s):wpAny (model prog w) A (ofAClassStatement 8 (.ref a)) Q E s:=by
 have hT:=hk.typeIs;obtain⟨o,items,n,ho,_,hd,hi⟩:=hk;unfold ofAClassStatement;refine wpAny_bind (wpAny_typeOf hT ?_);dsimp only;rw[if_pos (by decide)];refine wpAny_bind (wpAny_pure ?_);simp only[acD,aaB,aa3];refine wpAny_bind (wpAny_seqItems ho hd ?_);dsimp only;refine wpAny_bind ?_;rw[<-aeK];refine afc _ (λrest r s'=>r.1=none/\s'=s/\∀v∈rest,∃z t,v=.str z t) _ ?_ ?_ _ _ ⟨rfl,rfl,items_str hi⟩
 ·rintro v rest r s' ⟨hr,rfl,hall⟩;obtain⟨z,t,rfl⟩:=hall v aau;have e:ofAClassStatement 7 (.str z t)=pure false:=rfl;rw[e];refine wpAny_bind (wpAny_pure ?_);simp only[aaB,aa3];exact wpAny_pure ⟨rfl,rfl,λu hu=>hall u (aaw _ hu)⟩
 ·rintro⟨r1,r2⟩ s' ⟨hr,rfl,_⟩;simp only at hr;subst hr;exact wpAny_pure h
theorem ML{ks:List Str}{b:Addr}{Q:Bool->Shared->Prop}(hk:KT prog w s.heap ks b){stored:List Value}(hs:∀v∈stored,∃c ys,v=.ref c/\KT prog w s.heap ys c)(h:Q false s):wpAny (model prog w) A (searchCouldBeSeen (.ref b) stored) Q E s:=by
 unfold searchCouldBeSeen;refine wpAny_bind ?_;refine afc _ (λrest r s'=>r.1=none/\s'=s/\∀v∈rest,∃c ys,v=.ref c/\KT prog w s.heap ys c) _ ?_ ?_ _ _ ⟨rfl,rfl,hs⟩
 ·rintro v rest r s' ⟨hr,rfl,hall⟩;obtain⟨c,ys,rfl,hc⟩:=hall v aau;have Ia:∀u∈rest,∃c ys,u=.ref c/\KT prog w s'.heap ys c:=λu hu=>hall u (aaw _ hu);dsimp only;by_cases q:(b==c||carriedByValue (.ref b)&&carriedByValue (.ref c))=true
  ·rw[if_pos q];exact wpAny_pure ⟨rfl,rfl,Ia⟩
  ·rw[if_neg q];refine wpAny_bind (wpAny_eqIsQuiet_tuple hk ?_);simp only[acD,aaB,aa3];refine wpAny_bind (wpAny_eqIsQuiet_tuple hc ?_);simp only[acD,aaB,aa3];refine wpAny_bind (o9 hk ?_);simp only[aaB,aa3];refine wpAny_bind (o9 hc ?_);simp only[aaB,aa3];exact wpAny_pure ⟨rfl,rfl,Ia⟩
 ·rintro⟨r1,r2⟩ s' ⟨hr,rfl,_⟩;simp only at hr;subst hr;exact wpAny_pure h
def Ib(prog:Program)(w:World)(h:Heap)(es:Array (Int×Value)):Prop:=∀e∈es.toList,∃c ys,e.2=.ref c/\KT prog w h ys c/\e.1=hT prog w ys
def vm(prog:Program)(w:World)(h:Heap)(es:Array (Int×Value))(zs:List Str):Prop:=∃e∈es.toList,∃c,e.2=.ref c/\KT prog w h zs c
theorem sN{α:Type}{es:Array α}{i:Nat}{e:α}(h:es[i]?=some e):e∈es.toList:=by rw[<-aa9] at h;exact aat h
theorem pd{a b:Addr}{o:Obj}{es:Array (Int×Value)}{ep:Nat}{t:SetTable}{zs:List Str}{K:Nat}{Q:SetFound->Shared->Prop}(hu:A.units<cLine)(ho:s.heap.get? a=some o)(hd:o.data=.set es ep t)(T:Tab t es)(el:Ib prog w s.heap es)(hk:KT prog w s.heap zs b)
  (hK:K<10*SetTable.turns t.mask) (emp:∀i:Nat,t.place[i]?≠some (sl t.mask (hT prog w zs) K)) (bef:∀k,k<K->∃i:Nat,t.place[i]?=some (sl t.mask (hT prog w zs) k))
  (q1:vm prog w s.heap es zs->Q (.there none) s) (q2:¬ vm prog w s.heap es zs->Q (.free (sl t.mask (hT prog w zs) K) false) s) :
  ∀(fuel k:Nat) (stand:Option SetTable.Probe),K-k<fuel->k<=K->stand.getD (t.probeStart (hT prog w zs))=st t.mask (hT prog w zs) k ->
   (∀(k' i:Nat) (e:Int×Value),k'<k->t.place[i]?=some (sl t.mask (hT prog w zs) k')->es[i]?=some e->∀c,e.2=.ref c->¬ KT prog w s.heap zs c) ->
   wpAny (model prog w) A (setSearchFrom a (.ref b) (hT prog w zs) true fuel stand) Q E s
 |0,k,stand,lt,_,_,_=>by omega
 |fuel+1,k,stand,lt,le,X6,no=>by
  unfold setSearchFrom;refine wpAny_bind (wpAny_setState_of ho hd T.fits ?_);dsimp only;rw[T.LW];simp only[aaB,aa3];rw[X6];have hg:=zq T (λi=>((es[i]?).map (·.1)).getD 0) (hT prog w zs) (10*SetTable.turns t.mask) k ⟨K,le,by omega,emp⟩;obtain⟨n,kn,mid,res⟩:=hg;have nK:n<=K:=by refine adE λq=>?_;obtain⟨i,e,_⟩:=mid K le q;exact emp i e
  rcases res with⟨ne,pe⟩|⟨i,pi,hh,pe⟩
  ·have en:n=K:=by refine afm nK (adE λq=>?_);obtain⟨i,e⟩:=bef n q;exact ne i e
   subst en;have DQ:t.probe (λi=>((es[i]?).map (·.1)).getD 0) (hT prog w zs) (st t.mask (hT prog w zs) k)=some (.empty (sl t.mask (hT prog w zs) n) none):=pe;have fin:¬ vm prog w s.heap es zs:=by
    intro am;obtain⟨e,he,c,ec,hc⟩:=am;obtain⟨i,hi,rfl⟩:=aa7 he;have hi':i<es.size:=by simpa using hi
    have ei:es[i]?=some es[i]:=aaE hi';have Ic:i<t.place.size:=by rw[T.size];exact hi'
    obtain⟨ke,b1,b2,b3⟩:=T.wp i t.place[i] es[i] (aaE Ic) ei;obtain⟨c',ys,xr,hys,ud⟩:=el _ he;have X7:es.toList[i]=es[i]:=by simp
    rw[X7] at ec xr ud;rw[ec] at xr;cases xr;have ez:zs=ys:=hc.inj hys;subst ez;rw[ud] at b2 b3;have kK:ke<n:=by
     refine Nat.lt_of_not_le λq=>?_;by_cases eq:n=ke
     ·subst eq;exact ne i (by rw[b2];exact aaE Ic)
     ·obtain⟨i',e'⟩:=b3 n (by omega);exact ne i' e'
    by_cases kk:ke<k
    ·exact no ke i es[i] kk (by rw[b2];exact aaE Ic) ei c ec hc
    ·obtain⟨i',e1,e2⟩:=mid ke (by omega) kK;have ii:i'=i:=by have x1:=below_at T.rise e1;have x2:=below_at T.rise (show t.place[i]?=some (sl t.mask (hT prog w zs) ke) by rw[b2];exact aaE Ic);omega
     subst ii;rw[ei] at e2;simp[ud] at e2
   split
   ·rename_i met heq
    have em:=aaS (heq.symm.trans DQ);subst em;exact wpAny_pure (q2 fin)
   ·rename_i heq
    exact(heq _ DQ).elim
  ·have hi:i<es.size:=by rw[<-T.size];exact(acC.mp pi).1
   have ei:es[i]?=some es[i]:=aaE hi;obtain⟨c,ys,ec,hys,ud⟩:=el _ (sN ei);have DQ:t.probe (λi=>((es[i]?).map (·.1)).getD 0) (hT prog w zs) (st t.mask (hT prog w zs) k)=some (.candidate (sl t.mask (hT prog w zs) n) i (st t.mask (hT prog w zs) (n+1))):=pe;have RN:n<K:=by refine aeL nK λe=>?_;subst e;exact emp i pi
   split;rotate_left
   ·rename_i heq
    exact(heq _ DQ).elim
   rename_i met heq
   have em:=aaS (heq.symm.trans DQ);subst em;dsimp only;have hl:t.led=true\/t.led=false:=by cases t.led<;>simp
   rcases hl with ld|ld;all_goals rw[ld]
   all_goals simp only[acD,aej,aaB,aa3,aa4]
   rotate_left;refine wpAny_bind (ML hk (λv hv=>?hv) ?_)
   case hv=>
    obtain⟨e,he,rfl⟩:=aaN.mp hv;have qF:e∈es.toList:=by rw[Array.toList_filter] at he;exact(aaU.mp he).1
    obtain⟨c2,MM,g1,g2,_⟩:=el e qF;exact⟨c2,MM,g1,g2⟩
   simp only[aaB,aa3];all_goals (
    rw[ei];generalize es[i]=en at ec ud ei;obtain⟨hh0,y⟩:=en;dsimp only at ec ud;subst ec;dsimp only;refine wpAny_bind (wpAny_holding (wpAny_eqBool_tuple hu hys hk ?_));refine wpAny_bind (wpAny_setState_of ho hd T.fits ?_);dsimp only;by_cases ez:ys=zs
    ·rw[decide_eq_true ez];subst ez;simp only[ab',aa4];exact wpAny_pure (q1 ⟨_,sN ei,c,rfl,hys⟩)
    ·rw[aaz ez];simp only[ab',aaB,aa3];have sm:t.sameMemory t.moves t.mask=some true:=by unfold SetTable.sameMemory;rw[if_pos (by simp)]
     rw[sm];dsimp only;rw[if_pos rfl,nM T.rise pi];dsimp only;rw[ei];dsimp only;refine wpAny_bind (wpAny_isSame_ref_self ?_);refine wpAny_bind (wpAny_pure ?_);simp only[aa4];refine pd hu ho hd T el hk hK emp bef q1 q2 fuel (n+1) _ (by omega) (by omega) rfl λk' i' e' gS p' e1 c' xr kt=>?_;by_cases k1:k'<k
     ·exact no k' i' e' k1 p' e1 c' xr kt
     ·by_cases k2:k'=n
      ·subst k2;have ii:i'=i:=by have x1:=below_at T.rise p';have x2:=below_at T.rise pi;omega
       subst ii;rw[ei] at e1;cases e1;cases xr;exact ez (hys.inj kt)
      ·obtain⟨i2,f1,f2⟩:=mid k' (by omega) (by omega);have ii:i'=i2:=by have x1:=below_at T.rise p';have x2:=below_at T.rise f1;omega
       subst ii;obtain⟨c2,MM,g1,g2,g3⟩:=el _ (sN e1);rw[xr] at g1;cases g1
       have:zs=MM:=kt.inj g2
       subst this;rw[e1] at f2;simp[g3] at f2)
end
section
variable {prog:Program}{w:World}{A:Around}{E:Value->Shared->Prop}{s:Shared}
theorem yu{ks:List Str}{a:Addr}{Q:Bool->Shared->Prop}(hk:KT prog w s.heap ks a)(ne:ks≠[])(h:Q false s):wpAny (model prog w) A (hashByValue 8 (.ref a)) Q E s:=by
 have hT:=hk.typeIs;obtain⟨o,items,n,ho,_,hd,hi⟩:=hk;unfold hashByValue;refine wpAny_bind (wpAny_specialOf hT F.slot_tuple_hash.lookup ?_);dsimp only;refine wpAny_bind (wpAny_seqItems ho hd ?_);refine wpAny_bind ?_;show wpAny _ _ (forIn items _ _) _ _ s
 rw[<-aeK];have st:=items_str hi;have nil:items.toList≠[]:=λe=>by rw[e] at hi;cases hi;exact ne rfl
 cases hl:items.toList with
 |nil=>exact absurd hl nil
 |cons v r =>rw[hl] at st;obtain⟨z,t,rfl⟩:=st v aau;rw[adP];have e:hashByValue 7 (.str z t)=pure false:=rfl;rw[e];refine wpAny_bind (wpAny_bind (wpAny_pure ?_));simp only[aej,aa4];exact wpAny_pure (wpAny_pure (wpAny_pure h))
abbrev MN(prog:Program)(w:World)(p:Addr×List Str):Int×Value:=(hT prog w p.2,.ref p.1)
structure eM(prog:Program)(w:World)(h:Heap)(a:Addr)(ps:List (Addr×List Str))(led:Bool)(o:Obj)(es:Array (Int×Value))(ep:Nat)(t:SetTable):Prop where
 ho:h.get? a=some o
 ex:o.ExactSet
 hd:o.data=.set es ep t
 tab:Tab t es
 pm:es.toList.Perm (ps.map (MN prog w))
 four:t.mask=7->es.size<=4
 led:t.led=led
 pl:es.size≠0->t.plain=false
def eO(ps:List (Addr×List Str))(p:Addr×List Str):List (Addr×List Str):=if p.2∈ps.map (·.2) then ps else ps++[p]
theorem eM.size{h:Heap}{a:Addr}{ps:List (Addr×List Str)}{led:Bool}{o:Obj}{es:Array (Int×Value)}{ep:Nat}{t:SetTable}(x:eM prog w h a ps led o es ep t):es.size=ps.length:=by rw[<-aaV,x.pm.length_eq,aak]
theorem eM.keep{h h':Heap}{a:Addr}{ps:List (Addr×List Str)}{led:Bool}{o:Obj}{es:Array (Int×Value)}{ep:Nat}{t:SetTable}(x:eM prog w h a ps led o es ep t)(k:∀o,h.get? a=some o->h'.get? a=some o):eM prog w h' a ps led o es ep t:={x with ho:=k _ x.ho}
theorem eM.elems{h:Heap}{a:Addr}{ps:List (Addr×List Str)}{led:Bool}{o:Obj}{es:Array (Int×Value)}{ep:Nat}{t:SetTable}(x:eM prog w h a ps led o es ep t)(ks:∀p∈ps,KT prog w h p.2 p.1):Ib prog w h es:=λe he=>by obtain⟨p,hp,rfl⟩:=aaN.mp (x.pm.mem_iff.mp he);exact⟨p.1,p.2,rfl,ks p hp,rfl⟩
theorem eM.among{h:Heap}{a:Addr}{ps:List (Addr×List Str)}{led:Bool}{o:Obj}{es:Array (Int×Value)}{ep:Nat}{t:SetTable}(x:eM prog w h a ps led o es ep t)(ks:∀p∈ps,KT prog w h p.2 p.1){zs:List Str}:vm prog w h es zs ↔ zs∈ps.map (·.2):=by
 constructor
 ·rintro⟨e,he,c,ec,hc⟩;obtain⟨p,hp,rfl⟩:=aaN.mp (x.pm.mem_iff.mp he);cases ec;exact aaN.mpr ⟨p,hp,(ks p hp).inj hc⟩
 ·intro hz;obtain⟨p,hp,rfl⟩:=aaN.mp hz;exact⟨_,x.pm.mem_iff.mpr (aaN.mpr ⟨p,hp,rfl⟩),p.1,rfl,ks p hp⟩
theorem Tab.plain{t:SetTable}{es:Array (Int×Value)}(T:Tab t es)(p:Bool):Tab {t with plain:=p} es:=⟨T.rise,T.size,T.xf,T.xg,T.le,T.aJ,T.wp⟩
theorem rb{h:Heap}{a:Addr}{o:Obj}{es:Array (Int×Value)}{ep:Nat}{t:SetTable}(ho:h.get? a=some o)(hd:o.data=.set es ep t)(es':Array (Int×Value))(t':SetTable):(h.update a (Obj.putSet es' t')).get? a=some {o with data:=.set es' (ep+1) t' }:=by
 have:=aby (Obj.putSet es' t') ho (by rw[putSet_of es' t' hd];rfl)
 rw[putSet_of es' t' hd] at this;exact this
theorem eM.add{a b:Addr}{zs:List Str}{ps:List (Addr×List Str)}{led:Bool}{o:Obj}{es:Array (Int×Value)}{ep:Nat}{t:SetTable}{Q:Bool->Shared->Prop}(hu:A.units<cLine)(x:eM prog w s.heap a ps led o es ep t)(ks:∀p∈ps,KT prog w s.heap p.2 p.1)(hk:KT prog w s.heap zs b)(ne:zs≠[])(room:ps.length+1<=12)
  (k:∀(bb:Bool) h' o' es' kZ t',Heap.SameBut a s.heap h'->eM prog w h' a (eO ps (b,zs)) led o' es' kZ t'->Q bb {s with heap:=h' }) :
  wpAny (model prog w) A (setAddHashed a (.ref b) (hT prog w zs)) Q E s:=by
 obtain⟨K,hK,emp,bef⟩:=x.tab.first (hT prog w zs)
 have big:es.size+1<=12:=by rw[x.size];exact room
 have PM:es.size+1<=t.mask:=by
  rcases x.tab.xg with e|e
  ·have:=x.four e;omega
  ·omega
 unfold setAddHashed;refine wpAny_holding ?_;show wpAny _ _ (setAddHashedIn a (.ref b) (hT prog w zs) (99999+1)) _ _ _
 unfold setAddHashedIn;refine wpAny_bind (wpAny_setState_of x.ho x.hd x.tab.fits ?_);dsimp only;have bs:byScan (.ref b) es=false:=rfl;rw[bs];simp only[aaB,aa3];refine wpAny_bind ?_;refine pd hu x.ho x.hd x.tab (x.elems ks) hk hK emp bef (λam=>?_) (λnam=>?_) 100000 0 none (by have:SetTable.turns t.mask<=46:=by {unfold SetTable.turns;rcases x.tab.xg with e|e<;>omega};omega) (aaZ _) rfl (λk' i e gS=>absurd gS (ab7 _))
 ·have e2:eO ps (b,zs)=ps:=by unfold eO;rw[if_pos ((x.among ks).mp am)]
  refine wpAny_pure ?_;exact k false s.heap o es ep t (adq a s.heap) (by rw[e2];exact x)
 ·have e2:eO ps (b,zs)=ps++[(b,zs)]:=by unfold eO;rw[if_neg λq=>nam ((x.among ks).mpr q)]
  rw[e2] at k;dsimp only;refine wpAny_bind (wpAny_setState_of x.ho x.hd x.tab.fits ?_);dsimp only;have T1:=x.tab.put (x:=.ref b) PM hK emp bef (Bg _ _ _);have em:(t.put (sl t.mask (hT prog w zs) K)).1.mask=t.mask:=rfl;have el1:(t.put (sl t.mask (hT prog w zs) K)).1.led=t.led:=rfl;have Vl:(t.put (sl t.mask (hT prog w zs) K)).1.plain=t.plain:=rfl;have perm:(SetTable.insertAt es (t.put (sl t.mask (hT prog w zs) K)).2 (hT prog w zs,Value.ref b)).toList.Perm (es.toList++[(hT prog w zs,Value.ref b)]):=by
   have:=ad8 es (t.put (sl t.mask (hT prog w zs) K)).2 (hT prog w zs,Value.ref b)
   rw[adt] at this;exact this
  generalize (t.put (sl t.mask (hT prog w zs) K)).1=t1 at T1 em el1 Vl⊢;generalize SetTable.insertAt es (t.put (sl t.mask (hT prog w zs) K)).2 (hT prog w zs,Value.ref b)=es1 at T1 perm⊢;have CN:es1.size=es.size+1:=by rw[<-aaV,perm.length_eq,aaM,aaV];rfl
  have RO:es1.toList.Perm ((ps++[(b,zs)]).map (MN prog w)):=by rw[aaY];exact perm.trans (x.pm.append_right _)
  have tail:∀t2:SetTable,Tab t2 es1->t2.mask=t.mask->t2.led=led->t2.plain=false->wpAny (model prog w) A (do
    storeSet a es1 t2
    if (!false&&t2.tooFull)=true then do
      setRelay a (SetTable.grown (es.size+1))
      pure true
     else pure true) Q E s:=λt2 T2 m2 l2 p2=>by
   refine wpAny_bind (wpAny_storeSet_of x.ho x.hd ?_ (aap (by omega:es1.size<=12) (by decide)));have g1:=rb x.ho x.hd es1 t2;have sb1:=abw s.heap a (Obj.putSet es1 t2);generalize s.heap.update a (Obj.putSet es1 t2)=h1 at g1 sb1⊢;by_cases tf:t2.tooFull=true
   ·rw[tf];simp only[aej,ab',aa4];have Vm:t.mask=7/\es.size=4:=by
     unfold SetTable.tooFull SetTable.fill at tf;rw[T2.xf,T2.size,m2,CN] at tf;have Ie:(es.size+1+0)*5 ≥ t.mask*3:=by simpa using tf
     rcases x.tab.xg with e|e
     ·have:=x.four e;exact⟨e,by omega⟩
     ·omega
    rw[Vm.2];refine wpAny_bind ?_;unfold setRelay;refine wpAny_bind (wpAny_setState_of (s:={s with heap:=h1}) g1 rfl T2.fits ?_);dsimp only;have gr:SetTable.grown (4+1)=20:=rfl;rw[gr,if_neg (by decide)];obtain⟨t3,order,er,m3,l3,p3,T3,Ig,RP⟩:=FT (m:=31) (.inr rfl) es1 (by omega) t2.finger (t2.movedTo 31) t2.led t2.plain;have X8:t2.relaid (es1.map (·.1)) 20=some (t3,order):=by unfold SetTable.relaid;rw[JY];exact er
    rw[X8];refine wpAny_bind ?_;obtain⟨es3,RQ⟩:∃es3,es3=order.filterMap (λi=>es1[i]?):=⟨_,rfl⟩
    rw[<-RQ] at T3 Ig RP;refine wpAny_of_eq (afX (b:=if (es3.size !=es1.size)=true then (unsupported "internal:set-table-lost-an-element">>=λ(_:PUnit)=>pure (es3,t3)) else pure (es3,t3)) ?_ (if_neg (by rw[RP];simp))) ?_
    ·rw[RQ];rfl
    dsimp only;refine wpAny_storeSet_of (s:={s with heap:=h1}) g1 rfl ?_ (aap (by omega:es3.size<=12) (by decide));have g2:=rb (es':=es3) (t':=t3) g1 rfl;have X9:=sb1.trans (abw h1 a (Obj.putSet es3 t3));exact wpAny_pure (k true _ _ es3 _ t3 X9 ⟨g2,x.ex,rfl,T3,Ig.trans RO,λe=>by rw[m3] at e;omega,by rw[l3];exact l2,λ_=>by rw[p3];exact p2⟩)
   ·have Ie:t2.tooFull=false:=by simpa using tf
    rw[Ie];simp only[acu,aaB,aa3];refine wpAny_pure (k true _ _ es1 _ t2 sb1 ⟨g1,x.ex,rfl,T2,RO,λe=>?_,l2,λ_=>p2⟩);have q:¬ (es.size+1+0)*5 ≥ t.mask*3:=by
     intro q
     have:t2.tooFull=true:=by unfold SetTable.tooFull SetTable.fill;rw[T2.xf,T2.size,m2,CN];simpa using q
     rw[this] at Ie;cases Ie
    rw[m2] at e;omega
  by_cases tp:t1.plain=true
  ·rw[if_pos tp];refine wpAny_bind (yu hk ne ?_);simp only[aaB,aa3];exact tail {t1 with plain:=false} (T1.plain false) em (el1.trans x.led) rfl
  ·rw[if_neg tp];refine wpAny_bind (wpAny_pure ?_);simp only[aa4];exact tail t1 T1 em (el1.trans x.led) (by simpa using tp)
end
section
variable {prog:Program}{w:World}{A:Around}{E:Value->Shared->Prop}{s:Shared}{R:Result->Shared->Prop}
theorem FY{zs:List Str}{us:List Value}(h:Vals (zs.map V.str) us):ItemsAre (PySem.strKind prog w) zs us:=by
 induction zs generalizing us with
 |nil=>cases h;exact .nil
 |cons z zs ih=>
  cases h with
  |cons r t=>
   obtain⟨k,rfl⟩:=(show ∃k,_=Value.str z k from r)
   exact .cons (by show Value.isStrOf z (.str z k)=true;simp[Value.isStrOf]) (ih t)
theorem Kc{a b:Addr}{zs:List Str}{ps:List (Addr×List Str)}{led:Bool}{o:Obj}{es:Array (Int×Value)}{ep:Nat}{t:SetTable}{Q:Value->Shared->Prop}(hu:A.units+1<cLine)(x:eM prog w s.heap a ps led o es ep t)(ks:∀p∈ps,KT prog w s.heap p.2 p.1)(hk:KT prog w s.heap zs b)(ne:zs≠[])(room:ps.length+1<=12)
  (k:∀h' o' es' kZ t',Heap.SameBut a s.heap h'->eM prog w h' a (eO ps (b,zs)) led o' es' kZ t'->Q .none {s with heap:=h',toks:=s.toks+(zs.length+1)}) :
  wpAny (model prog w) A (call (.builtin "set.add") [.ref a,.ref b]) Q E s:=by
 have MO:s.TypeIs (.ref a) "set" := ⟨o,x.ho,x.ex.1⟩
 refine wpAny_call_entry F.slot_set_add MO F.entry_set_add ?_ (F.args_set_add_2 _ _);unfold Builtin.«set.add» Builtin.Frozenset.oneOther;simp only[ae',bind_assoc];unfold Builtin.Frozenset.addrOf setAdd;refine wpAny_bind (wpAny_pure ?_);try dsimp only
 refine wpAny_bind (wpAny_pure ?_);try dsimp only
 refine wpAny_bind ?_;refine wpAny_holding ?_;refine wpAny_bind (wpAny_pyHash_tuple (by show A.units+1<cLine;exact hu) hk ?_);refine eM.add (s:={s with toks:=s.toks+(zs.length+1)}) (by show A.units+1<cLine;exact hu) x ks hk ne room λbb h' o' es' kZ t' sb x'=>?_;show wpAny _ _ (ret Value.none) _ _ _
 exact wpAny_pure ⟨_,rfl,k h' o' es' kZ t' sb x'⟩
theorem FZ(elt tg iter:Expr)(ifs:List Expr)(sc:Scope)(pos:Pos)(it acc:Value)(env:Env) :
  compTurn (.SetComp elt [⟨tg,iter,ifs,0⟩] sc pos) 0 it acc env=(do
   standAt iter.pos
   match <-pyNext it with
   |none=>pure (.done .next)
   |some v=>
    letOwnedTupleGo tg it v
    assign tg env v
    let mut ok:=true
    for c in ifs do
     if ok then ok <-isTrue c env (eval c env)
    if ok then
     (do let v <-eval elt env;standAt elt.pos;let _ <-call (.builtin "set.add") [acc,v])
    again (.compLoop (.SetComp elt [⟨tg,iter,ifs,0⟩] sc pos) 0 it acc env)):=by rfl
theorem DV{elt target iter ifs rest scope pos it acc env}
  (h0:codeAny (model prog w) A (.compLoop (.SetComp elt (⟨target,iter,ifs,0⟩::rest) scope pos) 0 it acc env) R s)
  (h:wpAny (model prog w) A (pyIter it) (λwY s'=>codeAny (model prog w) A (.compLoop (.SetComp elt (⟨target,iter,ifs,0⟩::rest) scope pos) 0 wY acc env) R s')
   (notedBy (model prog w) A env λx s'=>R (.error x) s') s) :
  codeAny (model prog w) A (.compStart (.SetComp elt (⟨target,iter,ifs,0⟩::rest) scope pos) 0 it acc env) R s:=by
 refine ac8 ?_;show wpAny _ A ((compStart (.SetComp elt (⟨target,iter,ifs,0⟩::rest) scope pos) 0 it acc env).onRaise (λx=>do noteFrame x env;standAt theWindowsPlace)) _ _ s
 refine afx ?_;unfold compStart;show wpAny _ A (ask>>=_) _ _ s
 refine wpAny_bind (wpAny_askSetting (wpAny_ite ?_));split
 ·first
   |exact wpAny_bind (wpAny_pure (wpAny_pure (And.intro rfl h0)))
   |exact wpAny_pure (And.intro rfl h0)
 ·first
   |exact wpAny_bind (wpAny_rule (wpAny_bind (wpAny_standAt (wpAny_bind (wpAny_mono h (λwY s' h'=>wpAny_pure (And.intro rfl h')) λ_ _ x=>x)))))
   |(refine wpAny_bind (wpAny_rule ?_);show wpAny _ _ (standAt iter.pos>>=_) _ _ s;exact wpAny_bind (wpAny_standAt (wpAny_bind (wpAny_mono h (λwY s' h'=>wpAny_pure (And.intro rfl h')) λ_ _ x=>x))))
theorem DY{elt tg iter:Expr}{ifs:List Expr}{sc:Scope}{pos:Pos}{env:Env}{it:Value}{acc:Value}(G:Nat->Shared->Prop)
  (turn:∀k t,G k t->dU.Tame prog w A (pyNext it) (λr t1=>match r with
   |none=>R (.ok .next) t1
   |some v=>dU.Tame prog w A (letOwnedTupleGo tg it v) (λ_=>dU.Tame prog w A (assign tg env v) λ_=>dU.Tame prog w A (mr env ifs) λb t4=>match b with
     |false=>∃j,j<k/\G j t4
     |true=>dU.Tame prog w A (eval elt env) (λy=>dU.Tame prog w A (call (.builtin "set.add") [acc,y]) λ_ u=>∃j,j<k/\G j u) t4) t1) t)
  {k:Nat} {t:Shared} (g:G k t):codeAny (model prog w) A (.compLoop (.SetComp elt [⟨tg,iter,ifs,0⟩] sc pos) 0 it acc env) R t:=by
 have one:∀k t,G k t->dU.Tame prog w A (compTurn (.SetComp elt [⟨tg,iter,ifs,0⟩] sc pos) 0 it acc env) (λx t'=>match x with|.done r=>R (.ok r) t'|.again c=>c=.compLoop (.SetComp elt [⟨tg,iter,ifs,0⟩] sc pos) 0 it acc env/\∃j,j<k/\G j t') t:=by
  intro k t g;rw[FZ];apply wpAny_bind;apply wpAny_standAt;apply wpAny_bind;refine aH (turn k t g) λx t1 h1=>?_;match x,h1 with
  |none,h1=>exact wpAny_pure h1
  |some v,h1=>
   apply wpAny_bind;refine aH h1 λ_ t2 h2=>?_;apply wpAny_bind;refine aH h2 λ_ t3 h3=>?_;apply wpAny_bind;refine aH h3 λb t4 h4=>?_;match b,h4 with
   |false,h4=>exact wpAny_pure ⟨rfl,h4⟩
   |true,h4 =>apply wpAny_bind;apply wpAny_bind;refine aH h4 λy t5 h5=>?_;apply wpAny_bind;apply wpAny_standAt;apply wpAny_bind;refine aH h5 λ_ t6 h6=>?_;exact wpAny_pure (wpAny_pure ⟨rfl,h6⟩)
 exact ac6 rfl G (λk t g=>wpAny_noted (wpAny_mono (one k t g) (λ_ _ q=>q) λ_ _ f=>f.elim)) k g
end
def uQ(P:Program)(w:World)(a:Addr)(ps:List (Addr×List Str)):HO:=.ext λh=>∃o es ep t,eM P w h a ps (!cB w) o es ep t
theorem MP{X:Cx}{H:Hp}{h:Heap}{a:Addr}{ps:List (Addr×List Str)}(x:∃o es ep t,eM X.prog X.w h a ps (!cB X.w) o es ep t):bD X.prog X.w H h a (uQ X.prog X.w a ps):=by refine⟨x,?_,λh1 h2 ⟨o,es,ep,t,q⟩ k=>⟨o,es,ep,t,q.keep λo e=>k o e⟩⟩;obtain⟨o,es,ep,t,y⟩:=x;exact⟨o,y.ho⟩
def dO(H:Hp)(ps:List (Addr×List Str)):Prop:=∀p∈ps,H p.1=some (.tup (p.2.map V.str))
theorem Ih{X:Cx}{pins:List (Addr×Obj)}{σ:L2.St}{H:Hp}{s:Shared}(I:Inv X pins σ H s){c:Addr}{zs:List Str}(h:H c=some (.tup (zs.map V.str))):KT X.prog X.w s.heap zs c:=by obtain⟨its,rv,⟨o,ho,hc,n,hd⟩,_⟩:=I.tuple (aL.of (K:=X.K) h);exact⟨o,its.toArray,n,ho,hc,hd,by simpa using FY rv⟩
def xt(P:Program)(w:World)(own:List Str)(fr:List Nat)(g:TG)(tt:TT)(te:TE)(σ:L2.St)(Q:VK)(J:It)(H1:Hp):Prop:=
 ∃W:Nat->Nat->List (Addr×List Str)->Hp->Prop,(∃m,W 0 m [] H1)/\∀i m ps H2,W i m ps H2->dO H2 ps /\
  ((J.stop i H2/\∀D,H2 D=none->Q (.ref D) (upd H2 D (uQ P w D ps))) \/
  (J.go i H2/\∀x H3,J.oN i H2 x H3->g x (dq own fr σ) H3 λσ4 H4=>tt σ4 H4 λb H5=>if b=true then te σ4 H5 λy H6=>∃c zs,y=.ref c/\zs≠[]/\H6 c=some (.tup (zs.map V.str))/\dO H6 ps/\ps.length+1<=12/\∃m',m'<m/\W (i+1) m' (eO ps (c,zs)) H6 else ∃m',m'<m/\W (i+1) m' ps H5))
def X'(P:Program)(w:World)(own:List Str)(fr:List Nat)(wi:TI)(g:TG)(tt:TT)(te:TE):TE:=λσ H Q=>wi σ H (xt P w own fr g tt te σ Q)
section
variable {X:Cx}{own:List Str}{fr:List Nat}{sc:Scope}{tg iter elt:Expr}{ifs:List Expr}{pos:Pos}{wi:TI}{g:TG}{tt:TT}{te:TE}
theorem Kd{pins:List (Addr×Obj)}{σ:L2.St}{H2:Hp}{s2:Shared}{Q:VK}{it:Addr}{fp:List Addr}{tn:Nat->Heap->Prop}{J:It}{RR:Value->Addr->Result->Shared->Prop}{E:Value->Shared->Prop}(hu:X.A.units+1<cLine)(hc:X.calm=true)(S:fk X own fr sc)(gk:GK own.length g)
  (hg:∀s H fp,PG (cq X own fr sc s H fp) tg g) (ht:∀s H fp,gc (cq X own fr sc s H fp) ifs tt) (he:∀s H fp,PE (cq X own fr sc s H fp) elt te)
  (I2:Inv X pins σ H2 s2) (T:Turn X.prog X.w X.K tg J fp it tn) (st2:tn 0 s2.heap) (f2:∀b∈fp,d4 X pins H2 b) (L:xt X.prog X.w own fr g tt te σ Q J H2)
  (hRR:∀D C s',(∃m,s'.heap.Ns C m)->@LE.le Nat _ s2.heap.objs.size C->(∃H',H' C=none/\Q (.ref D) H'/\∀h' tk,Heap.SameBut C s'.heap h'->Inv X pins σ H' {s' with heap:=h',toks:=tk})->RR (.ref D) C (.ok .next) s') :
  wpAny (model X.prog X.w) X.A (newSet (.type "set")) (λacc s₃=>wpAny (model X.prog X.w) X.A (newFunctionEnv sc X.env.globals (cS X.env sc.names []) [] X.env.qual none .none (some X.env)) (λjO s₄ =>codeAny (model X.prog X.w) X.A (.compStart (.SetComp elt [⟨tg,iter,ifs,0⟩] sc pos) 0 (.ref it) acc {jO with scope:=relabel sc X.env}) (RR acc jO.locals) s₄) E s₃) E s2:=by
 obtain⟨W,⟨m0,w0⟩,turn⟩:=L;unfold newSet;refine wpAny_bind (iF (wpAny_newObj_type (iX ?_)));dsimp only;generalize dE:s2.heap.push {cls:=.type "set",dict:=none,data:=.set #[] 0 (.fresh 0 0 (!cB X.w))}=h1;have hz:h1.objs.size=s2.heap.objs.size+1:=by rw[<-dE,abk]
 have hk1:∀b o,s2.heap.get? b=some o->h1.get? b=some o:=λb o e=>by rw[<-dE];exact aao _ e
 have vQ:h1.get? s2.heap.objs.size=some {cls:=.type "set",dict:=none,data:=.set #[] 0 (.fresh 0 0 (!cB X.w))}:=by rw[<-dE];exact aaC _ rfl
 have hfl:∀b∈fp,@LT.lt Nat _ b s2.heap.objs.size:=λb hb=>by obtain⟨o,e,_⟩:=T.obj _ _ st2 b hb;exact aay e
 have I3:=mi I2 S f2 hz hk1 hfl;rw[hz];generalize hY:cq X own fr sc s2 H2 fp=Y at I3;have lC:(hC s2 sc h1).get? s2.heap.objs.size=some {cls:=.type "set",dict:=none,data:=.set #[] 0 (.fresh 0 0 (!cB X.w))}:=pushCells_keeps _ _ _ _ (aao _ vQ);have kc:tn 0 (hC s2 sc h1):=T.keep _ _ _ st2 λb _ o e=>pushCells_keeps _ _ _ _ (aao _ (hk1 b o e));have eP:Y.prog=X.prog:=by rw[<-hY];rfl
 have eW:Y.w=X.w:=by rw[<-hY];rfl
 have eK:Y.K=X.K:=by rw[<-hY];rfl
 have eA:Y.A=X.A:=by rw[<-hY];rfl
 have eX:Y.xe=jw:=by rw[<-hY];rfl
 have ecm:Y.calm=true:=by rw[<-hY];exact hc
 have pO:({scope:=relabel sc X.env,locals:=s2.heap.objs.size+1,globals:=X.env.globals,cells:=cellsFrom (s2.heap.objs.size+1+1) sc.names (cS X.env sc.names []),qual:=X.env.qual,func:=none,code:=X.env.code,frame:=X.env.frame,builtins:=X.env.builtins}:Env)=Y.env:=by rw[<-hY];rfl
 have eL:Y.env.locals=s2.heap.objs.size+1:=by rw[<-hY];rfl
 rw[pO];have qE:PG Y tg g:=hY▸hg s2 H2 fp;have vR:gc Y ifs tt:=hY▸ht s2 H2 fp;have qF:PE Y elt te:=hY▸he s2 H2 fp;have dfp:s2.heap.objs.size∉fp:=λz=>aa8 _ (hfl _ z);have dC:s2.heap.objs.size≠s2.heap.objs.size+1:=aaG (abg _);have my:∀x c,Y.env.cells.lookup x=some c->c≠s2.heap.objs.size:=λx c e z=>by obtain⟨v,o,q,d⟩:=I3.cell x c e;rw[z] at q;have q':=lC.symm.trans q;cases q';cases d
 have nB:s2.heap.objs.size∉Y.fs:=by
  rw[<-hY];intro z;rcases aav.mp (I2.fZ _ z) with e|e
  ·exact aa8 _ (by have:=I2.lt;rw[<-e] at this;exact this)
  ·exact I2.vt (aal _) e
 have i7:@LE.le Nat _ Y.s₀.heap.objs.size s2.heap.objs.size:=by rw[<-hY];exact aal _
 have fpY:∀{H':Hp} {pp:List (Addr×Obj)},(∀b∈fp,H' b=none)->(∀p∈pp,p.1∉fp)->∀b∈fp,d4 Y pp H' b:=λ{H' pp} hn hp b hb=>by
  refine⟨hn b hb,?_,?_,?_,?_,λp hq z=>?_⟩
  ·have:=hfl b hb;rw[eL];intro z;have z':@Eq Nat b (s2.heap.objs.size+1):=z;omega
  ·rw[<-hY];intro z;rcases aav.mp (I2.fZ _ z) with e|e
   ·exact(f2 b hb).2.1 e
   ·exact(f2 b hb).2.2.1 e
  ·exact .inl (by rw[<-hY];exact hb)
  ·exact(I3.ok.yB b (by rw[<-hY];exact hb)).2
  ·rcases aaD.mp hq with q|q
   ·have:p∈([]:List (Addr×Obj)):=by rw[<-hY] at q;exact q
    exact nomatch this
   ·exact hp p q (z▸hb)
 have mz:∀{H':Hp} {s':Shared} {σ':L2.St} {ob:Obj},Inv Y [] σ' H' s'->H' s2.heap.objs.size=none->s'.heap.get? s2.heap.objs.size=some ob->(∀v,ob.data≠.cell v)->Inv Y [(s2.heap.objs.size,ob)] σ' H' s':=λ{H' s' σ' ob} J0 hn e d=>
  J0.cv λp hp=>by
   have:p=(s2.heap.objs.size,ob):=by simpa using hp
   subst this;exact⟨e,hn,by rw[eL];exact dC,nB,d⟩
 have jP:∀{ob:Obj} (p:Addr×Obj),p∈[(s2.heap.objs.size,ob)]->p.1∉fp:=λ{ob} p hp=>by
  have:p=(s2.heap.objs.size,ob):=by simpa using hp
  subst this;exact dfp
 have loop:codeAny (model X.prog X.w) X.A (.compLoop (.SetComp elt [⟨tg,iter,ifs,0⟩] sc pos) 0 (.ref it) (.ref s2.heap.objs.size) Y.env) (RR (.ref s2.heap.objs.size) (s2.heap.objs.size+1)) {s2 with heap:=hC s2 sc h1}:=by
  have nG:∃o es ep t,eM X.prog X.w (hC s2 sc h1) s2.heap.objs.size [] (!cB X.w) o es ep t:=by
   refine⟨_,_,_,_,lC,⟨rfl,rfl,rfl⟩,rfl,⟨λi j hi=>absurd hi (ab7 _),rfl,rfl,.inl rfl,λi j e=>?_,aaZ _,λi j e e1=>?_⟩,.nil,λ_=>aaZ _,rfl,λq=>absurd rfl q⟩
   ·have:(#[]:Array Nat)[i]?=some j:=e
    simp at this
   ·have:(#[]:Array Nat)[i]?=some j:=e1
    simp at this
  refine DY (λn s'=>∃i ps H',W i n ps H'/\Inv Y [] (dq own fr σ) H' s'/\tn i s'.heap/\(∀b∈fp,H' b=none)/\H' s2.heap.objs.size=none/\∃o es ep t,eM X.prog X.w s'.heap s2.heap.objs.size ps (!cB X.w) o es ep t) ?_ (k:=m0)
   ⟨0,[],H2,w0,I3,kc,λb hb=>(f2 b hb).1,I2.aR.fresh (aal _),nG⟩
  rintro n s' ⟨i,ps,H',w',J0,fi,kf,hDn,ob,es,ep,tb,hDo⟩;obtain⟨hold,iC⟩:=turn i n ps H' w';have LD:∀v,ob.data≠.cell v:=λv z=>by rw[hDo.hd] at z;cases z
  have J1:=mz J0 hDn hDo.ho LD;rcases iC with⟨stop,fin⟩|⟨go,step⟩
  ·have d0:=T.done Y eP eW eK ecm i _ s' _ H' jw J1 (fpY kf jP) fi stop;rw[eA] at d0;refine wpAny_mono d0 (λr s4 ⟨hr,J4⟩=>?_) λ_ _ z=>z;subst hr;have pD:=(J4.pin (s2.heap.objs.size,_) (aan _ aau)).1;refine hRR _ _ s4 ?_ (abu _) ⟨upd H' s2.heap.objs.size (uQ X.prog X.w s2.heap.objs.size ps),?_,fin _ hDn,λh' tk hs=>?_⟩
   ·obtain⟨m,hn,_⟩:=J4.loc;rw[eL] at hn;exact⟨m,hn⟩
   ·rw[L2.aq (aaX dC),<-eL];exact J4.free
   ·subst hY;have hO:bD X.prog X.w (upd H' s2.heap.objs.size (uQ X.prog X.w s2.heap.objs.size ps)) h' s2.heap.objs.size (uQ X.prog X.w s2.heap.objs.size ps):=MP ⟨ob,es,ep,tb,{hDo with ho:=(hs.2 _ dC).trans pD}⟩;exact mj I2 f2 J4 (aal _) hDn dC hs hO tk
  ·have d0:=T.item Y eP eW eK ecm i _ s' _ H' jw J1 (fpY kf jP) fi go;rw[eA] at d0;refine wpAny_mono d0 (λr s4 ⟨u,hr,h4⟩=>?_) λ_ _ z=>z;subst hr;refine wpAny_mono h4 (λ_ s5 ⟨x,H5,J5,r5,y5,st5,ng⟩=>?_) λ_ _ z=>z;have qH:=J5.pinned (fpY ng jP) (T.obj _ _ st5);have s1:=qE _ s5 _ H5 x u _ qH r5 (gk _ _ _ _ (step x H5 y5));rw[eP,eW,eA,eX] at s1;refine wpAny_mono s1 (λ_ s6 ⟨σ6,H6,J6,q6,nC⟩=>?_) λ_ _ z=>z;have i9:=vR _ s6 σ6 H6 _ J6 q6;rw[eP,eW,eA,eX] at i9;refine wpAny_mono i9 (λok s7 ⟨H7,J7,q7⟩=>?_) λ_ _ z=>z;have low:∀{H8:Hp} {s8:Shared},Inv Y ([(s2.heap.objs.size,ob)]++cV fp s5.heap) σ6 H8 s8 ->
     Inv Y (cV fp s5.heap) σ6 H8 s8/\H8 s2.heap.objs.size=none/\s8.heap.get? s2.heap.objs.size=some ob/\(∀b∈fp,H8 b=none)/\tn (i+1) s8.heap:=λ{H8 s8} J8=>by
    have p8:=J8.pin (s2.heap.objs.size,_) (aan _ (aaL _ aau));refine⟨J8.cv λp hp=>J8.pin p (aan _ (aan _ hp)),p8.2.1,p8.1,λb hb=>?_,T.keep _ _ _ st5 λb hb o e=>(J8.pin (b,o) (aan _ (aan _ (cG hb e)))).1⟩;obtain⟨o,e,d⟩:=T.obj _ _ st5 b hb;exact(J8.pin (b,o) (aan _ (aan _ (cG hb e)))).2.1
   have weak:∀{H8:Hp} {s8:Shared} {pp:List (Addr×Obj)},Inv Y pp σ6 H8 s8->Inv Y [] (dq own fr σ) H8 s8:=λ{H8 s8 pp} J8=>(J8.weak nC.1.symm (λj v e=>by
    by_cases hj:j<own.length
    ·exfalso;unfold dq at e;rw[abf (by simpa using hj),abO] at e;split at e<;>cases e
    ·rw[nC.2 j (adx.mp hj)];exact e)).cv λp hp=>nomatch hp
   cases ok with
   |false=>
    obtain⟨m',hm,w7⟩:=(show ∃m',m'<n/\W (i+1) m' ps H7 by simpa using q7)
    obtain⟨_,l1,l2,l3,l4⟩:=low J7;exact⟨m',hm,i+1,ps,H7,w7,weak J7,l4,l3,l1,ob,es,ep,tb,{hDo with ho:=l2}⟩
   |true=>
    have vS:te σ6 H7 λy H6=>∃c zs,y=.ref c/\zs≠[]/\H6 c=some (.tup (zs.map V.str))/\dO H6 ps/\ps.length+1<=12/\∃m',m'<n/\W (i+1) m' (eO ps (c,zs)) H6:=by simpa using q7
    have s3:=qF _ s7 σ6 H7 _ J7 vS;rw[eP,eW,eA,eX] at s3;show wpAny _ _ _ _ _ _
    refine wpAny_mono s3 (λyv s8 ⟨y,H8,J8,r8,c,zs,ey,ne,zz,hold8,room,m',hm,w8⟩=>?_) λ_ _ z=>z;subst ey;cases r8;have RS:=Ih J8 zz;have hks:∀p∈ps,KT X.prog X.w s8.heap p.2 p.1:=λp hp=>by have:=Ih J8 (hold8 p hp);rw[eP,eW] at this;exact this
    rw[eP,eW] at RS;obtain⟨Lv,l1,l2,l3,l4⟩:=low J8;refine Kc hu ({hDo with ho:=l2}:eM X.prog X.w s8.heap s2.heap.objs.size ps (!cB X.w) ob es ep tb) hks RS ne room λh' o' es' kZ t' hs' x'=>?_;have J9:Inv Y [] (dq own fr σ) H8 {s8 with heap:=h',toks:=s8.toks+(zs.length+1)}:=by
     refine(weak Lv).turned (t':=s8.toks+(zs.length+1)) (it:=s2.heap.objs.size) (λb o hb e=>(hs'.2 b hb).trans e) l1 (by rw[eL];exact dC) (.inr i7) my λp hp=>?_
     have:p∈([]:List (Addr×Obj)):=by rw[<-hY] at hp;exact hp
     exact nomatch this
    refine⟨m',hm,i+1,eO ps (c,zs),H8,w8,J9,?_,l3,l1,o',es',kZ,t',x'⟩;exact T.keep _ _ _ l4 λb hb o e=>(hs'.2 b (λz=>dfp (z▸hb))).trans e
 exact DV loop (T.self X.A 0 _ _ _ kc loop)
theorem PN{P:Program}{w:World}(own:List Str)(fr:List Nat)(hu:X.A.units+1<cLine)(hc:X.calm=true)(S:fk X own fr sc)(gk:GK own.length g)(hi:PI X tg iter wi)
  (hg:∀s H fp,PG (cq X own fr sc s H fp) tg g) (ht:∀s H fp,gc (cq X own fr sc s H fp) ifs tt) (he:∀s H fp,PE (cq X own fr sc s H fp) elt te) (hP:X.prog=P:=by rfl) (hw:X.w=w:=by rfl)
  (hs:∀x,foldedSetIterable iter X.env x=pure x:=by intro _;rfl):PE X (.SetComp elt [⟨tg,iter,ifs,0⟩] sc pos) (X' P w own fr wi g tt te):=by
 subst hP hw;intro pins s σ H Q I h;show wpAny _ _ (comprehension (.SetComp elt [⟨tg,iter,ifs,0⟩] sc pos) sc X.env (firstIterPos [⟨tg,iter,ifs,0⟩] pos) (newSet (.type "set")) (firstAsync [⟨tg,iter,ifs,0⟩]) (firstIter [⟨tg,iter,ifs,0⟩] X.env)) _ _ _
 have iD:closureFor sc X.env=pure (cS X.env sc.names []):=dR λy hy hf=>I.ok.has y.1 (by
  rcases S.ug y hy hf with q|q
  ·exact .inl q
  ·exact .inr q)
 refine wpAny_comprehension_free (use:=none) rfl hs iD S.kind (λy hy hl=>bW S.nd (by rw[<-hl];exact hy)) ?_;refine aH (hi pins s σ H _ I h) λv s1 h1=>aH h1 λitv s2 h2=>?_;obtain⟨it,fp,tn,J,H2,e,I2,T,st2,f2,L⟩:=h2;subst e;exact Kd hu hc S gk hg ht he I2 T st2 f2 L λD C s' ⟨m,hn⟩ _ ⟨H',_,q,hi⟩=>⟨m,hn,λh' hs'=>⟨.ref D,H',hi h' s'.toks hs',rfl,q⟩⟩
end
def fV(ps:List (Addr×List Str))(a:Addr):List Str:=((ps.find? λp=>decide (p.1=a)).map (·.2)).getD []
theorem str_inj:∀{xs ys:List Str},xs.map V.str=ys.map V.str->xs=ys
 |[],[],_=>rfl
 |[],_::_,h=>by simp at h
 |_::_,[],h=>by simp at h
 |x::xs,y::ys,h=>by simp only[aaQ,agm,V.str.injEq] at h;rw[h.1,str_inj h.2]
theorem jY{H:Hp}{ps:List (Addr×List Str)}(h:dO H ps){p:Addr×List Str}(hp:p∈ps):fV ps p.1=p.2:=by
 unfold fV;cases e:ps.find? λq=>decide (q.1=p.1) with
 |none=>
  have:=List.find?_eq_none.mp e p hp
  simp at this
 |some q=>
  have h1:=List.find?_some e;have h2:=List.mem_of_find?_eq_some e;have e1:q.1=p.1:=by simpa using h1
  have a:=h q h2;rw[e1,h p hp] at a;have a':p.2.map V.str=q.2.map V.str:=by injection a with a;injection a
  exact(str_inj a').symm
section
variable {prog:Program}{w:World}{A:Around}{E:Value->Shared->Prop}{s:Shared}
def qb(h:Heap)(f:Addr->List Str)(v:Value):Prop:=∃a its,v=.ref a/\IsTup h a its.toArray/\StrsAre its (f a)/\f a≠[]
theorem qb.keep{h h':Heap}{f:Addr->List Str}{v:Value}(x:qb h f v)(k:∀b o,h.get? b=some o->h'.get? b=some o):qb h' f v:=let ⟨a,its,e,⟨o,ho,r⟩,q⟩:=x;⟨a,its,e,⟨o,k _ _ ho,r⟩,q⟩
theorem xu{h:Heap}{f:Addr->List Str}:∀{us:List Value},(∀v∈us,qb h f v)->∃zss,Bk h us zss/\∀zs∈zss,zs≠[]
 |[],_=>⟨[],.nil,λ_ z=>nomatch z⟩
 |u::us,k=>by obtain⟨zss,t,n⟩:=xu λv hv=>k v (aaw _ hv);obtain⟨a,its,e,hi,hs,ne⟩:=k u aau;exact⟨f a::zss,.cons ⟨a,its,e,hi,hs⟩ t,λz hz=>(aav.mp hz).elim (λe=>e▸ne) (n z)⟩
theorem F0{us:List Value}{f:Addr->List Str}(k:∀v∈us,qb s.heap f v):o8 prog w A E s (pairsOf us) (tuples' true) (lM f):=by
 intro st i j R q hi hj hR;have at_:∀{i:Nat},i<(pairsOf us).size->∃a its p,(arrOf st)[i]?=some (.ref a,p)/\IsTup s.heap a its.toArray/\StrsAre its (f a):=λ{i} hi=>by
  have hi':i<(arrOf st).size:=by rw[q.len];exact hi
  have m:(arrOf st)[i]∈(pairsOf us).toList:=by
   have:(arrOf st)[i]∈pairsOf us:=q.pm.mem_iff.mp (Array.getElem_mem hi')
   simpa using this
  have m2:((arrOf st)[i]).1∈us:=by
   have:(arrOf st)[i]∈us.zip us:=by simpa [pairsOf] using m
   exact(acG this).1
  obtain⟨a,its,e,h1,h2,_⟩:=k _ m2;exact⟨a,its,((arrOf st)[i]).2,by rw[aaE hi',<-e],h1,h2⟩
 obtain⟨a,ia,pa,ea,ta,sa⟩:=at_ hi;obtain⟨b,ib,pb,eb,tb,sb⟩:=at_ hj;have ka:ky (lM f) st i=f a:=by show KK _ _ _=_;unfold KK;rw[ea];rfl
 have kb:ky (lM f) st j=f b:=by show KK _ _ _=_;unfold KK;rw[eb];rfl
 rw[ka,kb] at hR;rw[ltAt'_eq];refine wpS_bind (wpS_get ?_);show wpS _ _ _ _ (do let x <-elem' (arrOf st) i;let y <-elem' (arrOf st) j;lt' x y) R st
 rw[elem'_eq,elem'_eq,ea,eb];refine wpS_bind (wpS_pure (wpS_bind (wpS_pure ?_)));rw[lt'_eq];refine wpS_bind (wpS_get ?_);rw[q.kn];refine wpS_bind (wpS_lift (wpAny_attempt (Kb ta tb sa sb ⟨rfl,?_⟩)));exact wpS_pure hR
theorem Bl{h:Heap}{tk:Nat}{us:List Value}{f:Addr->List Str}{Q:Value->Shared->Prop}(hk:∀v∈us,qb h f v)(aJ:us.length<64)
  (q:∀(out:List Addr) (n:Nat) (h2:Heap),(out.map Value.ref).Perm us->out.Pairwise (λa b=>dv (f b) (f a)=false)->(∀b o,h.get? b=some o->h2.get? b=some o)->h2.get? h.objs.size=some {cls:=.type "list",data:=.seq (out.map Value.ref).toArray n}->Q (.ref h.objs.size) {s with heap:=h2,toks:=tk}) :
  wpAny (model prog w) A (call (.builtin "list.sort") [.ref h.objs.size]) (λ_ s'=>Q (.ref h.objs.size) s') E {s with heap:=h.push {cls:=.type "list",data:=.seq us.toArray},toks:=tk}:=by
 have vZ:(h.push {cls:=.type "list",data:=.seq us.toArray}).get? h.objs.size=some (seqObj "list" us.toArray 0):=aaC _ rfl;refine wpAny_call_entry ad6 ⟨_,vZ,rfl⟩ adK ?_ (args_list_sort _);refine FX (h:=h) (us:=us) rfl aJ (tuples' true) (lM f) (λt kp two R r=>?_) (λt kp=>F0 λv hv=>(hk v hv).keep kp) λout n h2 pm aF kp g=>⟨_,rfl,?_⟩
 ·obtain⟨zss,T,ne⟩:=xu λv hv=>(hk v hv).keep kp;exact DJ T ne two r
 ·have ln:out.size=us.length:=by rw[pm.size_eq,acL]
  have pr:∀x∈out.toList,x.1=x.2/\x.2∈us:=λx hx=>by
   have m:x∈(pairsOf us).toList:=by
    have:x∈pairsOf us:=pm.mem_iff.mp (by simpa using hx)
    simpa using this
   have m':x∈us.zip us:=by simpa [pairsOf] using m
   obtain⟨a,b⟩:=x;refine⟨?_,(acG m').2⟩;obtain⟨i,hi,e⟩:=aa7 m';rw[List.getElem_zip] at e;cases e;rfl
  have ad:∃outs:List Addr,out.toList.map (·.2)=outs.map Value.ref:=by
   have:∀l:List Keyed,(∀x∈l,x.2∈us)->∃outs:List Addr,l.map (·.2)=outs.map Value.ref:=by
    intro l;induction l with
    |nil=>intro _;exact⟨[],rfl⟩
    |cons x l ih =>intro hx;obtain⟨outs,e⟩:=ih λy hy=>hx y (aaw _ hy);obtain⟨a,its,ea,_⟩:=hk _ (hx x aau);exact⟨a::outs,by rw[aaQ,aaQ,e,ea]⟩
   exact this _ λx hx=>(pr x hx).2
  obtain⟨outs,eo⟩:=ad;have lo:outs.length=us.length:=by
   have:=congrArg List.length eo
   simp at this;omega
  have zu:(us.zip us).map (·.2)=us:=by
   have:∀l:List Value,(l.zip l).map (·.2)=l:=λl=>by induction l with|nil=>rfl|cons x l ih=>simp[ih]
   exact this us
  refine q outs n h2 ?_ ?_ kp ?_
  ·rw[<-eo];have p1:out.toList.Perm (pairsOf us).toList:=Array.perm_iff_toList_perm.mp pm;have p2:=p1.map (·.2);have e2:(pairsOf us).toList.map (·.2)=us:=by
    have:(pairsOf us).toList=us.zip us:=by simp[pairsOf]
    rw[this,zu]
   rw[e2] at p2;exact p2
  ·refine abj.mpr λi j hi hj ij=>?_;have s0:=aF i j (by omega) (by omega);have kk:∀{i:Nat} (hi:i<outs.length),KK (lM f) out i=f outs[i]:=λ{i} hi=>by
    have hi':i<out.size:=by omega
    have e1:out[i]?=some out[i]:=aaE hi';have m:=pr out[i] (by simp);have e2:out[i].2=Value.ref outs[i]:=by
     have:=congrArg (λl=>l[i]?) eo
     simp[hi',hi] at this;exact this
    unfold KK;rw[e1];show((lM f).keyOf out[i].1).getD _=_
    rw[m.1,e2];rfl
   rw[kk hi,kk hj] at s0;exact s0
  ·rw[g]
   have:(out.map (·.2))=(outs.map Value.ref).toArray:=by apply adF.mp;simp[eo]
   rw[this]
end
section
variable {X:Cx}
theorem rd{P:Program}{w:World}(hc:X.calm=true)(hP:X.prog=P:=by rfl)(hw:X.w=w:=by rfl):dj X (.builtin "sorted") (λxs H Q=>∃(p:Addr) (ps:List (Addr×List Str)),xs=[.ref p]/\H p=some (uQ P w p ps)/\dO H ps/\(∀x∈ps,x.2≠[])/\ps.length<64 /\
  ∀l (qs:List (Addr×List Str)),H l=none->qs.Perm ps->qs.Pairwise (λa b=>dv b.2 a.2=false)->Q (.ref l) (upd H l (.lst (qs.map λq=>V.ref q.1)))):=by
 subst hP hw;rintro pins s σ H xs us Q I r ⟨p,ps,rfl,hp,hold,ne,aJ,q⟩;obtain⟨u,rfl,rx⟩:=vals1 r;cases rx;obtain⟨⟨o,es,ep,t,x⟩,_⟩:=I.aR _ _ hp;have sz:=x.size;refine acI ae2 aeG aeH (args_sorted1 _) ?_;unfold Builtin.«sorted»;apply wpAny_bind (m:=checkCount "sorted" 1 1 _);apply wpAny_pure;apply wpAny_bind;refine oX (A:=X.A.in1) ⟨⟨o,x.ho,x.ex,x.hd⟩,x.tab.fits,x.led,λq=>.inl (x.pl (by omega))⟩ (by rw[sz];exact aap (abe aJ) (by decide)) (by exact I.ok.hd hc) λh1 tk dr acc keep pm=>?_;have pm':acc.Perm (ps.map λp=>Value.ref p.1):=pm.trans (by
  have:=x.pm.map (·.2)
  rw[acv] at this;exact this)
 have la:acc.length=ps.length:=by rw[pm'.length_eq,aak]
 have tf:∀v∈acc,qb h1 (fV ps) v:=λv hv=>by obtain⟨pp,uH,rfl⟩:=aaN.mp (pm'.mem_iff.mp hv);obtain⟨its,rv,⟨ot,ho,r1⟩,_⟩:=I.tuple (aL.of (K:=X.K) (hold pp uH));have e:=jY hold uH;exact⟨pp.1,its,rfl,⟨ot,keep _ _ ho,r1⟩,by rw[e];exact hZ rv,by rw[e];exact ne pp uH⟩
 apply wpAny_bind;refine wpAny_newList ?_ (by rw[la];exact aap (abe aJ) (by decide));apply wpAny_bind;apply wpAny_holding;refine wpAny_mono (Bl (prog:=X.prog) (w:=X.w) (s:={s with drawn:=dr}) (h:=h1) (tk:=tk) (Q:=EP X pins σ Q) tf (by rw[la];exact aJ) λout n h2 o1 o2 o3 o4=>?_) (λ_ _ z=>wpAny_pure ⟨_,rfl,z⟩) λ_ _ z=>z;have no:s.heap.get? h1.objs.size=none:=by
  cases e:s.heap.get? h1.objs.size with
  |none=>rfl
  |some o=>exact absurd (aay (keep _ _ e)) (aa8 _)
 have uq:H h1.objs.size=none:=by
  cases e:H h1.objs.size with
  |none=>rfl
  |some o =>obtain⟨u,eu⟩:=(I.aR _ _ e).there;rw[no] at eu;cases eu
 have pa:out.Perm (ps.map (·.1)):=by
  have:=(o1.trans pm').map λv=>match v with|Value.ref a=>a|_=>0
  rw[acv,acv] at this;have e1:(out.map ((λv=>match v with|Value.ref a=>a|_=>0)∘Value.ref))=out:=by rw[show((λv=>match v with|Value.ref a=>a|_=>(0:Addr))∘Value.ref)=id from rfl];simp
  rw[e1] at this;exact this
 have qp:(out.map λa=>(a,fV ps a)).Perm ps:=by
  have:=pa.map λa=>(a,fV ps a)
  rw[acv] at this;have e:ps.map ((λa=>(a,fV ps a))∘(·.1))=ps:=by
   have:∀l:List (Addr×List Str),(∀x∈l,x∈ps)->l.map ((λa=>(a,fV ps a))∘(·.1))=l:=by
    intro l;induction l with
    |nil=>intro _;rfl
    |cons y l ih=>
     intro hy;rw[aaQ,ih λz hz=>hy z (aaw _ hz)];show(y.1,fV ps y.1)::l=y::l
     rw[jY hold (hy y aau)]
   exact this ps λ_ h=>h
  rw[e] at this;exact this
 have qw:(out.map λa=>(a,fV ps a)).Pairwise (λa b=>dv b.2 a.2=false):=aeZ.mpr o2;have em:(out.map λa=>(a,fV ps a)).map (λq=>V.ref q.1)=out.map V.ref:=by rw[acv];rfl
 have fin:=q h1.objs.size _ uq qp qw;rw[em] at fin;refine⟨.ref h1.objs.size,_,(I.drawn (dr:=dr)).AI (t':=tk) (o:=.lst (out.map V.ref)) (λb o e=>o3 _ _ (keep _ _ e)) no uq ?_,rfl,fin⟩;refine⟨by rw[aak];have:=qp.length_eq;rw[aak] at this;rw[this];exact aap (abe aJ) (by decide),out.map Value.ref,n,?_,o4⟩
 have:∀l:List Addr,Vals (l.map V.ref) (l.map Value.ref):=λl=>by
  induction l with
  |nil=>exact .nil
  |cons x l ih=>exact .cons rfl ih
 exact this out
end
theorem dO.same{H H':Hp}{ps:List (Addr×List Str)}(h:dO H ps)(s:au H H'):dO H' ps:=λp hp=>s _ _ (h p hp)
theorem Ke{P:Program}{w:World}{K:PySem.W.Frag}{a:Addr}{xs:List V}{own:List Str}{fr:List Nat}{g:TG}{tt:TT}{te:TE}{σ:L2.St}{Q:VK}{H:Hp}(Pv:Nat->List (Addr×List Str)->Hp->Prop)(h0:Pv 0 [] H)
  (hh:∀i ps H,i<=xs.length->Pv i ps H->dO H ps) (hl:∀i ps H,i<=xs.length->Pv i ps H->aj K H a xs)
  (hs:∀i x ps H (R:List (Addr×List Str)->Hp->Prop),xs[i]?=some x->Pv i ps H->(∀ps' H',Pv (i+1) ps' H'->R ps' H')->g x (dq own fr σ) H λσ4 H4=>tt σ4 H4 λb H5=>if b=true then te σ4 H5 λy H6=>∃c zs,y=.ref c/\zs≠[]/\H6 c=some (.tup (zs.map V.str))/\dO H6 ps/\ps.length+1<=12/\R (eO ps (c,zs)) H6 else R ps H5)
  (hd:∀ps H,Pv xs.length ps H->∀D,H D=none->Q (.ref D) (upd H D (uQ P w D ps))):xt P w own fr g tt te σ Q (oO K a) H:=by
 refine⟨λi m ps H=>m=xs.length-i/\i<=xs.length/\Pv i ps H,⟨xs.length,rfl,aaZ _,h0⟩,?_⟩;rintro i m ps H2 ⟨rfl,hi,p⟩;refine⟨hh i ps H2 hi p,?_⟩;have q:=hl i ps H2 hi p;by_cases h:i<xs.length
 ·refine .inr ⟨⟨xs,xs[i],q,by simp[h]⟩,λx H3 hy=>?_⟩;obtain⟨rfl,hy⟩:=hy;have z:=hs i x ps _ (λps' H'=>∃m',m'<xs.length-i/\(m'=xs.length-(i+1)/\i+1<=xs.length/\Pv (i+1) ps' H')) (hy xs q) p λps' H' q=>⟨xs.length-(i+1),by omega,rfl,h,q⟩
  exact z
 ·have e:i=xs.length:=by omega
  subst e;exact .inl ⟨⟨xs,q,aal _⟩,hd ps H2 p⟩
theorem DZ(ps:List (Addr×List Str))(p:Addr×List Str)(zs:List Str):zs∈(eO ps p).map (·.2) ↔ zs∈ps.map (·.2)\/zs=p.2:=by
 unfold eO;split
 ·rename_i h
  exact⟨.inl,λq=>q.elim id λe=>e▸h⟩
 ·rw[aaY,aaD];simp
theorem Kf{ps:List (Addr×List Str)}{p:Addr×List Str}(h:(ps.map (·.2)).Nodup):((eO ps p).map (·.2)).Nodup:=by
 unfold eO;split
 ·exact h
 ·rename_i n
  rw[aaY];refine acd.mpr ⟨h,by simp,λx hx y hy e=>?_⟩
  have:y=p.2:=by simpa using hy
  subst this;exact n (e▸hx)
theorem D3{H:Hp}{ps:List (Addr×List Str)}{p:Addr×List Str}(h:dO H ps)(hp:H p.1=some (.tup (p.2.map V.str))):dO H (eO ps p):=by
 unfold eO;split
 ·exact h
 ·intro q hq;rcases aaD.mp hq with q1|q1
  ·exact h q q1
  ·rw[aaA.mp q1];exact hp
theorem Kg{ps:List (Addr×List Str)}{p:Addr×List Str}(h:∀x∈ps,x.2≠[])(hp:p.2≠[]):∀x∈eO ps p,x.2≠[]:=by
 unfold eO;split
 ·exact h
 ·intro q hq;rcases aaD.mp hq with q1|q1
  ·exact h q q1
  ·rw[aaA.mp q1];exact hp
theorem F5(ps:List (Addr×List Str))(p:Addr×List Str):(eO ps p).length<=ps.length+1:=by
 unfold eO;split
 ·omega
 ·simp
end L3
namespace dJ
open PySem PySem.Spec PyProof.Rows L2 L3
abbrev xw:Stmt:=top 26 -- MQ
abbrev lN:Stmt:=top 27 -- pieces
abbrev og:Stmt:=top 28 -- hangs
abbrev oK:Stmt:=top 44 -- OX
abbrev MR(K:PySem.W.Frag):List V->Hp->VK->Prop:=λxs H Q=>∃p ys,xs=[V.ref p]/\((aj K H p ys/\∀l,H l=none->Q (V.ref l) (upd H l (.tup ys)))\/(aL K H p ys/\Q (V.ref p) H))
def within(ns:List Str)(ps:List (Str×Str)):List (Str×Str):=ps.filter λp=>decide (p.1∈ns)&&decide (p.2∈ns)
def eg(es:List (Str×Str)):List (Str×Str):=es++turn es
noncomputable def comp(ns:List Str)(ps:List (Str×Str))(z:Str):List Str:=nH ns (eg (within ns ps)) z
theorem D5(ns:List Str)(ps:List (Str×Str)):jd ns (within ns ps):=λp hp=>by
 have:=(aaU.mp hp).2
 simpa using this
theorem sO{ns:List Str}{es:List (Str×Str)}(h:jd ns es):jd ns (eg es):=λp hp=>(aaD.mp hp).elim (h p) (zb h p)
theorem D6{ns:List Str}{ps:List (Str×Str)}{z:Str}(h:z∈ns):z∈comp ns ps z:=JC.mpr ⟨h,dc.here _⟩
structure MS(ns:List Str)(ps:List (Str×Str))(qs:List (Addr×List Str)):Prop where
 mem:∀zs,zs∈qs.map (·.2) ↔ ∃z∈ns,zs=comp ns ps z
 nd:(qs.map (·.2)).Nodup
 up:qs.Pairwise (λa b=>dv b.2 a.2=false)
theorem jt{α β:Type}{F:α->β->Prop}:∀{a c:List α} {b d:List β},Paired F a b->Paired F c d->Paired F (a++c) (b++d)
 |_,_,_,_,.nil,q=>q
 |_,_,_,_,.cons r t,q=>.cons r (jt t q)
section
variable {P:Program}{w:World}{K:PySem.W.Frag}{mg:Str->Option Value}{base:Heap}
variable {C fP fS fL oh zA D7 zB zC:Addr}{fdP bJ zD jZ sP xx sQ sR:FuncData}
def MT(C:Addr):Sp:=λvs H Q _=>∃(x a:Addr) (ms ns:List Str) (ps:List (Str×Str)),vs=[.ref x,.ref a]/\a8 C H x ms ps/\ps.length<=30/\H a=some (.lst (ns.map V.str))/\ns.Nodup/\ns.length<=12 /\
 ∀l qs H',H l=none->H' l=some (.lst (qs.map λq=>V.ref q.1))->dO H' qs->MS ns ps qs->au H H'->Q (.ref l) H'
abbrev MU:List Str:=["web","among","inner","steps"]
theorem F6:aG MU ["web","among"] (ak xw):=⟨rfl,rfl,rfl,by decide +kernel,rfl,by decide +kernel,by decide +kernel⟩
theorem PQ{f:Addr}{fd:FuncData}(F:a7 K "pieces_among" "pieces_among" xw f fd)(M:Mt K mg C fP fS fdP bJ)(DL:Df K mg "leads" jT ["places","ties"] fL zD)(DS:Df K mg "spread" jF ["steps","start"] oh jZ)(DT:Df K mg "turned_pairs" iU ["ties"] zA sP)(T:bt mg):av P w K mg base aB 2 f fd ["web","among"] (MT C):=by
 have Ya:av P w K mg base aB 1 fS bJ ["self"] (AO C):=si M.sF M.wc T;have GL:av P w K mg base aB 1 fL zD ["places","ties"] za:=Fu DL.fn T;have GS:av P w K mg base aB 1 oh jZ ["steps","start"] wB:=C1 DS.fn T;have GT:av P w K mg base aB 1 zA sP ["ties"] wF:=C2 DT.fn T;refine F.ok F6 (λvs H Q E h=>?_) (λcdv A outer s H vs Q E hr h=>?_)
 ·obtain⟨x,a,ms,ns,ps,rfl,_⟩:=h;rfl
 ·obtain⟨x,a,ms,ns,ps,rfl,hW,lp,ha,nn,aJ,k⟩:=h;have hu:=AE hr;refine⟨_,ag (hJ (i:=2) ["a","b"] [1] F6.nd rfl rfl rfl (bq (osc:=(ak xw).names) (N:=MU) rfl rfl (by decide +kernel)) (iB (K:=K) (k:=2) (by decide) (by decide)) (bg (cm (pv 0) M.wc.cl M.sM Ya hr M.sB .nil ax))
    (λ_ _ _=>cI rfl (aO (aD (i:=0) (show(["a","b","among"]:List Str).Nodup by decide +kernel) rfl (Or.inl rfl)) (aO (aD (i:=1) (show(["a","b","among"]:List Str).Nodup by decide +kernel) rfl (Or.inl rfl)) cg)))
    (λ_ _ _=>dA (PW.pt (gO (aQ (r:=gb K false) cn (pv 0) (pv 2) rfl) (fE (aQ (r:=gb K false) cn (pv 1) (pv 2) rfl)))))
    (λ_ _ _=>c7 (aa (pv 0) (aa (pv 1) ae))))
   (ag (aN (i:=3) F6.nd rfl (Or.inr rfl) (ar GL hr rfl DL.aK DL.fn.kp DL.b .nil ax (aa (pv 1) (aa (bV Cb (pv 2) (ar GT hr rfl DT.aK DT.fn.kp DT.b .nil ax (aa (pv 2) ae))) ae))))
   (ao (aI (ay (rd (P:=P) (w:=w) rfl) (by rfl) T.sorted acT (aa (PN (P:=P) (w:=w) ["place"] [3] hu rfl (bq (osc:=(ak xw).names) (N:=MU) rfl rfl (by decide +kernel)) (bx (by decide)) (bg (pv 1))
    (λ_ _ _=>aD (i:=0) (show(["place","steps"]:List Str).Nodup by decide +kernel) rfl (Or.inl rfl)) (λ_ _ _=>bK)
    (λ_ _ _=>bp (r:=MR K) cH (by rfl) T.tuple aa5 (aa (ar GS hr rfl DS.aK DS.fn.kp DS.b .nil ax (aa (pv 1) (aa (pv 0) ae))) ae))) ae))))),?_⟩
  try rw[bw]
  obtain⟨d1,f1,q1,r1⟩:=hW.gA "ties";refine⟨_,rfl,x,d1,f1,rfl,q1,r1,x,ms,ps,rfl,hW,λlt tt RN RT=>⟨lt,rfl,⟨_,aj.of af⟩,?_⟩⟩;have s0:=ai (o:=.lst (tt.map V.ref)) RN;have hlt:=af (H:=H) (a:=lt) (o:=.lst (tt.map V.ref));generalize upd H lt (.lst (tt.map V.ref))=H0 at s0 hlt⊢;have hT0:=RT.same s0;have lz:(tt.map V.ref).length=ps.length:=by rw[aak,RT.len]
  refine cA (K:=K) (xs:=tt.map V.ref) (λi ys H2=>au H0 H2/\∃us,ys=us.map V.ref/\aS H2 us (within ns (ps.take i))) ⟨au.refl _,[],rfl,.nil⟩ ?_ ?_ ?_ ?_
  ·rintro i ys H2 hi ⟨_,us,rfl,hU⟩;rw[aak,hU.len];exact aap (aa' _ _) (aap (by rw[aaR];exact abF _ _) (aap lp (by decide)))
  ·rintro i ys H2 _ ⟨s2,_⟩;exact aj.of (s2 _ _ hlt)
  ·rintro i v ys H2 R hv ⟨s2,us,rfl,hU⟩ kR;rw[aaq] at hv;obtain⟨t,et,rfl⟩:=aar.mp hv;obtain⟨p,ep,ht⟩:=(hT0.same s2).get et;have De:=s2 _ _ (s0 _ _ ha);have fin:within ns (ps.take (i+1))=within ns (ps.take i)++(if (decide (p.1∈ns)&&decide (p.2∈ns))=true then [p] else []):=by unfold within;rw[aaI,ep,abt];congr 1;rw[abL,abv];rfl
   refine⟨t,_,rfl,aL.of ht,rfl,_,_,rfl,_,_,rfl,rfl,?_⟩;refine⟨_,rfl,_,rfl,a,_,rfl,.inl (aj.of De),rfl,bf ns,_,rfl,?_⟩;simp only[aaB,aa3];rw[bU];by_cases h1:p.1∈ns
   ·rw[decide_eq_true h1];refine bo ⟨_,rfl,_,rfl,a,_,rfl,.inl (aj.of De),rfl,bf ns,_,rfl,?_⟩;simp only[aaB,aa3];rw[bU];by_cases h2:p.2∈ns
    ·rw[decide_eq_true h2];refine bo ⟨_,rfl,_,rfl,(show 2<=sizeLine by decide),λu hu=>kR _ _ ⟨s2.trans (ai hu),us++[u],by simp,?_⟩⟩;rw[fin,if_pos (by simp[h1,h2])];exact aS.snoc (hU.same (ai hu)) af
    ·rw[aaz h2];exact aZ (kR _ _ ⟨s2,us,rfl,by rw[fin,if_neg (by simp[h2]),abr];exact hU⟩)
   ·rw[aaz h1];exact aZ (kR _ _ ⟨s2,us,rfl,by rw[fin,if_neg (by simp[h1]),abr];exact hU⟩)
  rintro ys H2 ⟨s2,us,rfl,hU⟩ q2 MV;rw[lz,aaF (aal _)] at hU;have s3:=s2.trans (ai (o:=.lst (us.map V.ref)) MV);have dF:=af (H:=H2) (a:=q2) (o:=.lst (us.map V.ref));have hU3:=hU.same (ai (o:=.lst (us.map V.ref)) MV);change kE _ _ _ _ (upd H2 q2 (.lst (us.map V.ref)));generalize upd H2 q2 (.lst (us.map V.ref))=H3 at s3 dF hU3⊢;have s03:=s0.trans s3;have lw:(within ns ps).length<=30:=aap (aa' _ _) lp;have hI:=sO (D5 ns ps);have lb:(eg (within ns ps)).length<=60:=by unfold eg;rw[aaM,pV];omega
  refine⟨_,rfl,_,rfl,_,rfl,q2,us,_,rfl,dF,hU3,by omega,λl4 u4 H4 n4 h4 hT4 s4=>?_⟩;refine⟨q2,l4,_,_,rfl,rfl,s4 _ _ dF,h4,?_,λl5 n5=>?_⟩
  ·rw[aak,aak,hU3.len,hT4.len,pV];exact aap (by omega:_<=60) (by decide)
  have s5:=ai (o:=.lst (us.map V.ref++u4.map V.ref)) n5;have h5:=af (H:=H4) (a:=l5) (o:=.lst (us.map V.ref++u4.map V.ref));generalize upd H4 l5 (.lst (us.map V.ref++u4.map V.ref))=H5 at s5 h5⊢;have xy:=s03.trans (s4.trans s5);have Yb:aS H5 (us++u4) (eg (within ns ps)):=jt ((hU3.same s4).same s5) (hT4.same s5);rw[<-aaY] at h5;refine⟨a,l5,ns,us++u4,_,rfl,xy _ _ ha,h5,Yb,nn,aJ,hI,by omega,λd ls H6 hS s6=>?_⟩;have s06:=xy.trans s6;refine⟨_,rfl,a,rfl,⟨_,aj.of (s06 _ _ ha)⟩,?_⟩;refine Ke (K:=K) (xs:=ns.map V.str) (λi ps' H7=>au H6 H7/\dO H7 ps'/\(∀zs,zs∈ps'.map (·.2) ↔ ∃z∈ns.take i,zs=comp ns ps z)/\(ps'.map (·.2)).Nodup/\(∀x∈ps',x.2≠[])/\ps'.length<=i) ⟨au.refl _,(λ_ z=>nomatch z),(λzs=>by simp),aci,(λ_ z=>nomatch z),aal _⟩ ?_ ?_ ?_ ?_
  ·rintro i ps' H7 _ ⟨_,h,_⟩;exact h
  ·rintro i ps' H7 _ ⟨s7,_⟩;exact aj.of (s7 _ _ (s06 _ _ ha))
  ·rintro i v ps' H7 R hv ⟨s7,ho,me,nd,nz,le⟩ kR;rw[aaq] at hv;obtain⟨z,ez,rfl⟩:=aar.mp hv;have hz:z∈ns:=aat ez;have hi:i<ns.length:=(aaH.mp ez).1;simp only[dB,bh,aa4];refine⟨_,rfl,_,rfl,d,z,ns,_,ls,rfl,hS.same s7,nn,aJ,hI,by omega,hz,λl8 H8 n8 h8 s8=>⟨l8,_,rfl,.inl ⟨aj.of h8,λc nc=>?_⟩⟩⟩;have s9:=s8.trans (ai (o:=.tup ((comp ns ps z).map V.str)) nc);have cz:comp ns ps z≠[]:=λe=>by have:=D6 (ps:=ps) hz;rw[e] at this;exact nomatch this
   refine⟨c,comp ns ps z,rfl,cz,af,ho.same s9,by omega,kR _ _ ⟨s7.trans s9,D3 (ho.same s9) af,λzs=>?_,Kf nd,Kg nz cz,aap (F5 _ _) (by omega)⟩⟩;rw[DZ,me,aaI,ez];constructor
   ·rintro(⟨y,hy,e⟩|e)
    ·exact⟨y,aaL _ hy,e⟩
    ·exact⟨z,aan _ (by simp),e⟩
   ·rintro⟨y,hy,e⟩;rcases aaD.mp hy with h|h
    ·exact .inl ⟨y,h,e⟩
    ·have:y=z:=by simpa using h
     subst this;exact .inr e
  ·rintro ps' H7 ⟨s7,ho,me,nd,nz,le⟩ D nD;rw[aak] at le me;have s8:=ai (o:=uQ P w D ps') nD;refine⟨D,ps',rfl,af,ho.same s8,nz,by omega,λl qs nl pm up=>?_⟩;have s9:=s8.trans (ai (o:=.lst (qs.map λq=>V.ref q.1)) nl);have D8:=s06.trans (s7.trans s9);refine k l qs _ ((s06.trans (s7.trans s8)).free nl) af (λq hq=>(ho.same s9) q (pm.mem_iff.mp hq)) ⟨λzs=>?_,(pm.map (·.2)).nodup_iff.mpr nd,up⟩ D8;rw[(pm.map (·.2)).mem_iff,me,aaF (aal _)]
end
abbrev gH:Stmt:=top 45 -- Yc
abbrev lO:Stmt:=top 58 -- RU
def fY(ns:List Str)(ps:List (Str×Str)):Prop:=∀a∈ns,∀b∈ns,dc (eg ps) a b
theorem Bm{ms:List Str}{ps:List (Str×Str)}(h:jd ms ps):within ms ps=ps:=by unfold within;rw[List.filter_eq_self];intro p hp;simp[h p hp]
theorem GoodW.MW{ns:List Str}{ps:List (Str×Str)}(g:GoodW ns ps):jd (aF ns) ps:=λp hp=>⟨eI.mpr (g.ins p hp).1,eI.mpr (g.ins p hp).2⟩
theorem D9{ns:List Str}{ps:List (Str×Str)}(g:GoodW ns ps)(h:fY ns ps){qs:List (Addr×List Str)}(p:MS (aF ns) ps qs):qs.length=1:=by
 have nS:=nI g.good.nd;have all:∀z∈aF ns,comp (aF ns) ps z=aF (aF ns):=λz hz=>by
  unfold comp;rw[Bm g.MW];refine(CJ nS nS (sO g.MW) hz λy=>?_).symm;constructor
  ·intro hy;exact h z (eI.mp hz) y (eI.mp hy)
  ·intro r;exact r.stays (S:=(·∈aF ns)) hz λq hq _=>(sO g.MW q hq).2
 have one:∀zs∈qs.map (·.2),zs=aF (aF ns):=λzs hz=>by obtain⟨z,h1,e⟩:=(p.mem zs).mp hz;rw[e,all z h1]
 obtain⟨z0,h0⟩:∃z,z∈aF ns:=by
  have h1:=g.good.one;cases e:aF ns with
  |nil=>exact absurd (show ns.length=0 from by have:=congrArg List.length e;rw[cC] at this;exact this) (by omega)
  |cons z r=>exact⟨z,aau⟩
 have ex:=(p.mem (comp (aF ns) ps z0)).mpr ⟨z0,h0,rfl⟩;have nd:=p.nd;cases e:qs with
 |nil=>rw[e] at ex;exact nomatch ex
 |cons a r=>
  cases r with
  |nil=>rfl
  |cons b r =>exfalso;rw[e] at one nd;simp only[aaQ,aa6,aav,not_or] at nd;exact nd.1.1 ((one a.2 (by simp)).trans (one b.2 (by simp)).symm)
section
variable {P:Program}{w:World}{K:PySem.W.Frag}{mg:Str->Option Value}{base:Heap}
variable {C fP fS fL oh zA D7 zB zC:Addr}{fdP bJ zD jZ sP xx sQ sR:FuncData}
def F7(C:Addr):Sp:=λvs H Q _=>∃(x:Addr) (ns:List Str) (ps:List (Str×Str)),vs=[.ref x]/\a8 C H x ns ps/\GoodW ns ps /\
 ∀l qs H',H l=none->H' l=some (.lst (qs.map λq=>V.ref q.1))->dO H' qs->MS (aF ns) ps qs->au H H'->Q (.ref l) H'
theorem Vn:aG ["web"] ["web"] (ak lN):=⟨rfl,rfl,rfl,by decide +kernel,rfl,by decide +kernel,by decide +kernel⟩
theorem D'{f:Addr}{fd:FuncData}(F:a7 K "pieces" "pieces" lN f fd)(zE:Df K mg "pieces_among" xw ["web","among"] D7 xx)(M:Mt K mg C fP fS fdP bJ)(DL:Df K mg "leads" jT ["places","ties"] fL zD)(DS:Df K mg "spread" jF ["steps","start"] oh jZ)(DT:Df K mg "turned_pairs" iU ["ties"] zA sP)(T:bt mg):av P w K mg base aB 3 f fd ["web"] (F7 C):=by
 have GP:av P w K mg base aB 1 fP fdP ["self"] (jq C):=c9 M.pF M.wc T;have GA:av P w K mg base aB 2 D7 xx ["web","among"] (MT C):=PQ zE.fn M DL DS DT T;refine F.ok Vn (λvs H Q E h=>?_) (λcdv A outer s H vs Q E hr h=>?_)
 ·obtain⟨x,ns,ps,rfl,_⟩:=h;rfl
 ·obtain⟨x,ns,ps,rfl,hW,g,k⟩:=h;have h1:=hr.mono (j:=1) (by decide);refine⟨_,ao (aI (ar GA hr rfl zE.aK zE.fn.kp zE.b .nil ax (aa (pv 0) (aa (cm (pv 0) M.wc.cl M.pM GP h1 M.pB .nil ax) ae)))),?_⟩;try rw[bw]
  obtain⟨d1,f1,q1,r1⟩:=hW.gA "places";refine⟨_,rfl,_,rfl,x,d1,f1,rfl,q1,r1,x,ns,ps,rfl,hW,λl1 iG=>?_⟩;have sl1:=ai (o:=.lst ((aF ns).map V.str)) iG;exact⟨x,l1,ns,aF ns,ps,rfl,hW.same sl1,g.aJ,af,nI g.good.nd,by rw[cC];exact g.good.aJ,λl qs H' nl hl ho pc s'=>k l qs H' (sl1.free nl) hl ho pc (sl1.trans s')⟩
def F8(C:Addr):Sp:=λvs H Q _=>∃(x:Addr) (ns:List Str) (ps:List (Str×Str)),vs=[.ref x]/\a8 C H x ns ps/\GoodW ns ps/\fY ns ps/\∀H',au H H'->Q (.bl true) H'
theorem Vo:aG ["web"] ["web"] (ak og):=⟨rfl,rfl,rfl,by decide +kernel,rfl,by decide +kernel,by decide +kernel⟩
theorem F9{f:Addr}{fd:FuncData}(F:a7 K "hangs" "hangs" og f fd)(zF:Df K mg "pieces" lN ["web"] zB sQ)(G:av P w K mg base aB 3 zB sQ ["web"] (F7 C))(T:bt mg):av P w K mg base aB 4 f fd ["web"] (F8 C):=by
 refine F.ok Vo (λvs H Q E h=>?_) (λcdv A outer s H vs Q E hr h=>?_)
 ·obtain⟨x,ns,ps,rfl,_⟩:=h;rfl
 ·obtain⟨x,ns,ps,rfl,hW,g,hh,k⟩:=h;refine⟨_,ao (aI (bL iW (ay aA (by rfl) T.len aax (aa (ar G hr rfl zF.aK zF.fn.kp zF.b .nil ax (aa (pv 0) ae)) ae)) aE (aV _))),?_⟩;try rw[bw]
  refine⟨_,rfl,x,ns,ps,rfl,hW,g,λl qs H' nl hl ho pc s'=>⟨l,_,rfl,.inl (aj.of hl),rfl,?_⟩⟩;rw[aak,D9 g hh pc,decide_eq_true (show V.int ((1:Nat):Int)=V.int 1 from rfl)];exact k H' s'
def rg(C:Addr):Sp:=λvs H Q _=>∃(x:Addr) (ns:List Str) (ps:List (Str×Str)),vs=[.ref x]/\a8 C H x ns ps/\GoodW ns ps/\fY ns ps/\∀H',au H H'->Q .bz H'
theorem PR:aG ["web"] ["web"] (ak oK):=⟨rfl,rfl,rfl,by decide +kernel,rfl,by decide +kernel,by decide +kernel⟩
theorem Kh{f:Addr}{fd:FuncData}(F:a7 K "check_hangs" "check_hangs" oK f fd)(zG:Df K mg "hangs" og ["web"] zC sR)(G:av P w K mg base aB 4 zC sR ["web"] (F8 C))(T:bt mg):av P w K mg base aB 5 f fd ["web"] (rg C):=by
 refine F.ok PR (λvs H Q E h=>?_) (λcdv A outer s H vs Q E hr h=>?_)
 ·obtain⟨x,ns,ps,rfl,_⟩:=h;rfl
 ·obtain⟨x,ns,ps,rfl,hW,g,hh,k⟩:=h;refine⟨_,ao (bu (bO (bG (ar G hr rfl zG.aK zG.fn.kp zG.b .nil ax (aa (pv 0) ae)) (λ_=>rfl))) (ao cN) aT),?_⟩;try rw[bw]
  exact⟨_,rfl,x,ns,ps,rfl,hW,g,hh,λH' s'=>⟨_,rfl,aZ (k H' s')⟩⟩
def Bn(C:Addr):Sp:=λvs H Q _=>∃(x c:Addr) (ns:List Str) (ps:List (Str×Str)) (zs:List Str) (z0:Str),vs=[.ref x,.ref c]/\a8 C H x ns ps/\(aF ns)[0]?=some z0/\H c=some (.tup (zs.map V.str))/\∀H',au H H'->Q (.bl (decide (z0∈zs))) H'
theorem PU:aG ["web","cut"] ["web","cut"] (ak lO):=⟨rfl,rfl,rfl,by decide +kernel,rfl,by decide +kernel,by decide +kernel⟩
theorem xB{f:Addr}{fd:FuncData}(F:a7 K "has_least" "has_least" lO f fd)(M:Mt K mg C fP fS fdP bJ)(T:bt mg):av P w K mg base aB 2 f fd ["web","cut"] (Bn C):=by
 have GP:av P w K mg base aB 1 fP fdP ["self"] (jq C):=c9 M.pF M.wc T;refine F.ok PU (λvs H Q E h=>?_) (λcdv A outer s H vs Q E hr h=>?_)
 ·obtain⟨x,c,ns,ps,zs,z0,rfl,_⟩:=h;rfl
 ·obtain⟨x,c,ns,ps,zs,z0,rfl,hW,h0,hc,k⟩:=h;refine⟨_,ao (aI (bL cn (bj aX (cm (pv 0) M.wc.cl M.pM GP hr M.pB .nil ax) aE (λ_ _=>rfl)) (pv 1) rfl)),?_⟩;try rw[bw]
  obtain⟨d1,f1,q1,r1⟩:=hW.gA "places";refine⟨_,rfl,x,d1,f1,rfl,q1,r1,x,ns,ps,rfl,hW,λl1 iG=>?_⟩;have sl1:=ai (o:=.lst ((aF ns).map V.str)) iG;have vZ:eF ((aF ns).map V.str) 0=some (V.str z0):=bc (j:=0) (by rw[aaq,h0];rfl);refine⟨l1,_,0,_,rfl,rfl,aj.of af,vZ,_,rfl,c,_,rfl,.inr (aL.of (sl1 _ _ hc)),rfl,bf _,?_⟩;simp only[aaB,aa3];rw[bU];exact k _ sl1
def Ii(C:Addr):Sp:=λvs H Q _=>∃(x c:Addr) (ns:List Str) (ps:List (Str×Str)) (zs:List Str),vs=[.ref x,.ref c]/\a8 C H x ns ps/\ns.length<=12/\H c=some (.tup (zs.map V.str))/\∀l H',H l=none->H' l=some (.lst (((aF ns).filter λz=>!decide (z∈zs)).map V.str))->au H H'->Q (.ref l) H'
abbrev kP:List Str:=["web","places"]
theorem Ij:aG kP kP (ak gH):=⟨rfl,rfl,rfl,by decide +kernel,rfl,by decide +kernel,by decide +kernel⟩
theorem Ea{f:Addr}{fd:FuncData}(F:a7 K "lacked" "lacked" gH f fd)(M:Mt K mg C fP fS fdP bJ)(T:bt mg):av P w K mg base aB 2 f fd kP (Ii C):=by
 have GP:av P w K mg base aB 1 fP fdP ["self"] (jq C):=c9 M.pF M.wc T;refine F.ok Ij (λvs H Q E h=>?_) (λcdv A outer s H vs Q E hr h=>?_)
 ·obtain⟨x,c,ns,ps,zs,rfl,_⟩:=h;rfl
 ·obtain⟨x,c,ns,ps,zs,rfl,hW,aJ,hc,k⟩:=h;refine⟨_,ao (aI (cZ ["place"] [1] rfl (bq (osc:=(ak gH).names) (N:=kP) rfl rfl (by decide +kernel)) (bx (by decide)) (bg (cm (pv 0) M.wc.cl M.pM GP hr M.pB .nil ax))
   (λ_ _ _=>aD (i:=0) (show(["place","places"]:List Str).Nodup by decide +kernel) rfl (Or.inl rfl))
   (λ_ _ _=>dA (aQ (r:=gb K true) cD (pv 0) (pv 1) rfl)) (λ_ _ _=>pv 0))),?_⟩
  try rw[bw]
  obtain⟨d1,f1,q1,r1⟩:=hW.gA "places";refine⟨_,rfl,x,d1,f1,rfl,q1,r1,x,ns,ps,rfl,hW,λl1 iG=>?_⟩;have sl1:=ai (o:=.lst ((aF ns).map V.str)) iG;refine⟨l1,rfl,⟨_,aj.of af⟩,cA (K:=K) (xs:=(aF ns).map V.str) (λi ys HH=>HH=upd H l1 (.lst ((aF ns).map V.str))/\ys=(((aF ns).take i).filter λz=>!decide (z∈zs)).map V.str) ⟨rfl,rfl⟩ ?_ ?_ ?_ ?_⟩
  ·rintro i ys HH _ ⟨_,rfl⟩;rw[aak];exact aap (aa' _ _) (aap (by rw[aaR];exact abF _ _) (by rw[cC];exact aap aJ (by decide)))
  ·rintro i ys HH _ ⟨rfl,_⟩;exact aj.of af
  ·rintro i v ys HH R hv ⟨rfl,rfl⟩ kR;rw[aaq] at hv;obtain⟨z,ez,rfl⟩:=aar.mp hv;simp only[bh];refine⟨_,rfl,_,rfl,c,_,rfl,.inr (aL.of (sl1 _ _ hc)),rfl,bf _,_,rfl,?_⟩;simp only[aa4];rw[bU];have fin:(((aF ns).take (i+1)).filter λz=>!decide (z∈zs)).map V.str=(((aF ns).take i).filter λz=>!decide (z∈zs)).map V.str++(if (!decide (z∈zs))=true then [V.str z] else []):=by rw[aaI,ez,abt,aaY];congr 1;rw[abL,abv];split<;>rfl
   by_cases h1:z∈zs
   ·rw[decide_eq_true h1];exact aZ (kR _ _ ⟨rfl,by rw[fin,if_neg (by simp[h1]),abr]⟩)
   ·rw[aaz h1];exact bo ⟨_,rfl,kR _ _ ⟨rfl,by rw[fin,if_pos (by simp[h1])]⟩⟩
  rintro ys HH ⟨rfl,rfl⟩ D nD;rw[aak,aaF (aal _)];exact k D _ (sl1.free nD) af (sl1.trans (ai nD))
end
abbrev lP:Stmt:=top 56 -- MX
abbrev rh:Stmt:=top 57 -- Ik
abbrev rm:Stmt:=top 59 -- Vp
section
variable {P:Program}{w:World}{K:PySem.W.Frag}{mg:Str->Option Value}{base:Heap}
variable {C fP fS ku o5 xC ph:Addr}{fdP bJ iK kN qc kQ:FuncData}
def Il:Sp:=λvs H Q _=>∃(l:Addr) (us:List Addr) (zss:List (List Str)),vs=[.ref l]/\H l=some (.lst (us.map V.ref))/\aP H us zss/\us.length<=100/\zss.Nodup/\∀H',au H H'->Q .bz H'
theorem Bo:aG ["family","i","j"] ["family"] (ak lP):=⟨rfl,rfl,rfl,by decide +kernel,rfl,by decide +kernel,by decide +kernel⟩
theorem MY{f:Addr}{fd:FuncData}(F:a7 K "check_unlike" "check_unlike" lP f fd)(DP:Df K mg "pairs_of" gZ ["many"] ku iK)(T:bt mg):av P w K mg base aB 2 f fd ["family"] Il:=by
 have GP:av P w K mg base aB 1 ku iK ["many"] oJ:=p9 DP.fn T;refine F.ok Bo (λvs H Q E h=>?_) (λcdv A outer s H vs Q E hr h=>?_)
 ·obtain⟨l,us,zss,rfl,_⟩:=h;rfl
 ·obtain⟨l,us,zss,rfl,hl,hC,lu,nd,k⟩:=h;refine⟨_,ao (cJ aaW rfl (bg (ar GP hr rfl DP.aK DP.fn.kp DP.b .nil ax (aa (ay aA (by rfl) T.len aax (aa (pv 0) ae)) ae)))
   (cI rfl (aO (aD (i:=1) Bo.nd rfl (Or.inl rfl)) (aO (aD (i:=2) Bo.nd rfl (Or.inl rfl)) cg)))
   (ao (bu (aQ (mE (low 0 hr)) (bj aX (pv 0) (pv 1) (λ_ _=>rfl)) (bj aX (pv 0) (pv 2) (λ_ _=>rfl)) (aV _)) (ao cN) aT))),?_⟩
  try rw[bw]
  have lz:us.length=zss.length:=hC.len;refine⟨_,rfl,l,_,rfl,.inl (aj.of hl),us.length,by simp,lu,λq ts H1 hq km o6 s1=>⟨q,rfl,⟨_,aj.of km⟩,?_⟩⟩;rw[lz] at o6;refine fb (K:=K) (xs:=ts.map V.ref) (λi σ H2=>∃v1 v2,σ=[some (.ref l),v1,v2]/\H2=H1) ⟨_,_,rfl,rfl⟩ ?_ ?_ ?_
  ·rintro i σ H2 _ ⟨_,_,rfl,rfl⟩;exact aj.of km
  ·rintro i v σ H2 hv ⟨v1,v2,rfl,rfl⟩;rw[aaq] at hv;obtain⟨t,et,rfl⟩:=aar.mp hv;obtain⟨p,ep,ht⟩:=o6.get et;obtain⟨m1,m2,m3⟩:=jW (aat ep);have b1:p.1<us.length:=by omega
   have b2:p.2<us.length:=by omega
   have e1:us[p.1]?=some us[p.1]:=aam b1;have e2:us[p.2]?=some us[p.2]:=aam b2;obtain⟨xs,ex,hx⟩:=(hC.same s1).get e1;obtain⟨zs,ez,hz⟩:=(hC.same s1).get e2;refine⟨t,_,rfl,aL.of ht,rfl,_,_,rfl,_,_,rfl,rfl,?_⟩;refine⟨_,rfl,_,rfl,l,_,_,_,rfl,rfl,aj.of (s1 _ _ hl),bc (j:=p.1) (v:=.ref us[p.1]) (by rw[aaq,e1];rfl),_,rfl,_,rfl,l,_,_,_,rfl,rfl,aj.of (s1 _ _ hl),bc (j:=p.2) (v:=.ref us[p.2]) (by rw[aaq,e2];rfl),
    us[p.1],us[p.2],_,_,rfl,rfl,.inr ⟨aL.of hx,aL.of hz⟩,bf _,bf _,_,rfl,?_⟩
   simp only[aaB,aa3];have ne:¬ xs=zs:=λe=>by
    subst e
    have:=qK nd ex ez
    omega
   rw[mD,aaz ne];exact aZ ⟨_,_,rfl,rfl⟩
  ·rintro σ H2 ⟨_,_,rfl,rfl⟩;exact k _ s1
noncomputable def jA(ns:List Str)(z0:Str)(zs:List Str):List Str:=if z0∈zs then (aF ns).filter λz=>!decide (z∈zs) else zs
def Im(C:Addr):Sp:=λvs H Q _=>∃(x c:Addr) (ns:List Str) (ps:List (Str×Str)) (zs:List Str) (z0:Str),vs=[.ref x,.ref c]/\a8 C H x ns ps/\ns.length<=12/\(aF ns)[0]?=some z0/\H c=some (.tup (zs.map V.str))/\∀l H',H' l=some (.tup ((jA ns z0 zs).map V.str))->au H H'->Q (.ref l) H'
theorem PV:aG ["web","cut"] ["web","cut"] (ak rm):=⟨rfl,rfl,rfl,by decide +kernel,rfl,by decide +kernel,by decide +kernel⟩
theorem Ki{f:Addr}{fd:FuncData}(F:a7 K "far_side" "far_side" rm f fd)(M:Mt K mg C fP fS fdP bJ)(DK:Df K mg "lacked" gH kP xC qc)(DL:Df K mg "has_least" lO ["web","cut"] ph kQ)(T:bt mg):av P w K mg base aB 3 f fd ["web","cut"] (Im C):=by
 have GK:av P w K mg base aB 2 xC qc kP (Ii C):=Ea DK.fn M T;have GL:av P w K mg base aB 2 ph kQ ["web","cut"] (Bn C):=xB DL.fn M T;refine F.ok PV (λvs H Q E h=>?_) (λcdv A outer s H vs Q E hr h=>?_)
 ·obtain⟨x,c,ns,ps,zs,z0,rfl,_⟩:=h;rfl
 ·obtain⟨x,c,ns,ps,zs,z0,rfl,hW,aJ,h0,hc,k⟩:=h;refine⟨_,ao (aI (pz (bG (ar GL hr rfl DL.aK DL.fn.kp DL.b .nil ax (aa (pv 0) (aa (pv 1) ae))) (λ_=>rfl)) (bp cH (by rfl) T.tuple aa5 (aa (ar GK hr rfl DK.aK DK.fn.kp DK.b .nil ax (aa (pv 0) (aa (pv 1) ae))) ae)) (pv 1))),?_⟩;try rw[bw]
  refine⟨_,rfl,_,rfl,x,c,ns,ps,zs,z0,rfl,hW,h0,hc,λH1 s1=>⟨_,rfl,?_⟩⟩;by_cases hm:z0∈zs
  ·rw[decide_eq_true hm];refine bo ⟨_,rfl,_,rfl,x,c,ns,ps,zs,rfl,hW.same s1,aJ,s1 _ _ hc,λl H2 nl hl s2=>⟨l,_,rfl,.inl ⟨aj.of hl,λl3 n3=>?_⟩⟩⟩;exact k l3 _ (by unfold jA;rw[if_pos hm];exact af) (s1.trans (s2.trans (ai n3)))
  ·rw[aaz hm];exact aZ ⟨_,rfl,k c H1 (by unfold jA;rw[if_neg hm];exact s1 _ _ hc) s1⟩
end
abbrev sT:Stmt:=top 60 -- RV
def holds(zss:List (List Str))(ins:List Str)(size i:Nat):Bool:=decide (size<=(zss.getD i []).length)&&ins.all λz=>decide (z∈zss.getD i [])
def iY(zss:List (List Str))(knot i:Nat):Nat:=if knot=0\/(zss.getD i []).length<(zss.getD (knot-1) []).length then i+1 else knot
def eV(zss:List (List Str))(ins:List Str)(size n:Nat):Nat:=((List.range n).filter (holds zss ins size)).foldl (iY zss) 0
theorem mO(zss:List (List Str))(ins:List Str)(size n:Nat):eV zss ins size (n+1)=if holds zss ins size n=true then iY zss (eV zss ins size n) n else eV zss ins size n:=by unfold eV;rw[adS,abt,ads,abv];split<;>rfl
theorem rn(zss:List (List Str))(ins:List Str)(size:Nat):∀n,eV zss ins size n<=n
 |0=>aal _
 |n+1=>by
  have:=rn zss ins size n
  rw[mO];split
  ·unfold iY;split<;>omega
  ·omega
section
variable {P:Program}{w:World}{K:PySem.W.Frag}{mg:Str->Option Value}{base:Heap}
variable {C fP fS fA eJ dQ fB fO fR gB fF ku o5:Addr}{fdP bJ cO cX cK fI fJ gC dN eU iK kN:FuncData}
def Io(C:Addr):Sp:=λvs H Q _=>∃(x l:Addr) (ms:List Str) (ps:List (Str×Str)) (us:List Addr) (zss:List (List Str)),vs=[.ref x,.ref l]/\a8 C H x ms ps/\ms.length<=12/\H l=some (.lst (us.map V.ref))/\aP H us zss/\us.length<=100/\jh (aF ms) zss=[]/\∀H',au H H'->Q .bz H'
theorem Ip:aG ["web","family","steps"] ["web","family"] (ak rh):=⟨rfl,rfl,rfl,by decide +kernel,rfl,by decide +kernel,by decide +kernel⟩
theorem MZ{f:Addr}{fd:FuncData}(F:a7 K "check_uncrossed" "check_uncrossed" rh f fd)(DC:Df K mg "crossing_pairs" w4 ["web","family"] o5 kN)(G:av P w K mg base aB 4 o5 kN ["web","family"] (Bb C))(T:bt mg):av P w K mg base aB 5 f fd ["web","family"] (Io C):=by
 refine F.ok Ip (λvs H Q E h=>?_) (λcdv A outer s H vs Q E hr h=>?_)
 ·obtain⟨x,l,ms,ps,us,zss,rfl,_⟩:=h;rfl
 ·obtain⟨x,l,ms,ps,us,zss,rfl,hW,lm,hl,hC,lu,e0,k⟩:=h;refine⟨_,ag (aN (i:=2) Ip.nd rfl (Or.inl rfl) (ar G hr rfl DC.aK DC.fn.kp DC.b .nil ax (aa (pv 0) (aa (pv 1) ae))))
   (ao (bu (pE (pv 2) (λ_=>rfl)) (ao cN) aT)),?_⟩
  try rw[bw]
  refine⟨_,rfl,_,rfl,x,l,ms,ps,us,zss,rfl,hW,lm,hl,hC,lu,λq ts H1 nq hq hP s1=>?_⟩;rw[e0] at hP;have et:ts=[]:=ab1.mp hP.len;subst et;exact⟨_,rfl,false,.inl ⟨_,aj.of hq,rfl⟩,aZ (k _ s1)⟩
def Iq:Sp:=λvs H Q _=>∃(l c:Addr) (us:List Addr) (zss:List (List Str)) (ins:List Str) (size:Nat),vs=[.ref l,.ref c,.int size]/\H l=some (.lst (us.map V.ref))/\aP H us zss/\us.length<=100/\H c=some (.tup (ins.map V.str))/\ins.length<=100/\size<=100/\∀H',au H H'->Q (.int (eV zss ins size zss.length:Nat)) H'
abbrev RW:List Str:=["sides","inside","size","knot","at","side"]
theorem rq:aG RW ["sides","inside","size"] (ak sT):=⟨rfl,rfl,rfl,by decide +kernel,rfl,by decide +kernel,by decide +kernel⟩
theorem M0{f:Addr}{fd:FuncData}(F:a7 K "innermost" "innermost" sT f fd)(hE:mg "enumerate" = none)(T:bt mg):av P w K mg base aB 1 f fd ["sides","inside","size"] Iq:=by
 refine F.ok rq (λvs H Q E h=>?_) (λcdv A outer s H vs Q E hr h=>?_)
 ·obtain⟨l,c,us,zss,ins,size,rfl,_⟩:=h;rfl
 ·obtain⟨l,c,us,zss,ins,size,rfl,hl,hC,lu,hc,li,ls,k⟩:=h;refine⟨_,ag (aN (i:=3) rq.nd rfl (Or.inl rfl) aE)
   (ag (cJ aaW rfl (sr rfl hE (aa (pv 0) ae)) (cI rfl (aO (aD (i:=4) rq.nd rfl (Or.inl rfl)) (aO (aD (i:=5) rq.nd rfl (Or.inr rfl)) cg)))
    (ao (bu (PW.pt (gO (aQ Pb (ay aA (by rfl) T.len aax (aa (pv 5) ae)) (pv 2) (aV _)) (fE (bG (ay (gg rfl) (by rfl) T.all acV (aa
      (cZ ["place"] [5] rfl (bq (osc:=(ak sT).names) (N:=RW) rfl rfl (by decide +kernel)) (bx (by decide)) (qr (pv 1))
       (λ_ _ _=>aD (i:=0) (show(["place","side"]:List Str).Nodup by decide +kernel) rfl (Or.inl rfl)) (λ_ _ _=>bK)
       (λ_ _ _=>bL (r:=gb K false) cn (pv 0) (pv 1) rfl)) ae)) (λ_=>rfl)))))
     (ao (bu (PW.pt (fG (aQ iW (pv 3) aE (aV _)) (fh (aQ iw (ay aA (by rfl) T.len aax (aa (pv 5) ae)) (ay aA (by rfl) T.len aax (aa (bj aX (pv 0) (bV qv (pv 3) aE) (λ_ _=>rfl)) ae)) (aV _)))))
      (ao (aN (i:=3) rq.nd rfl (Or.inl rfl) (bV eE (pv 4) aE))) aT)) aT)))
   (ao (aI (pv 3)))),?_⟩
  try rw[bw]
  have lz:(us.map V.ref).length=zss.length:=by rw[aak,hC.len]
  refine⟨_,rfl,l,rfl,⟨_,aj.of hl⟩,wA (K:=K) (xs:=us.map V.ref) (λi σ HH=>∃v4 v5,σ=[some (.ref l),some (.ref c),some (.int size),some (.int (eV zss ins size i:Nat)),v4,v5]/\au H HH) ⟨_,_,rfl,au.refl _⟩ ?_ ?_ ?_⟩
  ·rintro i σ HH _ ⟨_,_,rfl,sH⟩;exact aj.of (sH _ _ hl)
  ·rintro i v σ HH q hv ⟨v4,v5,rfl,sH⟩ nq;rw[aaq] at hv;obtain⟨u,eu,rfl⟩:=aar.mp hv;have sq:=ai (o:=.tup [.int i,.ref u]) nq;have s0:=sH.trans sq;have RX:=af (H:=HH) (a:=q) (o:=.tup [.int i,.ref u]);generalize upd HH q (.tup [.int i,.ref u])=HQ at sq s0 RX⊢;obtain⟨zs,ez,hu⟩:=(hC.same s0).get eu;have hi:i<zss.length:=(aaH.mp ez).1;have gz:=bP ez;refine⟨q,_,rfl,aL.of RX,rfl,_,_,rfl,_,_,rfl,rfl,?_⟩;refine⟨_,rfl,u,_,rfl,.inr (aL.of hu),_,rfl,_,_,rfl,rfl,_,rfl,?_⟩;have l1:(zs.map V.str).length=zs.length:=aak ..;have hold:holds zss ins size i=(decide (size<=zs.length)&&ins.all λz=>decide (z∈zs)):=by unfold holds;rw[gz]
   have skip:holds zss ins size i=false->eV zss ins size (i+1)=eV zss ins size i:=λh=>by rw[mO,if_neg (by rw[h];decide)]
   dsimp only;by_cases c1:size<=zs.length
   ·rw[decide_eq_true (show((zs.map V.str).length:Int) ≥ (size:Int) by rw[l1];omega)];refine bo ?_;refine⟨_,rfl,c,rfl,⟨_,aL.of (s0 _ _ hc)⟩,vV (K:=K) (xs:=ins.map V.str) (λj ys H4=>H4=HQ/\ys=((ins.take j).map λz=>decide (z∈zs)).map V.bl) ⟨rfl,rfl⟩ ?_ ?_ ?_ ?_⟩
    ·rintro j ys H4 _ ⟨_,rfl⟩;rw[aak,aak,aaR];exact aap (abF _ _) (aap li (by decide))
    ·rintro j ys H4 _ ⟨rfl,_⟩;exact aL.of (s0 _ _ hc)
    ·rintro j v ys H4 R hv ⟨rfl,rfl⟩ kR;rw[aaq] at hv;obtain⟨z,xD,rfl⟩:=aar.mp hv;simp only[dB,bh,aa4];refine⟨_,rfl,_,rfl,u,_,rfl,.inr (aL.of hu),rfl,bf zs,kR _ _ ⟨rfl,?_⟩⟩;simp only[aaB,aa3];rw[bU,aaI,xD];simp
    rintro ys H4 ⟨rfl,rfl⟩ D nD;rw[aak,aaF (aal _)];have sD:=ai (o:=.lst ((ins.map λz=>decide (z∈zs)).map V.bl)) nD;refine⟨D,_,rfl,aj.of af,_,rfl,?_⟩;have s1:=s0.trans sD;have RY:=sD _ _ hu;generalize upd H4 D (.lst ((ins.map λz=>decide (z∈zs)).map V.bl))=H5 at sD s1 RY⊢;have ea:((ins.map λz=>decide (z∈zs)).all id)=holds zss ins size i:=by rw[hold,decide_eq_true c1,ab',acj];rfl
    rw[ea];cases hh:holds zss ins size i
    ·exact aZ ⟨_,_,by rw[skip hh];rfl,s1⟩
    ·refine bo ?_;have step:eV zss ins size (i+1)=iY zss (eV zss ins size i) i:=by rw[mO,if_pos hh]
     have Yd:=rn zss ins size i;generalize eV zss ins size i=kn at step Yd⊢;refine⟨_,rfl,rfl,_,rfl,?_⟩;by_cases k0:kn=0
     ·subst k0;rw[decide_eq_true (show V.int ((0:Nat):Int)=V.int 0 from rfl)];refine bo ⟨_,rfl,_,_,rfl,rfl,?_⟩;refine⟨some (.int i),some (.ref u),?_,s1⟩;rw[step,show iY zss 0 i=i+1 from by unfold iY;rw[if_pos (.inl rfl)]];rfl
     ·rw[aaz (show ¬ V.int (kn:Int)=V.int 0 by intro e;injection e with e;omega)];have hk:kn-1<us.length:=by rw[hC.len];omega
      have ek:us[kn-1]?=some us[kn-1]:=aam hk;obtain⟨ys,ey,hy⟩:=(hC.same s1).get ek;have gy:=bP ey;have ei:((kn:Int)-1)=((kn-1:Nat):Int):=by omega
      have Ir:eF (us.map V.ref) ((kn:Int)-1)=some (V.ref us[kn-1]):=by rw[ei];exact bc (j:=kn-1) (by rw[aaq,ek];rfl)
      refine aZ ⟨_,rfl,u,_,rfl,.inr (aL.of RY),_,rfl,_,rfl,_,_,rfl,rfl,l,_,_,_,rfl,rfl,aj.of (s1 _ _ hl),Ir,us[kn-1],_,rfl,.inr (aL.of hy),_,_,rfl,rfl,_,rfl,?_⟩;rw[aak,aak];have le:iY zss kn i=if zs.length<ys.length then i+1 else kn:=by
       unfold iY;rw[gz,gy];by_cases q:zs.length<ys.length
       ·rw[if_pos (.inr q),if_pos q]
       ·rw[if_neg (λh=>h.elim k0 q),if_neg q]
      by_cases q:zs.length<ys.length
      ·rw[decide_eq_true (show(zs.length:Int)<(ys.length:Int) by omega)];refine bo ⟨_,rfl,_,_,rfl,rfl,?_⟩;refine⟨some (.int i),some (.ref u),?_,s1⟩;rw[step,le,if_pos q];rfl
      ·rw[aaz (show ¬ (zs.length:Int)<(ys.length:Int) by omega)];refine aZ ⟨some (.int i),some (.ref u),?_,s1⟩;rw[step,le,if_neg q];rfl
   ·rw[aaz (show ¬ ((zs.map V.str).length:Int) ≥ (size:Int) by rw[l1];omega)];exact aZ ⟨_,_,by rw[skip (by rw[hold,aaz c1,acM])];rfl,s0⟩
  ·rintro σ HH ⟨_,_,rfl,sH⟩;rw[lz];exact⟨_,rfl,k _ sH⟩
end
abbrev iZ:Stmt:=top 61 -- Wf
abbrev bY(l:List Nat):List V:=l.map λ(k:Nat)=>V.int k
noncomputable def aM(ms:List Str)(z0:Str)(zss:List (List Str)):List (List Str):=zss.map (jA ms z0)
noncomputable def bZ(sd:List (List Str)):List Nat:=sd.map λs=>eV sd s (s.length+1) sd.length
noncomputable def cP(z0:Str)(zss:List (List Str)):List Str:=zss.map λzs=>if z0∈zs then "out" else "in"
noncomputable def cY(ms:List Str)(sd:List (List Str)):List Nat:=(aF ms).map λz=>eV sd [z] 1 sd.length
theorem zH{ms:List Str}{z0:Str}{zs:List Str}(aJ:ms.length<=12)(lz:zs.length<=12):(jA ms z0 zs).length<=12:=by
 unfold jA;split
 ·exact aap (aa' _ _) (by rw[cC];exact aJ)
 ·exact lz
section
variable {P:Program}{w:World}{K:PySem.W.Frag}{mg:Str->Option Value}{base:Heap}
variable {C fP fS oi Iu Iv Iw xE m6 ph:Addr}{fdP bJ j0 Bp Bq Br qd ju kQ:FuncData}
structure Td(P:Program)(w:World)(K:PySem.W.Frag)(mg:Str->Option Value)(base:Heap)(C fP oi Iu Iv Iw xE m6 ph:Addr)(fdP j0 Bp Bq Br qd ju kQ:FuncData):Prop where
 gP:av P w K mg base aB 1 fP fdP ["self"] (jq C)
 dh:Df K mg "check_hangs" oK ["web"] oi j0
 gh:av P w K mg base aB 5 oi j0 ["web"] (rg C)
 df:Df K mg "check_family" qW ["web","family"] Iu Bp
 gf:av P w K mg base aB 5 Iu Bp ["web","family"] (iJ C)
 du:Df K mg "check_unlike" lP ["family"] Iv Bq
 gu:av P w K mg base aB 2 Iv Bq ["family"] Il
 dx:Df K mg "check_uncrossed" rh ["web","family"] Iw Br
 gx:av P w K mg base aB 5 Iw Br ["web","family"] (Io C)
 ds:Df K mg "far_side" rm ["web","cut"] xE qd
 gs:av P w K mg base aB 3 xE qd ["web","cut"] (Im C)
 di:Df K mg "innermost" sT ["sides","inside","size"] m6 ju
 gi:av P w K mg base aB 1 m6 ju ["sides","inside","size"] Iq
 dl:Df K mg "has_least" lO ["web","cut"] ph kQ
 gl:av P w K mg base aB 2 ph kQ ["web","cut"] (Bn C)
def Eb(C:Addr):Sp:=λvs H Q _=>∃(x l:Addr) (ns ms:List Str) (ps:List (Str×Str)) (us:List Addr) (zss:List (List Str)) (z0:Str),vs=[.ref x,.ref l]/\a8 C H x ms ps/\ms.Perm ns/\GoodW ms ps/\fY ms ps/\(aF ms)[0]?=some z0/\H l=some (.lst (us.map V.ref))/\aP H us zss/\us.length<=100/\(∀zs∈zss,dw ns ps zs/\zs.length<=12)/\zss.Nodup/\jh (aF ms) zss=[] /\
 ∀(t a b c:Addr) (H':Hp),H' t=some (.tup [.ref a,.ref b,.ref c])->H' a=some (.lst (bY (bZ (aM ms z0 zss))))->H' b=some (.lst ((cP z0 zss).map V.str))->H' c=some (.lst (bY (cY ms (aM ms z0 zss))))->H a=none->H b=none->H c=none->a≠b->a≠c->b≠c->au H H'->Q (.ref t) H'
abbrev Ec:List Str:=["web","family","sides","parents","senses","seats"]
theorem xF:aG Ec ["web","family"] (ak iZ):=⟨rfl,rfl,rfl,by decide +kernel,rfl,by decide +kernel,by decide +kernel⟩
theorem Kj{f:Addr}{fd:FuncData}(F:a7 K "tree_of" "tree_of" iZ f fd)(M:Mt K mg C fP fS fdP bJ)(B:Td P w K mg base C fP oi Iu Iv Iw xE m6 ph fdP j0 Bp Bq Br qd ju kQ)(T:bt mg):av P w K mg base aB 6 f fd ["web","family"] (Eb C):=by
 have GP:=B.gP;have Gh:=B.gh;have Gf:=B.gf;have Gu:=B.gu;have Gx:=B.gx;have Gs:=B.gs;have Gi:=B.gi;have Gl:=B.gl;refine F.ok xF (λvs H Q E h=>?_) (λcdv A outer s H vs Q E hr h=>?_)
 ·obtain⟨x,l,ns,ms,ps,us,zss,z0,rfl,_⟩:=h;rfl
 ·obtain⟨x,l,ns,ms,ps,us,zss,z0,rfl,hW,pm,g,hh,h0,hl,hC,lu,hz,nd,e0,k⟩:=h;have h1:=hr.mono (j:=1) (by decide);have h2:=hr.mono (j:=2) (by decide);have h3:=hr.mono (j:=3) (by decide);refine⟨_,ag (aW (ar Gh hr rfl B.dh.aK B.dh.fn.kp B.dh.b .nil ax (aa (pv 0) ae)))
   (ag (aW (ar Gf hr rfl B.df.aK B.df.fn.kp B.df.b .nil ax (aa (pv 0) (aa (pv 1) ae))))
   (ag (aW (ar Gu h2 rfl B.du.aK B.du.fn.kp B.du.b .nil ax (aa (pv 1) ae)))
   (ag (aW (ar Gx hr rfl B.dx.aK B.dx.fn.kp B.dx.b .nil ax (aa (pv 0) (aa (pv 1) ae))))
   (ag (aN (i:=2) xF.nd rfl (Or.inr rfl) (cZ ["cut"] [0] rfl (bq (osc:=(ak iZ).names) (N:=Ec) rfl rfl (by decide +kernel)) (bx (by decide)) (bg (pv 1))
     (λ_ _ _=>aD (i:=0) (show(["cut","web"]:List Str).Nodup by decide +kernel) rfl (Or.inl rfl)) (λ_ _ _=>bK)
     (λ_ _ _=>ar Gs h3 rfl B.ds.aK B.ds.fn.kp B.ds.b .nil ax (aa (pv 1) (aa (pv 0) ae)))))
   (ag (hJ (i:=3) ["side"] [2] xF.nd rfl rfl rfl (bq (osc:=(ak iZ).names) (N:=Ec) rfl rfl (by decide +kernel)) (bx (by decide)) (bg (pv 2))
     (λ_ _ _=>aD (i:=0) (show(["side","sides"]:List Str).Nodup by decide +kernel) rfl (Or.inl rfl)) (λ_ _ _=>bK)
     (λ_ _ _=>ar Gi h1 rfl B.di.aK B.di.fn.kp B.di.b .nil ax (aa (pv 1) (aa (pv 0) (aa (bV eE (ay (r:=λxs H Q=>∃(p:Addr) (ys:List V),xs=[V.ref p]/\(aj K H p ys\/aL K H p ys)/\Q (V.int ys.length) H) aA (by rfl) T.len aax (aa (pv 0) ae)) aE) ae)))))
   (ag (hJ (i:=4) ["cut"] [0] xF.nd rfl rfl rfl (bq (osc:=(ak iZ).names) (N:=Ec) rfl rfl (by decide +kernel)) (bx (by decide)) (bg (pv 1))
     (λ_ _ _=>aD (i:=0) (show(["cut","web"]:List Str).Nodup by decide +kernel) rfl (Or.inl rfl)) (λ_ _ _=>bK)
     (λ_ _ _=>pz (bG (ar Gl h2 rfl B.dl.aK B.dl.fn.kp B.dl.b .nil ax (aa (pv 1) (aa (pv 0) ae))) (λ_=>rfl)) ip ip))
   (ag (hJ (i:=5) ["place"] [2] xF.nd rfl rfl rfl (bq (osc:=(ak iZ).names) (N:=Ec) rfl rfl (by decide +kernel)) (bx (by decide)) (bg (cm (pv 0) M.wc.cl M.pM GP h1 M.pB .nil ax))
     (λ_ _ _=>aD (i:=0) (show(["place","sides"]:List Str).Nodup by decide +kernel) rfl (Or.inl rfl)) (λ_ _ _=>bK)
     (λ_ _ _=>ar Gi h1 rfl B.di.aK B.di.fn.kp B.di.b .nil ax (aa (pv 1) (aa (c7 (aa (pv 0) ae)) (aa aE ae)))))
   (ao (aI (c7 (aa (pv 3) (aa (pv 4) (aa (pv 5) ae))))))))))))),?_⟩
  try rw[bw]
  refine⟨_,rfl,x,ms,ps,rfl,hW,g,hh,λH1 s1=>?_⟩;refine⟨_,rfl,_,rfl,x,l,ns,ms,ps,us,zss,rfl,hW.same s1,pm,g,s1 _ _ hl,hC.same s1,λzs h=>(hz zs h).1,λH2 i9=>?_⟩;have s2:=s1.trans i9;refine⟨_,rfl,l,us,zss,rfl,s2 _ _ hl,hC.same s2,lu,nd,λH3 RZ=>?_⟩;have s3:=s2.trans RZ;refine⟨_,rfl,_,rfl,x,l,ms,ps,us,zss,rfl,hW.same s3,g.good.aJ,s3 _ _ hl,hC.same s3,lu,e0,λH4 Cz=>?_⟩;have s4:=s3.trans Cz;clear Cz RZ i9 s1 s2 s3;have big:1000<=sizeLine:=by decide
  have lz:us.length=zss.length:=hC.len;refine⟨_,rfl,l,rfl,⟨_,aj.of (s4 _ _ hl)⟩,cA (K:=K) (xs:=us.map V.ref) (λi ys HH=>au H4 HH/\∃vs:List Addr,ys=vs.map V.ref/\aP HH vs ((zss.take i).map (jA ms z0))) ⟨au.refl _,[],rfl,.nil⟩ ?_ ?_ ?_ ?_⟩
  ·rintro i ys HH _ ⟨_,vs,rfl,hV⟩;rw[aak,hV.len,aak,aaR];omega
  ·rintro i ys HH _ ⟨sH,_⟩;exact aj.of (sH _ _ (s4 _ _ hl))
  ·rintro i v ys HH R hv ⟨sH,vs,rfl,hV⟩ kR;rw[aaq] at hv;obtain⟨u,eu,rfl⟩:=aar.mp hv;have s0:=s4.trans sH;obtain⟨zs,ez,hu⟩:=(hC.same s0).get eu;simp only[dB,bh,aa4];refine⟨_,rfl,_,rfl,x,u,ms,ps,zs,z0,rfl,hW.same s0,g.good.aJ,h0,hu,λl5 H5 h5 s5=>kR _ _ ⟨sH.trans s5,vs++[l5],by simp,?_⟩⟩;rw[aaI,ez,aaY];exact aP.snoc (hV.same s5) h5
  rintro ys R0 ⟨Ye,vs,rfl,R1⟩ ls R3;rw[aak,lz,aaF (aal _)] at R1;have R4:=Ye.trans (ai (o:=.lst (vs.map V.ref)) R3);have Ed:=af (H:=R0) (a:=ls) (o:=.lst (vs.map V.ref));have hV:=R1.same (ai (o:=.lst (vs.map V.ref)) R3);change aP _ vs (aM ms z0 zss) at hV;have s5:=s4.trans R4;generalize upd R0 ls (.lst (vs.map V.ref))=H5 at R4 Ed hV s5⊢;have rA:(aM ms z0 zss).length=zss.length:=by unfold aM;rw[aak]
  have M1:∀zs∈aM ms z0 zss,zs.length<=12:=λzs h=>by obtain⟨ys,hy,rfl⟩:=aaN.mp h;exact zH g.good.aJ (hz ys hy).2
  generalize aM ms z0 zss=sd at hV rA M1 k;have lv:vs.length=sd.length:=hV.len;refine⟨_,rfl,ls,rfl,⟨_,aj.of Ed⟩,cA (K:=K) (xs:=vs.map V.ref) (λi ys HH=>au H5 HH/\ys=bY ((sd.take i).map λs=>eV sd s (s.length+1) sd.length)) ⟨au.refl _,rfl⟩ ?_ ?_ ?_ ?_⟩
  ·rintro i ys HH _ ⟨_,rfl⟩;rw[aak,aak,aaR];omega
  ·rintro i ys HH _ ⟨sH,_⟩;exact aj.of (sH _ _ Ed)
  ·rintro i v ys HH R hv ⟨sH,rfl⟩ kR;rw[aaq] at hv;obtain⟨u,eu,rfl⟩:=aar.mp hv;obtain⟨zs,ez,hu⟩:=(hV.same sH).get eu;have Rc:=M1 zs (aat ez);simp only[dB,bh,aa4];refine⟨_,rfl,_,rfl,_,rfl,u,_,rfl,.inr (aL.of hu),_,_,rfl,rfl,ls,u,vs,sd,zs,zs.length+1,?_,sH _ _ Ed,hV.same sH,by omega,hu,by omega,by omega,λH6 s6=>kR _ _ ⟨sH.trans s6,?_⟩⟩
   ·rw[aak];rfl
   ·rw[aaI,ez];simp[bY]
  rintro ys M3 ⟨R5,rfl⟩ la R6;rw[aak,lv,aaF (aal _)];have M4:=R5.trans (ai (o:=.lst (bY (bZ sd))) R6);have Iy:=af (H:=M3) (a:=la) (o:=.lst (bY (bZ sd)));have Vq:H la=none:=(s5.trans R5).free R6;change kE _ _ _ _ (upd M3 la (.lst (bY (bZ sd))));generalize upd M3 la (.lst (bY (bZ sd)))=H6 at M4 Iy⊢;have s6:=s5.trans M4;refine⟨_,rfl,l,rfl,⟨_,aj.of (s6 _ _ hl)⟩,cA (K:=K) (xs:=us.map V.ref) (λi ys HH=>au H6 HH/\ys=((zss.take i).map λzs=>if z0∈zs then ("out" : Str) else "in").map V.str) ⟨au.refl _,rfl⟩ ?_ ?_ ?_ ?_⟩
  ·rintro i ys HH _ ⟨_,rfl⟩;rw[aak,aak,aaR];omega
  ·rintro i ys HH _ ⟨sH,_⟩;exact aj.of (sH _ _ (s6 _ _ hl))
  ·rintro i v ys HH R hv ⟨sH,rfl⟩ kR;rw[aaq] at hv;obtain⟨u,eu,rfl⟩:=aar.mp hv;have s0:=s6.trans sH;obtain⟨zs,ez,hu⟩:=(hC.same s0).get eu;simp only[dB,bh,aa4];refine⟨_,rfl,_,rfl,x,u,ms,ps,zs,z0,rfl,hW.same s0,h0,hu,λH7 s7=>⟨_,rfl,?_⟩⟩;by_cases hm:z0∈zs
   ·rw[decide_eq_true hm];refine bo (kR _ _ ⟨sH.trans s7,?_⟩);rw[aaI,ez];simp[hm]
   ·rw[aaz hm];refine aZ (kR _ _ ⟨sH.trans s7,?_⟩);rw[aaI,ez];simp[hm]
  rintro ys M5 ⟨sH7,rfl⟩ lb M6;rw[aak,lz,aaF (aal _)];have s67:=sH7.trans (ai (o:=.lst ((cP z0 zss).map V.str)) M6);have M8:=af (H:=M5) (a:=lb) (o:=.lst ((cP z0 zss).map V.str));have Vr:H lb=none:=(s6.trans sH7).free M6;have uA:la≠lb:=aw (sH7 _ _ Iy) M6;change kE _ _ _ _ (upd M5 lb (.lst ((cP z0 zss).map V.str)));generalize upd M5 lb (.lst ((cP z0 zss).map V.str))=H7 at s67 M8⊢;have s7:=s6.trans s67;have W7:=hW.same s7;obtain⟨d8,f8,q8,r8⟩:=W7.gA "places";refine⟨_,rfl,x,d8,f8,rfl,q8,r8,x,ms,ps,rfl,W7,λlp M9=>?_⟩;have s78:=ai (o:=.lst ((aF ms).map V.str)) M9;have m5:=af (H:=H7) (a:=lp) (o:=.lst ((aF ms).map V.str));generalize upd H7 lp (.lst ((aF ms).map V.str))=H8 at s78 m5⊢;have s58:=M4.trans (s67.trans s78);refine⟨lp,rfl,⟨_,aj.of m5⟩,cA (K:=K) (xs:=(aF ms).map V.str) (λi ys HH=>au H8 HH/\ys=bY (((aF ms).take i).map λz=>eV sd [z] 1 sd.length)) ⟨au.refl _,rfl⟩ ?_ ?_ ?_ ?_⟩
  ·rintro i ys HH _ ⟨_,rfl⟩;rw[aak,aak,aaR,cC]
   have:=g.good.aJ
   omega
  ·rintro i ys HH _ ⟨sH,_⟩;exact aj.of (sH _ _ m5)
  ·rintro i v ys HH R hv ⟨sH,rfl⟩ kR;rw[aaq] at hv;obtain⟨z,ez,rfl⟩:=aar.mp hv;simp only[dB,bh,aa4];refine⟨_,rfl,_,rfl,(show 1<=sizeLine by decide),λc nc=>?_⟩;have sc:=(s58.trans sH).trans (ai (o:=.tup [.str z]) nc);refine⟨ls,c,vs,sd,[z],1,rfl,sc _ _ Ed,hV.same sc,by omega,af,by simp,by decide,λH9 s9=>kR _ _ ⟨sH.trans ((ai nc).trans s9),?_⟩⟩;rw[aaI,ez];simp[bY]
  rintro ys zI ⟨zJ,rfl⟩ lc Iz;rw[aak,aaF (aal _)];have uR:=zJ.trans (ai (o:=.lst (bY (cY ms sd))) Iz);have hc9:=af (H:=zI) (a:=lc) (o:=.lst (bY (cY ms sd)));have s79:=s78.trans uR;have Vs:H lc=none:=(s7.trans (s78.trans zJ)).free Iz;have Yf:la≠lc:=aw ((s67.trans (s78.trans zJ)) _ _ Iy) Iz;have Yg:lb≠lc:=aw ((s78.trans zJ) _ _ M8) Iz;show bh 5 _ _ (upd zI lc (.lst (bY (cY ms sd)))) _
  generalize upd zI lc (.lst (bY (cY ms sd)))=H9 at uR hc9 s79⊢;refine⟨_,rfl,_,rfl,_,rfl,(show 3<=sizeLine by decide),λt nt=>?_⟩;have st:=ai (o:=.tup [.ref la,.ref lb,.ref lc]) nt;exact k t la lb lc _ af ((s67.trans (s79.trans st)) _ _ Iy) ((s79.trans st) _ _ M8) (st _ _ hc9) Vq Vr Vs uA Yf Yg (s7.trans (s79.trans st))
end
abbrev Ee:Stmt:=top 81 -- M'
theorem Ef{H:Hp}:∀{xs ys:List V},xs.Perm ys->∀{ts:List Addr} {ps:List (Str×Str)},xs=ts.map V.ref->aS H ts ps->∃(ts':List Addr) (ps':List (Str×Str)),ys=ts'.map V.ref/\ps'.Perm ps/\aS H ts' ps':=by
 intro xs ys h;induction h with
 |nil=>intro ts ps e t;exact⟨ts,ps,e,.refl _,t⟩
 |cons x _ ih=>
  intro ts ps e t;cases t with
  |nil=>cases e
  |cons r t' =>rw[aaQ] at e;injection e with e1 e2;obtain⟨ts',ps',rfl,h2,h3⟩:=ih e2 t';exact⟨_::ts',_::ps',by rw[aaQ,e1],h2.cons _,.cons r h3⟩
 |swap x y l=>
  intro ts ps e t;cases t with
  |nil=>cases e
  |cons r t'=>
   cases t' with
   |nil=>cases e
   |cons r2 Yh =>rw[aaQ,aaQ] at e;injection e with e1 e2;injection e2 with e2 e3;exact⟨_::_::_,_::_::_,by rw[aaQ,aaQ,e1,e2,e3],.swap _ _ _,.cons r2 (.cons r Yh)⟩
 |trans _ _ LZ L0 =>intro ts ps e t;obtain⟨ts',ps',e',h2,h3⟩:=LZ e t;obtain⟨Vt,Vu,Yi,h4,h5⟩:=L0 e' h3;exact⟨Vt,Vu,Yi,h4.trans h2,h5⟩
theorem F'{ps:List (Str×Str)}{a b:Str}(h:dc (eg ps) a b):dc (eg ps) b a:=by
 have:=dc.turned h
 refine this.mono λp hp=>?_;obtain⟨x,y⟩:=p;rw[fg] at hp;unfold eg at hp⊢;rcases aaD.mp hp with h|h
 ·exact aan _ (fg.mpr h)
 ·exact aaL _ (fg.mp h)
theorem uS{ps qs:List (Str×Str)}{a b:Str}(h:dc (eg ps) a b)(s:∀p∈ps,p∈qs):dc (eg qs) a b:=by
 refine h.mono λp hp=>?_;obtain⟨x,y⟩:=p;unfold eg at hp⊢;rcases aaD.mp hp with h|h
 ·exact aaL _ (s _ h)
 ·exact aan _ (fg.mpr (s _ (fg.mp h)))
def Span(ms:List Str)(ps:List (Str×Str))(i:Nat):Prop:=∀j,j<=i->∀z0 z,ms[0]?=some z0->ms[j]?=some z->dc (eg ps) z0 z
theorem PX{ms:List Str}{ps:List (Str×Str)}:Span ms ps 0:=λj hj z0 z e0 e=>by
 obtain rfl:j=0:=by omega
 rw[e0] at e;cases e;exact .here _
theorem Span.more{ms:List Str}{ps:List (Str×Str)}{i:Nat}(h:Span ms ps i)(q:Str×Str):Span ms (ps++[q]) i:=λj hj z0 z e0 e=>uS (h j hj z0 z e0 e) λp hp=>aaL _ hp
theorem Span.next{ms:List Str}{ps:List (Str×Str)}{i j:Nat}(h:Span ms ps i)(hj:j<=i){a b:Str}(ea:ms[j]?=some a)(eb:ms[i+1]?=some b){q:Str×Str}(hq:q=(a,b)\/q=(b,a)):Span ms (ps++[q]) (i+1):=λk hk z0 z e0 e=>by
 by_cases c:k<=i
 ·exact h.more q k c z0 z e0 e
 ·obtain rfl:k=i+1:=by omega
  rw[eb] at e;cases e;refine(h.more q j hj z0 a e0 ea).trans (.one ?_);unfold eg;rcases hq with rfl|rfl
  ·simp
  ·exact aan _ (fg.mpr (by simp))
theorem Span.hangs{ms ns:List Str}{ps:List (Str×Str)}{i:Nat}(h:Span ms ps i)(hi:ms.length<=i+1)(pm:ms.Perm ns):fY ns ps:=by
 have key:∀a∈ns,∀z0,ms[0]?=some z0->dc (eg ps) z0 a:=λa ha z0 e0=>by obtain⟨j,hj,rfl⟩:=aa7 (pm.mem_iff.mpr ha);exact h j (by omega) z0 _ e0 (by simp[hj])
 intro a ha b hb;have Yj:=abR (pm.mem_iff.mpr ha);have e0:ms[0]?=some ms[0]:=by simp[Yj]
 exact(F' (key a ha _ e0)).trans (key b hb _ e0)
theorem fY.perm{ns:List Str}{ps qs:List (Str×Str)}(h:fY ns ps)(p:qs.Perm ps):fY ns qs:=λa ha b hb=>uS (h a ha b hb) λq hq=>p.mem_iff.mpr hq
theorem fY.names{ns ms:List Str}{ps:List (Str×Str)}(h:fY ns ps)(p:ms.Perm ns):fY ms ps:=λa ha b hb=>h a (p.mem_iff.mp ha) b (p.mem_iff.mp hb)
section
variable {P:Program}{w:World}{K:PySem.W.Frag}{mg:Str->Option Value}{base:Heap}
def Na:Sp:=λvs H Q _=>∃(p a:Addr) (m:Nat) (ns:List Str),vs=[.ref p,.ref a,.int m]/\m+ns.length<=31/\Row H p/\H a=some (.lst (ns.map V.str))/\jC ns /\
 ∀(b:Addr) (ps:List (Str×Str)) (ts:List Addr) (H':Hp),H b=none->H' b=some (.lst (ts.map V.ref))->aS H' ts ps->GoodW ns ps->fY ns ps->Row H' p->cb p H H'->Q (.ref b) H'
abbrev Yk:List Str:=["_law_pot_here","_law_names_here","_law_most","_law_turned","_law_ties","_law_k","_law_j","_law_ends","_law_a","_law_b"]
theorem kS:aG Yk ["_law_pot_here","_law_names_here","_law_most"] (ak Ee):=⟨rfl,rfl,rfl,by decide +kernel,rfl,by decide +kernel,by decide +kernel⟩
structure HI(p a q b:Addr)(ns ms:List Str)(H:Hp)(i:Nat)(ps:List (Str×Str))(ts:List Addr)(H2:Hp):Prop where
 row:Row H2 p
 but:cb p H H2
 ha:H2 a=some (.lst (ns.map V.str))
 hq:H2 q=some (.lst (ms.map V.str))
 hb:H2 b=some (.lst (ts.map V.ref))
 eG:aS H2 ts ps
 ins:jd ns ps
 len:ps.length=i
theorem HI.drawn{p a q b:Addr}{ns ms:List Str}{H H2 H3:Hp}{i:Nat}{ps:List (Str×Str)}{ts:List Addr}(h:HI p a q b ns ms H i ps ts H2)(s:cb p H2 H3)(r:Row H3 p)(na:a≠p)(nq:q≠p)(nb:b≠p):HI p a q b ns ms H i ps ts H3:=
 ⟨r,h.but.trans s,s _ _ h.ha na,s _ _ h.hq nq,s _ _ h.hb nb,h.eG.but s (λys z=>by obtain⟨xs,e⟩:=h.row.lst;rw[e] at z;cases z),h.ins,h.len⟩
theorem HI.new{p a q b:Addr}{ns ms:List Str}{H H2:Hp}{i:Nat}{ps:List (Str×Str)}{ts:List Addr}(h:HI p a q b ns ms H i ps ts H2){t:Addr}{o:HO}(ht:H2 t=none):HI p a q b ns ms H i ps ts (upd H2 t o):=by have s:=ai (o:=o) ht;have C7:p≠t:=aw h.row.lst.choose_spec ht;exact⟨h.row.aq C7,h.but.ba (h.but.none ht (aaX C7)),s _ _ h.ha,s _ _ h.hq,s _ _ h.hb,h.eG.same s,h.ins,h.len⟩
theorem HI.put{p a q b t:Addr}{ns ms:List Str}{H H2:Hp}{i:Nat}{ps:List (Str×Str)}{ts:List Addr}(h:HI p a q b ns ms H i ps ts H2){e:Str×Str}(ht:H2 t=some (.tup [.str e.1,.str e.2]))(h1:e.1∈ns)(h2:e.2∈ns)(nb:b≠p)(na:a≠b)(nq:q≠b)(Hb:H b=none) :
  HI p a q b ns ms H (i+1) (ps++[e]) (ts++[t]) (upd H2 b (.lst ((ts++[t]).map V.ref))):=by
 refine⟨h.row.aq (aaX nb),h.but.ba Hb,by rw[L2.aq na];exact h.ha,by rw[L2.aq nq];exact h.hq,af,?_,?_,by rw[aaM,h.len];rfl⟩
 ·have mv:∀t' xs,H2 t'=some (.tup xs)->upd H2 b (.lst ((ts++[t]).map V.ref)) t'=some (.tup xs):=λt' xs e'=>by rw[L2.aq (cF e' h.hb (by intro z;cases z))];exact e'
  exact aS.snoc (h.eG.mono mv) (mv _ _ ht)
 ·intro z hz;rcases aaD.mp hz with h'|h'
  ·exact h.ins z h'
  ·rw[aaA.mp h'];exact⟨h1,h2⟩
def HL(p a q b:Addr)(m:Nat)(ns ms:List Str)(H:Hp)(off sp:Nat->Nat)(i:Nat)(σ:L2.St)(H2:Hp):Prop:=∃(v5 v6 v7 v8 v9:Option V) (ps:List (Str×Str)) (ts:List Addr),σ=[some (V.ref p),some (V.ref a),some (V.int m),some (V.ref q),some (V.ref b),v5,v6,v7,v8,v9]/\HI p a q b ns ms H (off i) ps ts H2/\Span ms ps (sp i)
theorem PY{f fD fS:Addr}{fd ig bJ:FuncData}(F:a7 K "_law_hanging" "_law_hanging" Ee f fd)(D:Df K mg "_law_digit" fu ["_law_pot_here","_law_many"] fD ig)(DS:Df K mg "_law_shuffled" mG ["_law_pot_here","_law_things"] fS bJ)(T:bt mg) :
  av P w K mg base aB 3 f fd ["_law_pot_here","_law_names_here","_law_most"] Na:=by
 have G:av P w K mg base aB 1 fD ig ["_law_pot_here","_law_many"] mH:=gn D.fn T;have GS:av P w K mg base aB 2 fS bJ ["_law_pot_here","_law_things"] qN:=sj DS.fn D T;refine F.ok kS (λvs H Q E h=>?_) (λcdv A outer s H vs Q E hr h=>?_)
 ·obtain⟨p,a,m,ns,rfl,_⟩:=h;rfl
 ·obtain⟨p,a,m,ns,rfl,hm,hp,ha,good,k⟩:=h;have h1:=hr.mono (j:=1) (by decide);refine⟨_,ag (aN (i:=3) kS.nd rfl (Or.inl rfl) (ar GS hr rfl DS.aK DS.fn.kp DS.b .nil ax (aa (pv 0) (aa (pv 1) ae))))
   (ag (aN (i:=4) kS.nd rfl (Or.inl rfl) (bR ae))
   (ag (cJ aaW rfl (tR rfl T.range (aa aE (aa (ay aA (by rfl) T.len aax (aa (pv 1) ae)) ae))) (aD (i:=5) kS.nd rfl (Or.inl rfl))
    (ag (aN (i:=6) kS.nd rfl (Or.inl rfl) (ar G h1 rfl D.aK D.fn.kp D.b .nil ax (aa (pv 0) (aa (pv 5) ae))))
    (ag (aN (i:=7) kS.nd rfl (Or.inl rfl) (bR (aa (c7 (aa (bj aX (pv 3) (pv 6) (λ_ _=>rfl)) (aa (bj aX (pv 3) (pv 5) (λ_ _=>rfl)) ae)))
     (aa (c7 (aa (bj aX (pv 3) (pv 5) (λ_ _=>rfl)) (aa (bj aX (pv 3) (pv 6) (λ_ _=>rfl)) ae))) ae))))
    (ao (aW (cT aaJ aaO aaP bH (pv 4) (aa (bj aX (pv 7)
     (bp BZ (by rfl) T.int aea (aa (bL iW (ar G h1 rfl D.aK D.fn.kp D.b .nil ax (aa (pv 0) (aa aE ae))) aE (aV _)) ae)) (λ_ _=>rfl)) ae)))))))
   (ag (cJ aaW rfl (dD rfl T.range (aa (ar G h1 rfl D.aK D.fn.kp D.b .nil ax (aa (pv 0) (aa (bV eE (pv 2) aE) ae))) ae)) (aD (i:=5) kS.nd rfl (Or.inl rfl))
    (ag (aN (i:=8) kS.nd rfl (Or.inl rfl) (ar G h1 rfl D.aK D.fn.kp D.b .nil ax (aa (pv 0) (aa (ay aA (by rfl) T.len aax (aa (pv 1) ae)) ae))))
    (ag (aN (i:=9) kS.nd rfl (Or.inl rfl) (ar G h1 rfl D.aK D.fn.kp D.b .nil ax (aa (pv 0) (aa (ay aA (by rfl) T.len aax (aa (pv 1) ae)) ae))))
    (ag (bu (PW.pt (gO (aQ oA (pv 8) (pv 9) (aV _)) (fE (aQ oA (ar G h1 rfl D.aK D.fn.kp D.b .nil ax (aa (pv 0) (aa aE ae))) aE (aV _)))))
     (ao (BV rfl kS.nd rfl rfl (i:=8) (j:=9) (by decide) rfl rfl (aa (pv 9) (aa (pv 8) ae)) rfl)) aT)
    (ao (aW (cT aaJ aaO aaP bH (pv 4) (aa (c7 (aa (bj aX (pv 3) (pv 8) (λ_ _=>rfl)) (aa (bj aX (pv 3) (pv 9) (λ_ _=>rfl)) ae))) ae))))))))
   (ao (aI (ar GS hr rfl DS.aK DS.fn.kp DS.b .nil ax (aa (pv 0) (aa (pv 4) ae)))))))),?_⟩
  try rw[bw]
  refine⟨_,rfl,_,rfl,p,a,_,rfl,hp,ha,(by rw[aak];have:=good.aJ;omega),λq ys H1 pm hq km C4 b1=>?_⟩;obtain⟨ms,pms,rfl⟩:=kl pm;have lI:a≠p:=λe=>by obtain⟨x,y,z⟩:=hp;rw[<-e,ha] at z;cases ns with|nil=>exact absurd good.one (by decide)|cons n r=>cases z
  have C5:=b1 _ _ ha lI;have iI:q≠p:=λe=>by obtain⟨x,y,z⟩:=hp;rw[e,z] at hq;cases hq
  refine⟨(by decide),λb hb=>?_⟩;have nbp:b≠p:=λe=>by obtain⟨x,y,z⟩:=C4;rw[e,z] at hb;cases hb
  have Hb:H b=none:=b1.none hb nbp;have zd:q≠b:=aw km hb;have uA:a≠b:=aw C5 hb;have W0:HI p a q b ns ms H 0 [] [] (upd H1 b (.lst [])):=⟨C4.aq (aaX nbp),b1.ba Hb,by rw[L2.aq uA];exact C5,by rw[L2.aq zd];exact km,af,.nil,(λ_ z=>nomatch z),rfl⟩
  have HJ:ms.length=ns.length:=pms.length_eq;have aJ:=good.aJ;have one:=good.one;have hlen:((ns.map V.str).length:Int)=ns.length:=by rw[aak]
  have pX:(0:Int)<ns.length:=by omega
  have pY:(ns.length:Int)<1000:=by omega
  refine⟨_,rfl,a,_,rfl,.inl (aj.of W0.ha),?_⟩;rw[hlen];refine⟨_,_,rfl,⟨by decide,by decide,by omega,by omega⟩,?_⟩;refine dS (HL p a q b m ns ms H id id) ⟨_,_,_,_,_,[],[],rfl,W0,PX⟩ ?_ ?_
  ·rintro i σ H5 hi ⟨v5,v6,v7,v8,v9,ps,ts,rfl,W5,S5⟩;have hi':i+1<ns.length:=by omega
   refine⟨_,rfl,_,rfl,p,_,rfl,W5.row,by omega,by omega,λj H6 j1 j2 ko b6=>?_⟩;have W6:=W5.drawn b6 ko lI iI nbp;obtain⟨n,rfl⟩:=abo j1;have hn:n<ms.length:=by omega
   have hi2:i+1<ms.length:=by omega
   have e1:(1+(i:Int))=((i+1:Nat):Int):=by omega
   have Ir:eF (ms.map V.str) (1+(i:Int))=some (V.str ms[i+1]):=by rw[e1];exact bc (j:=i+1) (by simp[hi2])
   have at2:eF (ms.map V.str) (n:Int)=some (V.str ms[n]):=bc (j:=n) (by simp[hn]);refine⟨_,rfl,_,rfl,q,_,_,_,rfl,rfl,aj.of W6.hq,at2,_,rfl,_,rfl,q,_,_,_,rfl,rfl,aj.of W6.hq,Ir,(by show 2<=sizeLine;decide),λt ht=>?_⟩;have W7:=W6.new (o:=.tup [.str ms[n],.str ms[i+1]]) ht;have et:=af (H:=H6) (a:=t) (o:=.tup [.str ms[n],.str ms[i+1]]);generalize upd H6 t (.tup [.str ms[n],.str ms[i+1]])=H7 at W7 et⊢;refine⟨_,rfl,_,rfl,q,_,_,_,rfl,rfl,aj.of W7.hq,Ir,_,rfl,_,rfl,q,_,_,_,rfl,rfl,aj.of W7.hq,at2,(by show 2<=sizeLine;decide),λu hu=>?_⟩;have W8:=W7.new (o:=.tup [.str ms[i+1],.str ms[n]]) hu;have eu:=af (H:=H7) (a:=u) (o:=.tup [.str ms[i+1],.str ms[n]]);have R7:=ai (o:=.tup [.str ms[i+1],.str ms[n]]) hu _ _ et;generalize upd H7 u (.tup [.str ms[i+1],.str ms[n]])=H8 at W8 eu R7⊢;refine⟨(by show 2<=sizeLine;decide),λv hv=>?_⟩;have W9:=W8.new (o:=.lst [.ref t,.ref u]) hv;have ev:=af (H:=H8) (a:=v) (o:=.lst [.ref t,.ref u]);have s9:=ai (o:=.lst [.ref t,.ref u]) hv;have Nb:=s9 _ _ R7;have Nc:=s9 _ _ eu;generalize upd H8 v (.lst [.ref t,.ref u])=H9 at W9 ev Nb Nc⊢;have Yl:v≠p:=λe=>by obtain⟨x,y,z⟩:=W9.row;rw[<-e,ev] at z;cases z
   refine⟨_,rfl,.inl ⟨rfl,_,aj.of W9.hb⟩,_,rfl,_,rfl,p,_,rfl,W9.row,by decide,by decide,λd HA d1 d2 Ym bA=>?_⟩;have WA:=W9.drawn bA Ym lI iI nbp;have notp:∀{x:Addr} {xs:List V},H9 x=some (.tup xs)->x≠p:=λex e=>by obtain⟨x,y,z⟩:=W9.row;rw[<-e,ex] at z;cases z
   have R8:=bA _ _ ev Yl;have Yn:=bA _ _ Nb (notp Nb);have Yo:=bA _ _ Nc (notp Nc);have fin:∀(t:Addr) (e:Str×Str),HA t=some (.tup [.str e.1,.str e.2])->(e=(ms[n],ms[i+1])\/e=(ms[i+1],ms[n]))->HL p a q b m ns ms H id id (i+1) [some (V.ref p),some (V.ref a),some (V.int m),some (V.ref q),some (V.ref b),some (V.int (1+i)),some (V.int n),some (V.ref v),v8,v9] (upd HA b (.lst (ts.map V.ref++[V.ref t]))):=by
    intro t e ht he;have i1:ms[i+1]∈ns:=pms.mem_iff.mp (abd hi2);have i2:ms[n]∈ns:=pms.mem_iff.mp (abd hn);refine⟨_,_,_,_,_,ps++[e],ts++[t],rfl,?_,S5.next (j:=n) (show n<=i by omega) (by simp[hn]) (by simp[hi2]) he⟩
    have:=WA.put ht (by rcases he with rfl|rfl;exact i2;exact i1) (by rcases he with rfl|rfl;exact i1;exact i2) nbp uA zd Hb
    rw[aaY] at this;exact this
   have ze:ts.length=i:=by rw[WA.eG.len,WA.len];rfl
   have sm:(ts.map V.ref).length+1<=sizeLine:=by rw[aak,ze];exact aap (by omega) (show 100<=sizeLine by decide)
   refine⟨rfl,.inr ⟨_,rfl,?_⟩⟩;by_cases hd:V.int d=V.int 0
   ·rw[decide_eq_true hd];exact⟨v,_,1,_,rfl,rfl,aj.of R8,rfl,b,_,_,rfl,rfl,WA.hb,sm,fin u (ms[i+1],ms[n]) Yo (.inr rfl)⟩
   ·rw[aaz hd];exact⟨v,_,0,_,rfl,rfl,aj.of R8,rfl,b,_,_,rfl,rfl,WA.hb,sm,fin t (ms[n],ms[i+1]) Yn (.inl rfl)⟩
  ·rintro σ H5 ⟨v5,v6,v7,v8,v9,ps,ts,rfl,W5,S5⟩;have eN:((ns.length:Int)-1).toNat=ns.length-1:=by omega
   rw[eN] at W5 S5;refine⟨_,rfl,_,rfl,_,_,rfl,rfl,p,_,rfl,W5.row,by omega,by omega,λd2 H6 Hr Hs ko b6=>?_⟩;have W6:=W5.drawn b6 ko lI iI nbp;refine⟨_,rfl,by omega,by omega,?_⟩;refine dS (HL p a q b m ns ms H (λj=>ns.length-1+j) (λ_=>ns.length-1)) ⟨_,_,_,_,_,ps,ts,rfl,W6,S5⟩ ?_ ?_
   ·clear W6 W5 S5;rintro i σ H5 hi ⟨v5,v6,v7,v8,v9,ps,ts,rfl,W5,S5⟩;refine⟨_,rfl,_,rfl,a,_,rfl,.inl (aj.of W5.ha),p,_,rfl,W5.row,by rw[hlen];exact pX,by rw[hlen];exact pY,λone H6 o1 o2 ko b6=>?_⟩;have W6:=W5.drawn b6 ko lI iI nbp;refine⟨_,rfl,_,rfl,a,_,rfl,.inl (aj.of W6.ha),p,_,rfl,W6.row,by rw[hlen];exact pX,by rw[hlen];exact pY,λwG H7 t1 t2 C6 b7=>?_⟩;have W7:=W6.drawn b7 C6 lI iI nbp;rw[hlen] at o2 t2;have fin:∀(D:Ends),D.nx=HL p a q b m ns ms H (λj=>ns.length-1+j) (λ_=>ns.length-1) (i+1)->∀(x y:Int) (H8:Hp),0<=x->x<ns.length->0<=y->y<ns.length->HI p a q b ns ms H (ns.length-1+i) ps ts H8 ->
      oz (yN K "list" jD (cf 4) (cw (vG (cw (ni (pJ K) (cf 3) (cf 8)) (cw (ni (pJ K) (cf 3) (cf 9)) d7))) d7)) D
       [some (V.ref p),some (V.ref a),some (V.int m),some (V.ref q),some (V.ref b),some (V.int (0+i)),v6,v7,some (V.int x),some (V.int y)] H8:=by
     intro D0 hD x y H8 x1 x2 y1 y2 W8;obtain⟨m',rfl⟩:=abo x1;obtain⟨n,rfl⟩:=abo y1;have Hd:m'<ms.length:=by omega
     have vy:n<ms.length:=by omega
     refine⟨_,rfl,.inl ⟨rfl,_,aj.of W8.hb⟩,_,rfl,_,rfl,q,_,_,_,rfl,rfl,aj.of W8.hq,bc (j:=m') (v:=.str ms[m']) (by simp[Hd]),_,rfl,_,rfl,q,_,_,_,rfl,rfl,aj.of W8.hq,bc (j:=n) (v:=.str ms[n]) (by simp[vy]),(by show 2<=sizeLine;decide),λt ht=>?_⟩;have W9:=W8.new (o:=.tup [.str ms[m'],.str ms[n]]) ht;have et:=af (H:=H8) (a:=t) (o:=.tup [.str ms[m'],.str ms[n]]);generalize upd H8 t (.tup [.str ms[m'],.str ms[n]])=H9 at W9 et⊢;have ze:ts.length=ns.length-1+i:=by rw[W9.eG.len,W9.len]
     have sm:(ts.map V.ref).length+1<=sizeLine:=by rw[aak,ze];exact aap (by omega) (show 100<=sizeLine by decide)
     refine⟨b,_,_,rfl,rfl,W9.hb,sm,?_⟩;rw[hD]
     have:=W9.put (e:=(ms[m'],ms[n])) et (pms.mem_iff.mp (abd Hd)) (pms.mem_iff.mp (abd vy)) nbp uA zd Hb
     rw[aaY] at this;exact⟨_,_,_,_,_,ps++[(ms[m'],ms[n])],ts++[t],rfl,this,S5.more _⟩
    refine⟨_,rfl,_,rfl,_,_,rfl,rfl,_,rfl,?_⟩;refine cR (λXw=>?_) (λ_=>fin _ rfl one wG H7 o1 o2 t1 t2 W7);refine⟨_,rfl,p,_,rfl,W7.row,by decide,by decide,λd3 H8 _ _ m5 b8=>?_⟩;have W8:=W7.drawn b8 m5 lI iI nbp;refine⟨_,_,rfl,rfl,_,rfl,?_⟩;refine cR (λ_=>?_) (λ_=>fin _ rfl one wG H8 o1 o2 t1 t2 W8);exact⟨_,rfl,_,rfl,_,_,rfl,fin _ rfl wG one H8 t1 t2 o1 o2 W8⟩
   ·clear W6 W5 S5;rintro σ H5 ⟨v5,v6,v7,v8,v9,ps,ts,rfl,W5,S5⟩;have ld2:d2.toNat<=m:=by omega
    have lps:ps.length=ns.length-1+d2.toNat:=W5.len;have ze:ts.length=ps.length:=W5.eG.len;refine⟨_,rfl,_,rfl,p,b,_,rfl,W5.row,W5.hb,by rw[aak];omega,λl ys H6 Yp hl Yq ko b6=>?_⟩;obtain⟨ts',ps',rfl,pp,tt⟩:=Ef Yp.symm rfl W5.eG;have nl:l≠p:=λe=>by obtain⟨x,y,z⟩:=W5.row;rw[e,z] at hl;cases hl
    refine k l ps' ts' H6 (W5.but.none hl nl) Yq (tt.but b6 (λys z=>by obtain⟨xs,e⟩:=W5.row.lst;rw[e] at z;cases z)) ⟨good,λz hz=>W5.ins z (pp.mem_iff.mp hz),by rw[pp.length_eq];omega⟩ ((Span.hangs (i:=ns.length-1) S5 (by omega) pms).perm pp) ko (W5.but.trans b6)
end
end dJ
namespace L3
open PySem PySem.Spec PyProof.Rows L2
theorem zK(zs:List Str):(zs.map V.str).all dk=true:=by rw[acj,abE];intro _ _;rfl
section
variable {X:Cx}
def IA(K:PySem.W.Frag)(neg:Bool):R2:=λx y H Q=>∃(a p:Addr) (zs:List Str) (qs:List (Addr×List Str)),x=.ref a/\y=.ref p/\aL K H a (zs.map V.str)/\aj K H p (qs.map λq=>V.ref q.1)/\dO H qs/\Q (.bl (if neg then !decide (zs∈qs.map (·.2)) else decide (zs∈qs.map (·.2)))) H
def Eg(qs:List (Addr×List Str))(zs:List Str)(u:Value):Bool:=match u with|.ref b=>decide (fV qs b=zs)|_=>false
theorem Nd{pins:List (Addr×Obj)}{σ:L2.St}{H:Hp}{s:Shared}(I:Inv X pins σ H s)(hu:X.A.units+2<cLine){a b:Addr}{zs ys:List Str}(ha:aL X.K H a (zs.map V.str))(hb:aL X.K H b (ys.map V.str)):SeqAt.EqAt X.A.in1 s (.ref b) (.ref a) (decide (ys=zs)):=by
 by_cases e:b=a
 ·subst e
  have:=str_inj (I.tP hb ha)
  rw[decide_eq_true this];exact adO _
 ·obtain⟨is,ri,pi,_⟩:=I.tuple hb;obtain⟨js,rj,pj,_⟩:=I.tuple ha;have h:=aeR (A:=X.A.in1) pi pj (by show X.A.units+1<cLine;omega) (jQ (zK ys) (zK zs) ri rj);have ev:((List.range (min is.toArray.size js.toArray.size)).all (λj=>g8 ((ys.map V.str).getD j .bz) ((zs.map V.str).getD j .bz))&&is.toArray.size==js.toArray.size)=decide (ys=zs):=by
   rw[<-mD];simp only[aas];rw[<-ri.length,<-rj.length];by_cases el:(ys.map V.str).length=(zs.map V.str).length
   ·rw[rW el,<-iT el];simp only[el,beq_self_eq_true,Bool.and_true]
   ·have:((ys.map V.str).length==(zs.map V.str).length)=false:=by simpa using el
    rw[this,acu];exact(iS el).symm
  rw[ev] at h;exact aeE e h
theorem Kk{pins:List (Addr×Obj)}{σ:L2.St}{H:Hp}{s:Shared}(I:Inv X pins σ H s)(hu:X.A.units+2<cLine){a p:Addr}{zs:List Str}{qs:List (Addr×List Str)}(ha:aL X.K H a (zs.map V.str))(hp:aj X.K H p (qs.map λq=>V.ref q.1))(ho:dO H qs) :
  ∃its:List Value,s.heap.IsList p its.toArray/\(∀y,y∈its.toArray->SeqAt.EqAt X.A.in1 s y (.ref a) (Eg qs zs y))/\its.toArray.any (Eg qs zs)=decide (zs∈qs.map (·.2)):=by
 obtain⟨its,rv,pl,_⟩:=I.list hp;have ei:its=qs.map λq=>Value.ref q.1:=by
  have:∀(l:List (Addr×List Str)) (vs:List Value),Vals (l.map λq=>V.ref q.1) vs->vs=l.map λq=>Value.ref q.1:=by
   intro l;induction l with
   |nil=>intro vs h;cases h;rfl
   |cons x l ih=>
    intro vs h;cases h with
    |cons r t =>cases r;rw[ih _ t];rfl
  exact this qs its rv
 refine⟨its,pl.isList,λy hy=>?_,?_⟩
 ·have hy:y∈its:=by simpa using hy
  rw[ei] at hy;obtain⟨q,hq,rfl⟩:=aaN.mp hy;show SeqAt.EqAt _ _ _ _ (decide (fV qs q.1=zs))
  rw[jY ho hq];exact Nd I hu ha (aL.of (ho q hq))
 ·rw[show its.toArray.any (Eg qs zs)=its.any (Eg qs zs) by simp,ei,ac7,abH,adG,abC,aaN];constructor
  ·rintro⟨q,hq,h⟩;have h':fV qs q.1=zs:=abZ h;rw[jY ho hq] at h';exact⟨q,hq,h'⟩
  ·rintro⟨q,hq,h⟩;refine⟨q,hq,?_⟩;show decide (fV qs q.1=zs)=true
   rw[jY ho hq];exact decide_eq_true h
theorem Kl(hu:X.A.units+2<cLine):cL X (compareOp .In) (IA X.K false):=by rintro pins s σ H x y v u Q I rx ry ⟨a,p,zs,qs,rfl,rfl,ha,hp,ho,q⟩;cases rx;cases ry;obtain⟨its,hl,he,hv⟩:=Kk I hu ha hp ho;refine afg (Eg qs zs) hl he ⟨.bl _,H,I,rfl,?_⟩;rw[hv];exact q
end
end L3
namespace dJ
open PySem PySem.Spec PyProof.Rows L2 L3
abbrev mP:Stmt:=top 79 -- R9
abbrev oM:Stmt:=top 80 -- Km
section
variable {P:Program}{w:World}{K:PySem.W.Frag}{mg:Str->Option Value}{base:Heap}
theorem yw{ns:List Str}{ps:List (Str×Str)}{ys:List Str}(i:jd ns ps)(h:closed (turn ps) ys=true):closed ps (ns.filter λz=>!decide (z∈ys))=true:=by
 unfold closed at h⊢;rw[abG,aca] at h⊢;intro p hp q
 have:=h (p.2,p.1) (fg.mpr hp)
 simp only[abh,abG,abi,abD,aaU] at q this;obtain⟨⟨q1,q2⟩,q3⟩:=q;refine q3 ⟨(i p hp).2,λm=>?_⟩;exact this ⟨m,q2⟩
structure Open(ns:List Str)(ps:List (Str×Str))(zs:List Str):Prop where
 rise:aF zs=zs
 nd:zs.Nodup
 ins:∀z∈zs,z∈ns
 aU:closed ps zs=true
def Eh:Sp:=λvs H Q _=>∃(a b:Addr) (z:Str) (ns:List Str) (ts:List Addr) (ps:List (Str×Str)),vs=[.ref a,.ref b,.str z]/\H a=some (.lst (ns.map V.str))/\H b=some (.lst (ts.map V.ref))/\aS H ts ps/\GoodW ns ps/\aF ns=ns/\z∈ns /\
 ∀(l:Addr) (zs:List Str) (H':Hp),H' l=some (.tup (zs.map V.str))->Open ns ps zs->au H H'->Q (.ref l) H'
abbrev Nf:List Str:=["_law_names_here","_law_ties","_law_place","_law_back"]
theorem Ng:aG Nf ["_law_names_here","_law_ties","_law_place"] (ak mP):=⟨rfl,rfl,rfl,by decide +kernel,rfl,by decide +kernel,by decide +kernel⟩
theorem Kn{f fC:Addr}{fd qU:FuncData}(F:a7 K "_law_away" "_law_away" mP f fd)(DC:Df K mg "_law_closed" gG ["_law_ties","_law_some"] fC qU)(T:bt mg):av P w K mg base aB 2 f fd ["_law_names_here","_law_ties","_law_place"] Eh:=by
 have GC:av P w K mg base aB 1 fC qU ["_law_ties","_law_some"] pZ:=uB DC.fn T;refine F.ok Ng (λvs H Q E h=>?_) (λcdv A outer s H vs Q E hr h=>?_)
 ·obtain⟨a,b,z,ns,ts,ps,rfl,_⟩:=h;rfl
 ·obtain⟨a,b,z,ns,ts,ps,rfl,ha,hb,hT,g,sn,hz,k⟩:=h;refine⟨_,ag (aN (i:=3) Ng.nd rfl (Or.inr rfl) (ar GC hr rfl DC.aK DC.fn.kp DC.b .nil ax (aa
    (cZ ["_law_a","_law_b"] [] rfl (bq (osc:=(ak mP).names) (N:=Nf) rfl rfl (by decide +kernel)) (iB (k:=2) (by decide) (by decide)) (bg (pv 1))
     (λ_ _ _=>cI (n:=2) rfl (aO (aD (i:=0) (show(["_law_a","_law_b"]:List Str).Nodup by decide +kernel) rfl (Or.inl rfl)) (aO (aD (i:=1) (show(["_law_a","_law_b"]:List Str).Nodup by decide +kernel) rfl (Or.inl rfl)) cg))) (λ_ _ _=>bK)
     (λ_ _ _=>c7 (aa (pv 1) (aa (pv 0) ae)))) (aa (bR (aa (pv 2) ae)) ae))))
   (ao (aI (bp cH (by rfl) T.tuple aa5 (aa
    (cZ ["_law_one"] [3] rfl (bq (osc:=(ak mP).names) (N:=Nf) rfl rfl (by decide +kernel)) (bx (by decide)) (bg (pv 0))
     (λ_ _ _=>aD (i:=0) (show(["_law_one","_law_back"]:List Str).Nodup by decide +kernel) rfl (Or.inl rfl))
     (λ_ _ _=>dA (aQ (r:=gb K true) cD (pv 0) (pv 1) rfl)) (λ_ _ _=>pv 0)) ae)))),?_⟩
  try rw[bw]
  refine⟨_,rfl,b,rfl,⟨_,aj.of hb⟩,zc hb hT (aap g.aJ (by decide)) λl us H1 nl hl hU s1=>?_⟩;refine⟨_,rfl,(by show 1<=sizeLine;decide),λu hu=>?_⟩;have su:=ai (o:=.lst [.str z]) hu;refine⟨l,u,ns,[z],us,turn ps,rfl,su _ _ hl,hU.same su,g.turned,af,by simp,(λy hy=>by rw[aaA.mp hy];exact hz),by simp,λl2 ys H2 h2 sh s2=>?_⟩;have s3:=s1.trans (su.trans s2);refine⟨_,rfl,a,rfl,⟨_,aj.of (s3 _ _ ha)⟩,A8 (aap g.good.aJ (by decide)) (s3 _ _ ha) (λz=>!decide (z∈ys)) ?_ ?_ ?_⟩
  ·intro y H4 R hy s4 q;refine⟨_,rfl,_,rfl,l2,_,rfl,.inr (aL.of (s4 _ _ h2)),rfl,bf _,_,rfl,?_⟩;simp only[aa4];rw[bU];exact q
  ·intro y H4 R q;exact⟨_,rfl,q⟩
  ·intro D H4 s4 nD;refine⟨D,_,rfl,.inl ⟨aj.of af,λt ht=>?_⟩⟩;refine k t _ _ af ⟨?_,g.good.nd.filter _,λy hy=>(aaU.mp hy).1,yw g.ins sh.aU⟩ (s3.trans (s4.trans ((ai nD).trans (ai ht))))
   have:=lD ns
   rw[sn] at this;exact(ja (.refl _) (this.filter _)).symm
end
theorem dO.jv{H:Hp}:∀{qs:List (Addr×List Str)},dO H qs->aP H (qs.map (·.1)) (qs.map (·.2))
 |[],_=>.nil
 |q::qs,h=>.cons (h q aau) (dO.jv (qs:=qs) λp hp=>h p (aaw _ hp))
structure rB(ns:List Str)(ps:List (Str×Str))(zss:List (List Str)):Prop where
 jv:∀zs∈zss,dw ns ps zs
 nd:zss.Nodup
 un:zss.Pairwise λxs ys=>bS ns xs ys=false
theorem rB.snoc{ns:List Str}{ps:List (Str×Str)}{zss:List (List Str)}{zs:List Str}(h:rB ns ps zss)(c:dw ns ps zs)(n:zs∉zss)(u:∀ys∈zss,bS ns zs ys=false):rB ns ps (zss++[zs]):=by
 refine⟨λy hy=>?_,?_,?_⟩
 ·rcases aaD.mp hy with q|q
  ·exact h.jv y q
  ·rw[aaA.mp q];exact c
 ·refine acd.mpr ⟨h.nd,by simp,λa ha b hb e=>?_⟩;rw[aaA.mp hb] at e;exact n (e▸ha)
 ·refine aep.mpr ⟨h.un,by simp,λa ha b hb=>?_⟩;rw[aaA.mp hb,oZ];exact u a ha
theorem rB.steps{ns:List Str}{ps:List (Str×Str)}{zss:List (List Str)}(h:rB ns ps zss):jh ns zss=[]:=by
 unfold jh;rw[ad7];rintro⟨i,j⟩ hp;unfold de at hp;obtain⟨i',hi',hm⟩:=afa.mp hp;unfold kM at hm;obtain⟨j',oY,e⟩:=aaN.mp hm;injection e with e1 e2;subst e1 e2;rw[abl] at hi' oY;have h1:i'+1+j'<zss.length:=by omega
 unfold fQ;rw[bP (aam hi'),bP (aam h1)];rw[abj.mp h.un i' (i'+1+j') hi' h1 (by omega)];simp
section
variable {P:Program}{w:World}{K:PySem.W.Frag}{mg:Str->Option Value}{base:Heap}
def Ei:Sp:=λvs H Q _=>∃(p a b:Addr) (m:Nat) (ns:List Str) (ts:List Addr) (ps:List (Str×Str)),vs=[.ref p,.ref a,.ref b,.int m]/\m<=70/\Row H p/\a≠p/\b≠p/\H a=some (.lst (ns.map V.str))/\H b=some (.lst (ts.map V.ref))/\aS H ts ps/\GoodW ns ps/\aF ns=ns /\
 ∀(l:Addr) (qs:List (Addr×List Str)) (H':Hp),H l=none->H' l=some (.lst (qs.map λq=>V.ref q.1))->dO H' qs->rB ns ps (qs.map (·.2))->qs.length<=m->Row H' p->cb p H H'->Q (.ref l) H'
abbrev R':List Str:=["_law_pot_here","_law_names_here","_law_ties","_law_most","_law_found","_law_k","_law_part","_law_bare"]
theorem sU:aG R' ["_law_pot_here","_law_names_here","_law_ties","_law_most"] (ak oM):=⟨rfl,rfl,rfl,by decide +kernel,rfl,by decide +kernel,by decide +kernel⟩
structure UI(p a b lf:Addr)(ns:List Str)(ts:List Addr)(ps:List (Str×Str))(H:Hp)(i:Nat)(qs:List (Addr×List Str))(HH:Hp):Prop where
 row:Row HH p
 but:cb p H HH
 ha:HH a=some (.lst (ns.map V.str))
 hb:HH b=some (.lst (ts.map V.ref))
 eG:aS HH ts ps
 hf:HH lf=some (.lst (qs.map λq=>V.ref q.1))
 hold:dO HH qs
 j5:rB ns ps (qs.map (·.2))
 len:qs.length<=i
theorem UI.drawn{p a b lf:Addr}{ns:List Str}{ts:List Addr}{ps:List (Str×Str)}{H:Hp}{i:Nat}{qs:List (Addr×List Str)}{HH H3:Hp}(h:UI p a b lf ns ts ps H i qs HH)(s:cb p HH H3)(r:Row H3 p)(na:a≠p)(nb:b≠p)(nl:lf≠p):UI p a b lf ns ts ps H i qs H3:=by
 have nt:∀ys,HH p≠some (.tup ys):=λys z=>by obtain⟨xs,e⟩:=h.row.lst;rw[e] at z;cases z
 exact⟨r,h.but.trans s,s _ _ h.ha na,s _ _ h.hb nb,h.eG.but s nt,s _ _ h.hf nl,λq hq=>s _ _ (h.hold q hq) λe=>nt _ (e▸h.hold q hq),h.j5,h.len⟩
theorem UI.same{p a b lf:Addr}{ns:List Str}{ts:List Addr}{ps:List (Str×Str)}{H:Hp}{i:Nat}{qs:List (Addr×List Str)}{HH H3:Hp}(h:UI p a b lf ns ts ps H i qs HH)(s:au HH H3):UI p a b lf ns ts ps H i qs H3:=
 ⟨h.row.same s,h.but.trans λc u e _=>s c u e,s _ _ h.ha,s _ _ h.hb,h.eG.same s,s _ _ h.hf,λq hq=>s _ _ (h.hold q hq),h.j5,h.len⟩
abbrev Nh(K:PySem.W.Frag):List V->Hp->VK->Prop:=λxs H Q=>∃(p:Addr) (ys:List V),xs=[.ref p]/\(aj K H p ys\/aL K H p ys)/\Q (.int ys.length) H
abbrev anyS(K:PySem.W.Frag):List V->Hp->VK->Prop:=λxs H Q=>∃(p:Addr) (bs:List Bool),xs=[.ref p]/\aj K H p (bs.map V.bl)/\Q (.bl (bs.any id)) H
abbrev PZ(K:PySem.W.Frag):TS:=kE (vB (K4 (ni (gb K false) (tZ (Nh K) (cw (cf 6) d7)) (vG (cw (tC (V.int 0)) (cw (tZ (Nh K) (cw (cf 1) d7)) d7)))) (ni (IA K false) (cf 6) (cf 4))) (bh 7))
 (Ai (EF (vz (tB (cf 7))) (vz (tB (tZ (anyS K) (cw (Hi ["_law_second"] [1,6] (An K (cf 4)) (bh 0) dB (Ay mM [] E0 (cw (cf 1) (cw (cf 2) (cw (cf 0) d7))))) d7)))))
  (oz (yN K "list" jD (cf 4) (cw (cf 6) d7))) va)
theorem Ni{a b:Nat}:ua (.int a) [.int 0,.int b]=decide (a=0\/a=b):=by simp only[ua,ab9,List.any_nil,aer];rw[abH];simp[g8];omega
theorem zL{p a b lf c:Addr}{m:Nat}{ns:List Str}{ts:List Addr}{ps:List (Str×Str)}{H:Hp}{i:Nat}{qs:List (Addr×List Str)}{H7:Hp}{zs:List Str}{v5 v7:Option V}{D0:Ends}(U:UI p a b lf ns ts ps H i qs H7)(g:GoodW ns ps)(hi:i<71)(nap:a≠p)(nbp:b≠p)(nfp:lf≠p)(nlf:H lf=none)(naf:a≠lf)(nbf:b≠lf)(hc:H7 c=some (.tup (zs.map V.str)))(O:Open ns ps zs)
  (hD:D0.nx=λσ HH=>∃v5 v6 v7 qs,σ=[some (.ref p),some (.ref a),some (.ref b),some (.int m),some (.ref lf),v5,v6,v7]/\UI p a b lf ns ts ps H (i+1) qs HH) :
  PZ K D0 [some (.ref p),some (.ref a),some (.ref b),some (.int m),some (.ref lf),v5,some (.ref c),v7] H7:=by
 have lz:=gF O.nd O.ins;have aJ:=g.good.aJ;refine⟨_,rfl,c,_,rfl,.inr (aL.of hc),_,rfl,a,_,rfl,.inl (aj.of U.ha),(by show 2<=sizeLine;decide),λt ht=>?_⟩;have st:=ai (o:=.tup [.int 0,.int (ns.map V.str).length]) ht;refine⟨t,_,rfl,.inr (aL.of af),rfl,rfl,?_⟩;have U8:=U.same st;have zz:=st _ _ hc;generalize upd H7 t (.tup [.int 0,.int (ns.map V.str).length])=H8 at U8 zz⊢;simp only[aaB,aa3];rw[aak,aak,Ni];have bareT:∀{H9:Hp},UI p a b lf ns ts ps H i qs H9->(Ai (EF (vz (tB (cf 7))) (vz (tB (tZ (anyS K) (cw (Hi ["_law_second"] [1,6] (An K (cf 4)) (bh 0) dB (Ay mM [] E0 (cw (cf 1) (cw (cf 2) (cw (cf 0) d7))))) d7))))) (oz (yN K "list" jD (cf 4) (cw (cf 6) d7))) va) D0 [some (.ref p),some (.ref a),some (.ref b),some (.int m),some (.ref lf),v5,some (.ref c),some (.bl true)] H9:=by
  intro H9 U9;refine⟨_,rfl,_,rfl,aZ ?_⟩;show D0.nx _ _
  rw[hD];exact⟨_,_,_,qs,rfl,{U9 with len:=adw U9.len}⟩
 refine⟨_,rfl,?_⟩;by_cases h0:zs.length=0\/zs.length=ns.length
 ·rw[decide_eq_true h0];exact bo (bareT U8)
 rw[aaz h0];refine aZ ⟨_,rfl,_,rfl,c,lf,zs,qs,rfl,rfl,aL.of zz,aj.of U8.hf,U8.hold,?_⟩;simp only[aaB,aa3];by_cases jz:zs∈qs.map (·.2)
 ·rw[decide_eq_true jz];exact bareT U8
 rw[aaz jz];have ic:dw ns ps zs:=⟨⟨O.rise,O.nd,O.ins,λe=>h0 (.inl (by rw[e];rfl)),O.aU⟩,by omega⟩
 refine⟨_,rfl,_,rfl,bo ?_⟩;refine⟨_,rfl,lf,rfl,⟨_,aj.of U8.hf⟩,cA (K:=K) (xs:=qs.map λq=>V.ref q.1) (λj ys HH=>au H8 HH/\ys=((qs.take j).map λq=>gY ns zs q.2).map V.bl) ⟨au.refl _,rfl⟩ ?_ ?_ ?_ ?_⟩
 ·rintro j ys HH _ ⟨_,rfl⟩;rw[aak,aak,aaR]
  have:=U.len
  exact aap (by omega) (show 100<=sizeLine by decide)
 ·rintro j ys HH _ ⟨sH,_⟩;exact aj.of (sH _ _ U8.hf)
 ·rintro j v ys HH R hv ⟨sH,rfl⟩ kR;rw[aaq] at hv;obtain⟨q,eq,rfl⟩:=aar.mp hv;have hq:=aat eq;have lq:=gF (U8.j5.jv q.2 (acF hq)).aU.nd (U8.j5.jv q.2 (acF hq)).aU.ins;simp only[dB,bh,aa4];refine⟨_,rfl,_,rfl,_,rfl,a,c,q.1,ns,zs,q.2,rfl,sH _ _ U8.ha,sH _ _ zz,sH _ _ (U8.hold q hq),by omega,by omega,λH9 s9=>kR _ _ ⟨sH.trans s9,?_⟩⟩;rw[aaI,eq];simp
 rintro ys zI ⟨zJ,rfl⟩ D nD;rw[aak,aaF (aal _)];have s9:=zJ.trans (ai (o:=.lst ((qs.map λq=>gY ns zs q.2).map V.bl)) nD);have Sa:=af (H:=zI) (a:=D) (o:=.lst ((qs.map λq=>gY ns zs q.2).map V.bl));generalize upd zI D (.lst ((qs.map λq=>gY ns zs q.2).map V.bl))=H9 at s9 Sa⊢;have U9:=U8.same s9;have hc9:=s9 _ _ zz;refine⟨D,_,rfl,aj.of Sa,_,rfl,?_⟩;by_cases hx:((qs.map λq=>gY ns zs q.2).any id)=true
 ·rw[hx];refine aZ ?_;show D0.nx _ _
  rw[hD];exact⟨_,_,_,qs,rfl,{U9 with len:=adw U9.len}⟩
 rw[Bool.not_eq_true] at hx;rw[hx];have l9:(qs.map λq=>V.ref q.1).length+1<=sizeLine:=by rw[aak];have:=U.len;exact aap (by omega) (show 100<=sizeLine by decide)
 refine bo ⟨_,rfl,.inl ⟨rfl,_,aj.of U9.hf⟩,_,rfl,lf,_,_,rfl,rfl,U9.hf,l9,?_⟩;rw[hD];have mv:∀t' xs,H9 t'=some (.tup xs)->upd H9 lf (.lst ((qs.map λq=>V.ref q.1)++[V.ref c])) t'=some (.tup xs):=λt' xs e'=>by rw[L2.aq (cF e' U9.hf (by intro z;cases z))];exact e'
 refine⟨_,_,_,qs++[(c,zs)],rfl,U9.row.aq (aaX nfp),U9.but.ba nlf,by rw[L2.aq naf];exact U9.ha,by rw[L2.aq nbf];exact U9.hb,U9.eG.mono mv,?_,?_,?_,?_⟩
 ·rw[af];simp
 ·intro q hq;rcases aaD.mp hq with h|h
  ·exact mv _ _ (U9.hold q h)
  ·rw[aaA.mp h];exact mv _ _ hc9
 ·rw[aaY];refine U9.j5.snoc ic jz λys hy=>?_;obtain⟨q,hq,rfl⟩:=aaN.mp hy;have iq:=(U8.j5.jv q.2 (acF hq)).aU;rw[<-Fy g.good.nd O.nd iq.nd O.ins iq.ins];rw[aca] at hx
  have:=hx (gY ns zs q.2) (acF hq)
  simpa using this
 ·rw[aaM];have:=U9.len;simp;omega
theorem Ko{f fD fC dQ fA fX:Addr}{fd ig qU cK cO IB:FuncData}(F:a7 K "_law_uncrossed" "_law_uncrossed" oM f fd)(D:Df K mg "_law_digit" fu ["_law_pot_here","_law_many"] fD ig)(DC:Df K mg "_law_closed" gG ["_law_ties","_law_some"] fC qU)
  (DU:Df K mg "_law_cut" sE ["_law_pot_here","_law_names_here","_law_ties"] dQ cK) (DA:Df K mg "_law_away" mP ["_law_names_here","_law_ties","_law_place"] fA cO) (DX:Df K mg "_law_cross" jU ["_law_names_here","_law_one","_law_second"] fX IB) (hany:mg "any" = none) (T:bt mg) :
  av P w K mg base aB 3 f fd ["_law_pot_here","_law_names_here","_law_ties","_law_most"] Ei:=by
 have G:av P w K mg base aB 1 fD ig ["_law_pot_here","_law_many"] mH:=gn D.fn T;have GC:av P w K mg base aB 2 dQ cK ["_law_pot_here","_law_names_here","_law_ties"] A6:=Dd DU.fn D DC T;have GA:av P w K mg base aB 2 fA cO ["_law_names_here","_law_ties","_law_place"] Eh:=Kn DA.fn DC T;have GX:av P w K mg base aB 1 fX IB ["_law_names_here","_law_one","_law_second"] mM:=Dk DX.fn T;refine F.ok sU (λvs H Q E h=>?_) (λcdv A outer s H vs Q E hr h=>?_)
 ·obtain⟨p,a,b,m,ns,ts,ps,rfl,_⟩:=h;rfl
 ·obtain⟨p,a,b,m,ns,ts,ps,rfl,hm,hp,nap,nbp,ha,hb,hT,g,sn,k⟩:=h;have h1:=hr.mono (j:=1) (by decide);refine⟨_,ag (aN (i:=4) sU.nd rfl (Or.inl rfl) (bR ae))
   (ag (cJ aaW rfl (dD rfl T.range (aa (ar G h1 rfl D.aK D.fn.kp D.b .nil ax (aa (pv 0) (aa (bV eE (pv 3) aE) ae))) ae)) (aD (i:=5) sU.nd rfl (Or.inl rfl))
    (ag (aN (i:=6) sU.nd rfl (Or.inr rfl) (ar GC hr rfl DU.aK DU.fn.kp DU.b .nil ax (aa (pv 0) (aa (pv 1) (aa (pv 2) ae)))))
    (ag (bu (aQ iW (ar G h1 rfl D.aK D.fn.kp D.b .nil ax (aa (pv 0) (aa aE ae))) aE (aV _))
     (ao (aN (i:=6) sU.nd rfl (Or.inr rfl) (ar GA hr rfl DA.aK DA.fn.kp DA.b .nil ax (aa (pv 1) (aa (pv 2) (aa (bj aX (pv 1) (ar G h1 rfl D.aK D.fn.kp D.b .nil ax (aa (pv 0) (aa (ay aA (by rfl) T.len aax (aa (pv 1) ae)) ae))) (λ_ _=>rfl)) ae)))))) aT)
    (ag (aN (i:=7) sU.nd rfl (Or.inl rfl) (O5 (bL cn (ay aA (by rfl) T.len aax (aa (pv 6) ae)) (c7 (aa aE (aa (ay aA (by rfl) T.len aax (aa (pv 1) ae)) ae))) rfl)
     (eC (bL (Kl (low 1 hr)) (pv 6) (pv 4) rfl))))
    (ao (bu (PW.pt (gO (bO (bG (pv 7) (λ_=>rfl))) (fE (bO (bG (ay (vU rfl) (by rfl) hany boot_any (aa
      (cZ ["_law_second"] [1,6] rfl (bq (osc:=(ak oM).names) (N:=R') rfl rfl (by decide +kernel)) (bx (by decide)) (bg (pv 4))
       (λ_ _ _=>aD (i:=0) (show(["_law_second","_law_names_here","_law_part"]:List Str).Nodup by decide +kernel) rfl (Or.inl rfl)) (λ_ _ _=>bK)
       (λ_ _ _=>ar GX h1 rfl DX.aK DX.fn.kp DX.b .nil ax (aa (pv 1) (aa (pv 2) (aa (pv 0) ae))))) ae)) (λ_=>rfl))))))
     (ao (aW (cT aaJ aaO aaP bH (pv 4) (aa (pv 6) ae)))) aT))))))
   (ao (aI (pv 4)))),?_⟩
  try rw[bw]
  refine⟨(by decide),λlf nlf=>?_⟩;have sf:=ai (o:=.lst []) nlf;have nfp:lf≠p:=λe=>by obtain⟨x,y,z⟩:=hp;rw[e,z] at nlf;cases nlf
  have naf:a≠lf:=aw ha nlf;have nbf:b≠lf:=aw hb nlf;have U0:UI p a b lf ns ts ps H 0 [] (upd H lf (.lst [])):=⟨hp.same sf,(λc u e _=>sf c u e),sf _ _ ha,sf _ _ hb,hT.same sf,af,(λ_ z=>nomatch z),⟨(λ_ z=>nomatch z),aci,.nil⟩,aal _⟩
  have pX:(0:Int)<ns.length:=by have:=g.good.one;omega
  have pY:(ns.length:Int)<1000:=by have:=g.good.aJ;omega
  have hlen:((ns.map V.str).length:Int)=ns.length:=by rw[aak]
  refine⟨_,rfl,_,rfl,_,_,rfl,rfl,p,_,rfl,U0.row,by omega,by omega,λd2 H4 Hr Hs hp4 b4=>?_⟩;have U4:=U0.drawn b4 hp4 nap nbp nfp;refine⟨_,rfl,by omega,by omega,?_⟩;refine dS (λi σ HH=>∃v5 v6 v7 qs,σ=[some (.ref p),some (.ref a),some (.ref b),some (.int m),some (.ref lf),v5,v6,v7]/\UI p a b lf ns ts ps H i qs HH) ⟨_,_,_,[],rfl,U4⟩ ?_ ?_
  ·rintro i σ H5 hi ⟨v5,v6,v7,qs,rfl,U5⟩;refine⟨_,rfl,_,rfl,_,rfl,p,a,b,ns,ts,ps,rfl,U5.row,nap,nbp,U5.ha,U5.hb,U5.eG,g,λc zs H6 hc sh ko b6=>?_⟩;have U6:=U5.drawn b6 ko nap nbp nfp;have O6:Open ns ps zs:=⟨sh.rise,sh.nd,sh.ins,sh.aU⟩
   refine⟨_,rfl,p,_,rfl,U6.row,by decide,by decide,λd H7 _ _ C6 b7=>?_⟩;have U7:=U6.drawn b7 C6 nap nbp nfp;have nt:∀{x:Addr} {xs:List V} {HH:Hp},Row HH p->HH x=some (.tup xs)->x≠p:=λr ex e=>by obtain⟨x,y,z⟩:=r;rw[<-e,ex] at z;cases z
   have Rb:=b7 _ _ hc (nt ko hc);refine⟨rfl,_,rfl,cR (λ_=>?_) (λ_=>?_)⟩
   ·refine⟨_,rfl,_,rfl,_,rfl,_,rfl,_,rfl,a,_,rfl,.inl (aj.of U7.ha),p,_,rfl,U7.row,by rw[hlen];exact pX,by rw[hlen];exact pY,λe H8 e1 e2 m5 b8=>?_⟩;rw[hlen] at e2;have U8:=U7.drawn b8 m5 nap nbp nfp;obtain⟨n,rfl⟩:=abo e1;have hn:n<ns.length:=by omega
    refine⟨a,_,_,_,rfl,rfl,aj.of U8.ha,bc (j:=n) (v:=.str ns[n]) (by simp[hn]),a,b,ns[n],ns,ts,ps,rfl,U8.ha,U8.hb,U8.eG,g,sn,abd hn,λc2 zs2 H9 Yr O2 s9=>?_⟩;exact zL (U8.same s9) g (by omega) nap nbp nfp nlf naf nbf Yr O2 rfl
   ·exact zL U7 g (by omega) nap nbp nfp nlf naf nbf Rb O6 rfl
  ·rintro σ H5 ⟨v5,v6,v7,qs,rfl,U5⟩;exact⟨_,rfl,k lf qs H5 nlf U5.hf U5.hold U5.j5 (by have:=U5.len;omega) U5.row U5.but⟩
end
abbrev bX(sd:List (List Str))(i:Nat):List Str:=sd.getD i []
theorem mQ(sd:List (List Str))(ins:List Str)(size:Nat):∀n,(eV sd ins size n=0/\∀i,i<n->holds sd ins size i=false)\/(∃m,eV sd ins size n=m+1/\m<n/\holds sd ins size m=true/\∀i,i<n->holds sd ins size i=true->(bX sd m).length<=(bX sd i).length)
 |0=>.inl ⟨rfl,λi h=>absurd h (ab7 _)⟩
 |n+1=>by
  rw[mO];have ih:=mQ sd ins size n;by_cases h:holds sd ins size n=true
  ·rw[if_pos h];right;rcases ih with⟨e,no⟩|⟨m,e,lt,hm,le⟩
   ·refine⟨n,by rw[e];unfold iY;rw[if_pos (.inl rfl)],abg _,h,λi hi hh=>?_⟩;rcases abY.mp hi with q|q
    ·rw[no i q] at hh;cases hh
    ·subst q;exact aal _
   ·rw[e];unfold iY;by_cases c:(bX sd n).length<(bX sd m).length
    ·rw[if_pos (.inr c)];refine⟨n,rfl,abg _,h,λi hi hh=>?_⟩;rcases abY.mp hi with q|q
     ·have:=le i q hh;omega
     ·subst q;exact aal _
    ·rw[if_neg (by rintro(z|z);cases z;exact c z)];refine⟨m,rfl,by omega,hm,λi hi hh=>?_⟩;rcases abY.mp hi with q|q
     ·exact le i q hh
     ·subst q;omega
  ·rw[if_neg h];rcases ih with⟨e,no⟩|⟨m,e,lt,hm,le⟩
   ·refine .inl ⟨e,λi hi=>?_⟩;rcases abY.mp hi with q|q
    ·exact no i q
    ·subst q;simpa using h
   ·refine .inr ⟨m,e,by omega,hm,λi hi hh=>?_⟩;rcases abY.mp hi with q|q
    ·exact le i q hh
    ·subst q;exact absurd hh h
theorem holds_iff{sd:List (List Str)}{ins:List Str}{size i:Nat}:holds sd ins size i=true ↔ size<=(bX sd i).length/\∀z∈ins,z∈bX sd i:=by unfold holds;rw[abh,abi,abE];simp only[abi]
structure rC(sd:List (List Str)):Prop where
 nd:∀i,i<sd.length->(bX sd i).Nodup
 ne:∀i,i<sd.length->bX sd i≠[]
 nest:∀i j,i<sd.length->j<sd.length->(∀z∈bX sd i,z∉bX sd j)\/(∀z∈bX sd i,z∈bX sd j)\/(∀z∈bX sd j,z∈bX sd i)
 inj:∀i j,i<sd.length->j<sd.length->(∀z,z∈bX sd i ↔ z∈bX sd j)->i=j
theorem g7{a b:List Str}(nd:a.Nodup)(s:∀z∈a,z∈b)(l:b.length<=a.length):∀z∈b,z∈a:=λz hz=>(gW nd s l).mem_iff.mpr hz
theorem rC.up{sd:List (List Str)}(L:rC sd){i j:Nat}(hi:i<sd.length)(hj:j<sd.length){z:Str}(zi:z∈bX sd i)(zj:z∈bX sd j)(le:(bX sd i).length<=(bX sd j).length):∀y∈bX sd i,y∈bX sd j:=by
 rcases L.nest i j hi hj with h|h|h
 ·exact absurd zj (h z zi)
 ·exact h
 ·exact g7 (L.nd j hj) h le
inductive rD (par:List Nat):Nat->List Nat->Prop where
 |nil:rD par 0 []
 |cons {k p:Nat} {l:List Nat}:par[k]?=some p->rD par p l->rD par (k+1) ((k+1)::l)
theorem sV{sd:List (List Str)}{k:Nat}(hk:k<sd.length):(bZ sd)[k]?=some (eV sd (bX sd k) ((bX sd k).length+1) sd.length):=by unfold bZ;rw[aaq,aam hk];have e:bX sd k=sd[k]:=bP (aam hk);rw[e];rfl
theorem Ga{sd:List (List Str)}(L:rC sd){M:Nat}(hM:∀i,i<sd.length->(bX sd i).length<=M):∀d k,k<sd.length->M-(bX sd k).length<=d->∃l,rD (bZ sd) (k+1) l/\l.Nodup/\∀j,j∈l ↔ ∃i,j=i+1/\i<sd.length/\∀z∈bX sd k,z∈bX sd i:=by
 intro d;induction d with
 |zero=>
  intro k hk hd;have eq:=hM k hk;rcases mQ sd (bX sd k) ((bX sd k).length+1) sd.length with⟨e,no⟩|⟨m,e,lt,hm,_⟩
  ·refine⟨[k+1],.cons (by rw[sV hk,e]) .nil,by simp,λj=>?_⟩;rw[aaA];constructor
   ·rintro rfl;exact⟨k,rfl,hk,λ_ h=>h⟩
   ·rintro⟨i,rfl,hi,sub⟩;have li:=hM i hi
    have:=L.inj i k hi hk λz=>⟨g7 (L.nd k hk) sub (by omega) z,sub z⟩
    rw[this]
  ·have:=(holds_iff.mp hm).1
   have:=hM m lt
   omega
 |succ d ih=>
  intro k hk hd;rcases mQ sd (bX sd k) ((bX sd k).length+1) sd.length with⟨e,no⟩|⟨m,e,lt,hm,le⟩
  ·refine⟨[k+1],.cons (by rw[sV hk,e]) .nil,by simp,λj=>?_⟩;rw[aaA];constructor
   ·rintro rfl;exact⟨k,rfl,hk,λ_ h=>h⟩
   ·rintro⟨i,rfl,hi,sub⟩;have nh:=no i hi;have li:¬ (bX sd k).length+1<=(bX sd i).length:=λq=>by
     have:=holds_iff.mpr ⟨q,sub⟩
     rw[nh] at this;cases this
    have:=L.inj i k hi hk λz=>⟨g7 (L.nd k hk) sub (by omega) z,sub z⟩
    rw[this]
  ·obtain⟨lm,sm⟩:=holds_iff.mp hm;obtain⟨l,c,nd,mem⟩:=ih m lt (by omega);refine⟨(k+1)::l,.cons (by rw[sV hk,e]) c,?_,λj=>?_⟩
   ·refine aa6.mpr ⟨λq=>?_,nd⟩;obtain⟨i,e1,hi,sub⟩:=(mem _).mp q;obtain rfl:k=i:=by omega
    have:=(gW (L.nd m lt) sub (by omega)).length_eq
    omega
   ·rw[aav,mem];constructor
    ·rintro(rfl|⟨i,rfl,hi,sub⟩)
     ·exact⟨k,rfl,hk,λ_ h=>h⟩
     ·exact⟨i,rfl,hi,λz hz=>sub z (sm z hz)⟩
    ·rintro⟨i,rfl,hi,sub⟩;by_cases q:(bX sd k).length+1<=(bX sd i).length
     ·right;obtain⟨z,hz⟩:=abp _ (L.ne k hk);exact⟨i,rfl,hi,L.up lt hi (sm z hz) (sub z hz) (le i hi (holds_iff.mpr ⟨q,sub⟩))⟩
     ·left
      have:=L.inj i k hi hk λz=>⟨g7 (L.nd k hk) sub (by omega) z,sub z⟩
      rw[this]
theorem Bs{sd:List (List Str)}(L:rC sd){M:Nat}(hM:∀i,i<sd.length->(bX sd i).length<=M)(z:Str):∃l,rD (bZ sd) (eV sd [z] 1 sd.length) l/\l.Nodup/\∀j,j∈l ↔ ∃i,j=i+1/\i<sd.length/\z∈bX sd i:=by
 have one:∀i,z∈bX sd i->holds sd [z] 1 i=true:=λi h=>holds_iff.mpr ⟨abR h,λy hy=>by rw[aaA.mp hy];exact h⟩;rcases mQ sd [z] 1 sd.length with⟨e,no⟩|⟨m,e,lt,hm,le⟩
 ·refine⟨[],by rw[e];exact .nil,aci,λj=>⟨λq=>(nomatch q),?_⟩⟩;rintro⟨i,rfl,hi,h⟩
  have:=no i hi
  rw[one i h] at this;cases this
 ·obtain⟨_,sm⟩:=holds_iff.mp hm;have zm:=sm z aau;obtain⟨l,c,nd,mem⟩:=Ga L hM _ m lt (aal _);refine⟨l,by rw[e];exact c,nd,λj=>?_⟩;rw[mem];constructor
  ·rintro⟨i,rfl,hi,sub⟩;exact⟨i,rfl,hi,sub z zm⟩
  ·rintro⟨i,rfl,hi,h⟩;exact⟨i,rfl,hi,L.up lt hi zm h (le i hi (one i h))⟩
theorem Nj{l:List Nat}{n:Nat}(nd:l.Nodup)(s:∀j∈l,∃i,j=i+1/\i<n):l.length<=n:=by
 by_cases h:l.length<=n
 ·exact h
 ·have p:=gW (m:=(List.range n).map (·+1)) nd (λj hj=>by obtain⟨i,rfl,hi⟩:=s j hj;exact aaN.mpr ⟨i,abl.mpr hi,rfl⟩) (by rw[aak,ace];omega)
  have:=p.length_eq
  rw[aak,ace] at this;omega
theorem rE{ps:List (Str×Str)}{zs:List Str}(h:closed ps zs=true){p:Str×Str}(hp:p∈ps)(h1:p.1∈zs):p.2∈zs:=by
 unfold closed at h;rw[abG,aca] at h
 have:=h p hp
 simp only[abh,abG,abi,abD,not_and,agi] at this;exact this h1
theorem yx{ns xs ys:List Str}(nn:ns.Nodup)(nx:xs.Nodup)(ny:ys.Nodup)(sx:∀z∈xs,z∈ns)(sy:∀z∈ys,z∈ns)(h:bS ns xs ys=false):(∀z∈xs,z∉ys)\/(∀z∈xs,z∈ys)\/(∀z∈ys,z∈xs)\/(∀z∈ns,z∈xs\/z∈ys):=by
 have mb:∀z,z∈both ns xs ys ↔ z∈ns/\z∈xs/\z∈ys:=λz=>by simp[both,aaU]
 have me:∀z,z∈either ns xs ys ↔ z∈ns/\(z∈xs\/z∈ys):=λz=>by simp[either,aaU]
 have nb:(both ns xs ys).Nodup:=nn.filter _;by_cases c1:1<=(both ns xs ys).length
 ·by_cases c2:(either ns xs ys).length<ns.length
  ·have c3:¬ (both ns xs ys).length<min xs.length ys.length:=λq=>by unfold bS at h;rw[decide_eq_true c1,decide_eq_true q,decide_eq_true c2] at h;cases h
   by_cases c4:xs.length<=(both ns xs ys).length
   ·exact .inr (.inl λz hz=>((mb z).mp (g7 nb (λy hy=>((mb y).mp hy).2.1) c4 z hz)).2.2)
   ·exact .inr (.inr (.inl λz hz=>((mb z).mp (g7 nb (λy hy=>((mb y).mp hy).2.2) (by omega) z hz)).2.1))
  ·exact .inr (.inr (.inr λz hz=>((me z).mp (g7 (show(either ns xs ys).Nodup from nn.filter _) (λy hy=>((me y).mp hy).1) (by omega) z hz)).2))
 ·refine .inl λz hx hy=>c1 ?_;exact abR ((mb z).mpr ⟨sx z hx,hx,hy⟩)
theorem sW{ns ms:List Str}{z0:Str}{zs:List Str}(e:aF ms=ns)(s:∀z∈zs,z∈ns)(z:Str):z∈jA ms z0 zs ↔ z∈ns/\(if z0∈zs then z∉zs else z∈zs):=by
 unfold jA;by_cases h:z0∈zs
 ·rw[if_pos h,if_pos h,e,aaU];simp
 ·rw[if_neg h,if_neg h];exact⟨λq=>⟨s z q,q⟩,λq=>q.2⟩
theorem j6{ms:List Str}{z0:Str}{zss:List (List Str)}{i:Nat}(hi:i<zss.length):bX (aM ms z0 zss) i=jA ms z0 zss[i]:=by refine bP ?_;unfold aM;rw[aaq,aam hi];rfl
theorem eY{ms:List Str}{z0:Str}{zss:List (List Str)}:(aM ms z0 zss).length=zss.length:=by unfold aM;rw[aak]
theorem Nk{ns ms:List Str}{ps:List (Str×Str)}{zss:List (List Str)}{z0:Str}(g:GoodW ns ps)(hh:fY ns ps)(f:rB ns ps zss)(e:aF ms=ns)(h0:z0∈ns):rC (aM ms z0 zss):=by
 have nn:=g.good.nd;have C:∀{i:Nat} (hi:i<zss.length),dw ns ps zss[i]:=λhi=>f.jv _ (abd hi);have M:∀{i:Nat} (hi:i<zss.length) (z:Str),z∈bX (aM ms z0 zss) i ↔ z∈ns/\(if z0∈zss[i] then z∉zss[i] else z∈zss[i]):=λhi z=>by rw[j6 hi];exact sW e (C hi).aU.ins z
 have X:∀{i j:Nat} (hi:i<zss.length) (hj:j<zss.length),i≠j->bS ns zss[i] zss[j]=false:=λ{i j} hi hj n=>by
  rcases Nat.lt_or_gt_of_ne n with q|q
  ·exact abj.mp f.un i j hi hj q
  ·rw[oZ];exact abj.mp f.un j i hj hi q
 refine⟨λi hi=>?_,λi hi=>?_,λi j hi hj=>?_,λi j hi hj h=>?_⟩
 ·rw[eY] at hi;rw[j6 hi];unfold jA;split
  ·exact(nI (by rw[<-e] at nn;exact(fe ms).nodup_iff.mp nn)).filter _
  ·exact(C hi).aU.nd
 ·rw[eY] at hi;intro q;have em:∀z,z∉bX (aM ms z0 zss) i:=λz h=>by rw[q] at h;exact nomatch h
  by_cases c:z0∈zss[i]
  ·have:=gF nn (λz hz=>adz λn=>em z ((M hi z).mpr ⟨hz,by rw[if_pos c];exact n⟩))
   have:=(C hi).less
   omega
  ·obtain⟨z,hz⟩:=abp _ (C hi).aU.some;exact em z ((M hi z).mpr ⟨(C hi).aU.ins z hz,by rw[if_neg c];exact hz⟩)
 ·rw[eY] at hi hj;by_cases n:i=j
  ·subst n;exact .inr (.inl λ_ h=>h)
  have cc:=yx nn (C hi).aU.nd (C hj).aU.nd (C hi).aU.ins (C hj).aU.ins (X hi hj n);simp only[M hi,M hj];by_cases ci:z0∈zss[i]<;>by_cases cj:z0∈zss[j]<;>simp only[ci,cj,aa4,aa3]
  ·rcases cc with a|b|c|d
   ·exact absurd cj (a z0 ci)
   ·exact .inr (.inr λz h=>⟨h.1,λq=>h.2 (b z q)⟩)
   ·exact .inr (.inl λz h=>⟨h.1,λq=>h.2 (c z q)⟩)
   ·exact .inl λz h k=>(d z h.1).elim h.2 k.2
  ·rcases cc with a|b|c|d
   ·exact .inr (.inr λz h=>⟨h.1,λq=>a z q h.2⟩)
   ·exact absurd (b z0 ci) cj
   ·exact .inl λz h k=>h.2 (c z k.2)
   ·exact .inr (.inl λz h=>⟨h.1,(d z h.1).resolve_left h.2⟩)
  ·rcases cc with a|b|c|d
   ·exact .inr (.inl λz h=>⟨h.1,λq=>a z h.2 q⟩)
   ·exact .inl λz h k=>k.2 (b z h.2)
   ·exact absurd (c z0 cj) ci
   ·exact .inr (.inr λz h=>⟨h.1,(d z h.1).resolve_right h.2⟩)
  ·rcases cc with a|b|c|d
   ·exact .inl λz h k=>a z h.2 k.2
   ·exact .inr (.inl λz h=>⟨h.1,b z h.2⟩)
   ·exact .inr (.inr λz h=>⟨h.1,c z h.2⟩)
   ·exact absurd (d z0 h0) (by simp[ci,cj])
 ·rw[eY] at hi hj;simp only[M hi,M hj] at h;have eqs:(∀z∈ns,z∈zss[i] ↔ z∈zss[j])->i=j:=λq=>by
   have ex:∀z,z∈zss[i] ↔ z∈zss[j]:=λz=>⟨λk=>(q z ((C hi).aU.ins z k)).mp k,λk=>(q z ((C hj).aU.ins z k)).mpr k⟩
   have pe:zss[i].Perm zss[j]:=yX (C hi).aU.nd (C hj).aU.nd ex;have el:zss[i]=zss[j]:=by rw[<-(C hi).aU.rise,<-(C hj).aU.rise];exact gX pe
   rcases acb i j with q'|q'|q'
   ·exact absurd el (abj.mp f.nd i j hi hj q')
   ·exact q'
   ·exact absurd el.symm (abj.mp f.nd j i hj hi q')
  have Sb:(∀z∈ns,z∈zss[i] ↔ z∉zss[j])->False:=λq=>by
   obtain⟨a,ha⟩:=abp _ (C hi).aU.some;obtain⟨b,hb⟩:=abp _ (C hj).aU.some;have Ys:=(C hi).aU.ins a ha;have inb:=(C hj).aU.ins b hb;have r:=hh a Ys b inb;have st:=r.stays (S:=(·∈zss[i])) ha λp hp h1=>by
    unfold eg at hp;rcases aaD.mp hp with k|k
    ·exact rE (C hi).aU.aU k h1
    ·obtain⟨x,y⟩:=p;have k':=fg.mp k;by_cases c:y∈zss[i]
     ·exact c
     ·exfalso;have Yt:=(g.ins _ k').1;have yj:y∈zss[j]:=adz λz=>c ((q y Yt).mpr z);have xj:=rE (C hj).aU.aU k' yj;exact(q x ((C hi).aU.ins x h1)).mp h1 xj
   exact(q b inb).mp st hb
  by_cases ci:z0∈zss[i]<;>by_cases cj:z0∈zss[j]<;>simp only[ci,cj,aa4,aa3] at h
  ·refine eqs λz hz=>?_
   have:=h z
   by_cases a:z∈zss[i]<;>by_cases b:z∈zss[j]<;>simp_all
  ·exfalso;refine Sb λz hz=>?_
   have:=h z
   by_cases a:z∈zss[i]<;>by_cases b:z∈zss[j]<;>simp_all
  ·exfalso;refine Sb λz hz=>?_
   have:=h z
   by_cases a:z∈zss[i]<;>by_cases b:z∈zss[j]<;>simp_all
  ·refine eqs λz hz=>?_
   have:=h z
   by_cases a:z∈zss[i]<;>by_cases b:z∈zss[j]<;>simp_all
open PySem PySem.Spec PyProof.Rows L2
theorem dZ{ps:List (Str×Str)}{zs:List Str}:closed ps zs=true ↔ ∀p∈ps,p.1∈zs->p.2∈zs:=by
 unfold closed;rw[abG,aca];constructor
 ·intro h p hp h1
  have:=h p hp
  by_cases q:p.2∈zs
  ·exact q
  ·simp[h1,q] at this
 ·intro h p hp;by_cases h1:p.1∈zs
  ·simp[h p hp h1]
  ·simp[h1]
theorem mR{ns xs ys:List Str}{z:Str}:z∈both ns xs ys ↔ z∈ns/\z∈xs/\z∈ys:=by simp[both]
theorem iL{ns xs ys:List Str}{z:Str}:z∈either ns xs ys ↔ z∈ns/\(z∈xs\/z∈ys):=by simp[either]
theorem kT{ns:List Str}(h:aF ns=ns)(f:Str->Bool):aF (ns.filter f)=ns.filter f:=
 (ja (.refl _) ((h▸lD ns).sublist List.filter_sublist)).symm
theorem Kp{ns xs ys:List Str}{ps:List (Str×Str)}(g:GoodW ns ps)(r:aF ns=ns)(hx:dw ns ps xs)(hy:dw ns ps ys)(c:bS ns xs ys=true):dw ns ps (both ns xs ys):=by
 unfold bS at c;simp only[abh,abi] at c;refine⟨⟨kT r _,g.good.nd.filter _,λz hz=>(mR.mp hz).1,λe=>?_,dZ.mpr λp hp h=>?_⟩,?_⟩
 ·rw[e] at c;exact absurd c.1.1 (by decide)
 ·obtain⟨h1,h2,h3⟩:=mR.mp h;exact mR.mpr ⟨(g.ins p hp).2,dZ.mp hx.aU.aU p hp h2,dZ.mp hy.aU.aU p hp h3⟩
 ·have:=hx.less
  have:=c.1.2
  omega
theorem Ej{ns xs ys:List Str}{ps:List (Str×Str)}(g:GoodW ns ps)(r:aF ns=ns)(hx:dw ns ps xs)(hy:dw ns ps ys)(c:bS ns xs ys=true):dw ns ps (either ns xs ys):=by
 unfold bS at c;simp only[abh,abi] at c;refine⟨⟨kT r _,g.good.nd.filter _,λz hz=>(iL.mp hz).1,λe=>?_,dZ.mpr λp hp h=>?_⟩,c.2⟩
 ·obtain⟨z,hz⟩:=abp _ hx.aU.some
  have:z∈either ns xs ys:=iL.mpr ⟨hx.aU.ins z hz,.inl hz⟩
  rw[e] at this;exact nomatch this
 ·obtain⟨h1,h2⟩:=iL.mp h;exact iL.mpr ⟨(g.ins p hp).2,h2.imp (dZ.mp hx.aU.aU p hp) (dZ.mp hy.aU.aU p hp)⟩
theorem Kq{ns xs ys:List Str}{ps:List (Str×Str)}(g:GoodW ns ps)(hx:dw ns ps xs)(hy:dw ns ps ys):ent ps [both ns xs ys,either ns xs ys]=ent ps [xs,ys]:=by unfold ent;refine aeu λp hp=>?_;have i:=g.ins p hp;have cx:=dZ.mp hx.aU.aU p hp;have cy:=dZ.mp hy.aU.aU p hp;simp only[ack,adU,mN,mR,iL,i.1,i.2,true_and];by_cases a:p.1∈xs<;>by_cases b:p.2∈xs<;>by_cases c:p.1∈ys<;>by_cases d:p.2∈ys<;>simp[a,b,c,d]<;>first|exact absurd (cx a) b|exact absurd (cy c) d|skip
theorem afr(f:List Str->Nat):∀{l:List (List Str)} {i:Nat} {x a:List Str},l[i]?=some x->((l.set i a).map f).sum+f x=(l.map f).sum+f a
 |y::l,0,x,a,h=>by cases h;simp;omega
 |y::l,i+1,x,a,h=>by
  have:=afr f (l:=l) (i:=i) (a:=a) (by simpa using h)
  simp only[List.set_cons_succ,aaQ,acU];omega
theorem zM(f:List Str->Nat){l:List (List Str)}{i j:Nat}{x y a b:List Str}(ij:i≠j)(hi:l[i]?=some x)(hj:l[j]?=some y):(((l.set i a).set j b).map f).sum+f x+f y=(l.map f).sum+f a+f b:=by have e1:=afr f (a:=a) hi;have e2:=afr f (l:=l.set i a) (i:=j) (x:=y) (a:=b) (by rw[acf ij];exact hj);omega
theorem sY(f:List Str->Bool):∀l:List (List Str),l.countP f=(l.map λx=>if f x=true then 1 else 0).sum
 |[]=>rfl
 |x::l=>by rw[ack,aaQ,acU,sY f l];omega
def lQ(zss:List (List Str)):Nat:=(zss.map λzs=>zs.length*zs.length).sum
section
variable {ns:List Str}{ps:List (Str×Str)}{zss:List (List Str)}{p:Nat×Nat}{xs ys:List Str}
theorem Bt(g:GoodW ns ps)(lt:p.1<p.2)(hx:zss[p.1]?=some xs)(hy:zss[p.2]?=some ys)(cx:dw ns ps xs)(cy:dw ns ps ys):ent ps (ck ns zss p)=ent ps zss:=by
 have e:=Kq g cx cy;unfold ck;rw[bP hx,bP hy];unfold ent at e⊢;refine aeu λq hq=>?_;have e1:[both ns xs ys,either ns xs ys].countP (mN q)=[xs,ys].countP (mN q):=by obtain⟨i,hi,rfl⟩:=aa7 hq;have h1:=congrArg (λl=>l[i]?) e;simpa [hi] using h1
 rw[sY,sY] at e1⊢;have e2:=zM (λx=>if mN q x=true then 1 else 0) (a:=both ns xs ys) (b:=either ns xs ys) (aaG lt) hx hy;simp only[aaQ,adD,acU,List.sum_nil] at e1;omega
theorem Kr(a b c:Nat)(hb:0<b)(hc:0<c):(a+b)*(a+b)+(a+c)*(a+c)<a*a+(a+b+c)*(a+b+c):=by
 have e:a*a+(a+b+c)*(a+b+c)=(a+b)*(a+b)+(a+c)*(a+c)+2*(b*c):=by simp only[Nat.mul_add,Nat.add_mul];have h1:=adC b a;have h2:=adC c a;have h3:=adC c b;omega
 have:=Nat.mul_pos hb hc
 omega
theorem Ek(nn:ns.Nodup)(lt:p.1<p.2)(hx:zss[p.1]?=some xs)(hy:zss[p.2]?=some ys)(cx:dw ns ps xs)(cy:dw ns ps ys)(c:bS ns xs ys=true):lQ zss<lQ (ck ns zss p):=by
 have b1:=mL (ys:=ys) nn cx.aU.nd cx.aU.ins;have b2:=mL (ys:=xs) nn cy.aU.nd cy.aU.ins;rw[nW] at b2;have b3:=qV nn cx.aU.nd cy.aU.nd cx.aU.ins cy.aU.ins;unfold bS at c;simp only[abh,abi] at c;have e2:=zM (λx=>x.length*x.length) (a:=both ns xs ys) (b:=either ns xs ys) (aaG lt) hx hy;unfold ck lQ;rw[bP hx,bP hy];have m:=Kr (both ns xs ys).length (alone xs ys).length (alone ys xs).length (by omega) (by omega);have f1:xs.length=(both ns xs ys).length+(alone xs ys).length:=b1.symm;have f2:ys.length=(both ns xs ys).length+(alone ys xs).length:=b2.symm;have f3:(either ns xs ys).length=(both ns xs ys).length+(alone xs ys).length+(alone ys xs).length:=by rw[b3,f1]
 rw[<-f1,<-f2,<-b3] at m;have nF:(((zss.set p.1 (both ns xs ys)).set p.2 (either ns xs ys)).map λx=>x.length*x.length).sum+xs.length*xs.length+ys.length*ys.length=(zss.map λx=>x.length*x.length).sum+(both ns xs ys).length*(both ns xs ys).length+(either ns xs ys).length*(either ns xs ys).length:=e2;omega
theorem Bu(g:GoodW ns ps)(r:aF ns=ns)(all:∀zs∈zss,dw ns ps zs)(hx:zss[p.1]?=some xs)(hy:zss[p.2]?=some ys)(c:bS ns xs ys=true):∀zs∈ck ns zss p,dw ns ps zs:=λzs hz=>by
 have cx:=all xs (aat hx);have cy:=all ys (aat hy);unfold ck at hz;rw[bP hx,bP hy] at hz;rcases adA hz with h1|rfl
 ·rcases adA h1 with h2|rfl
  ·exact all zs h2
  ·exact Kp g r cx cy c
 ·exact Ej g r cx cy c
end
theorem El{m:Nat}:∀{zss:List (List Str)},(∀zs∈zss,zs.length<m)->lQ zss<=zss.length*(m*m)
 |[],_=>by simp[lQ]
 |z::zss,h=>by have a:=El λy hy=>h y (aaw _ hy);have b:=h z aau;have c:z.length*z.length<=m*m:=acx (by omega) (by omega);unfold lQ at a⊢;rw[aaQ,acU,aa0,aeC];omega
section
variable {ns:List Str}
def dY(ns:List Str):List (List Str)->List (Nat×Nat)->Option (List (List Str))
 |z,[]=>some z
 |z,p::r=>if p.1<p.2/\p.2<z.length/\fQ ns z p=true then dY ns (ck ns z p) r else none
theorem rF{z:List (List Str)}{p:Nat×Nat}{r:List (Nat×Nat)}{z':List (List Str)}(h:dY ns z (p::r)=some z'):(p.1<p.2/\p.2<z.length/\fQ ns z p=true)/\dY ns (ck ns z p) r=some z':=by
 rw[dY] at h;by_cases c:p.1<p.2/\p.2<z.length/\fQ ns z p=true
 ·rw[if_pos c] at h;exact⟨c,h⟩
 ·rw[if_neg c] at h;cases h
theorem oj:∀{a b:List (Nat×Nat)} {z z1:List (List Str)},dY ns z a=some z1->dY ns z (a++b)=dY ns z1 b
 |[],b,z,z1,h=>by cases h;rfl
 |p::a,b,z,z1,h=>by obtain⟨c,h'⟩:=rF h;rw[List.cons_append,dY,if_pos c];exact oj h'
def iM(ns:List Str):List (Nat×Nat)->List (List Str)->List (List Str)×List (Nat×Nat)
 |[],z=>(z,[])
 |p::L,z=>if fQ ns z p=true then ((iM ns L (ck ns z p)).1,p::(iM ns L (ck ns z p)).2) else iM ns L z
theorem zN{p:Nat×Nat}{L:List (Nat×Nat)}{z:List (List Str)}(h:fQ ns z p=true):iM ns (p::L) z=((iM ns L (ck ns z p)).1,p::(iM ns L (ck ns z p)).2):=by rw[iM,if_pos h]
theorem zO{p:Nat×Nat}{L:List (Nat×Nat)}{z:List (List Str)}(h:¬ fQ ns z p=true):iM ns (p::L) z=iM ns L z:=by rw[iM,if_neg h]
theorem om:∀{L:List (Nat×Nat)} {z:List (List Str)},(∀p∈L,p.1<p.2/\p.2<z.length)->dY ns z (iM ns L z).2=some (iM ns L z).1
 |[],z,_=>rfl
 |p::L,z,h=>by
  by_cases c:fQ ns z p=true
  ·rw[zN c];have hp:=h p aau;show dY ns z (p::(iM ns L (ck ns z p)).2)=some (iM ns L (ck ns z p)).1
   rw[dY,if_pos ⟨hp.1,hp.2,c⟩];exact om λq hq=>by rw[kO];exact h q (aaw _ hq)
  ·rw[zO c];exact om λq hq=>h q (aaw _ hq)
theorem kU{ps:List (Str×Str)}(g:GoodW ns ps)(r:aF ns=ns):∀{s:List (Nat×Nat)} {z z':List (List Str)},dY ns z s=some z'->(∀zs∈z,dw ns ps zs) ->
  (∀zs∈z',dw ns ps zs)/\z'.length=z.length/\ent ps z'=ent ps z/\lQ z+s.length<=lQ z'
 |[],z,z',h,all=>by cases h;exact⟨all,rfl,rfl,aal _⟩
 |p::s,z,z',h,all=>by
  obtain⟨⟨lt,ln,c⟩,h'⟩:=rF h;have e1:z[p.1]?=some (z[p.1]'(by omega)):=aam _;have e2:z[p.2]?=some z[p.2]:=aam _;have cr:bS ns (z[p.1]'(by omega)) z[p.2]=true:=by unfold fQ at c;rw[bP e1,bP e2] at c;exact c
  have i1:=all _ (aat e1);have i2:=all _ (aat e2);obtain⟨a1,a2,a3,a4⟩:=kU g r h' (Bu g r all e1 e2 cr);have b1:=Ek g.good.nd lt e1 e2 i1 i2 cr;exact⟨a1,by rw[a2,kO],by rw[a3,Bt g lt e1 e2 i1 i2],by rw[aa0];omega⟩
def cU(ns:List Str)(z:List (List Str)):List (List Str)×List (Nat×Nat):=iM ns (de z.length z.length) z
theorem kW(z:List (List Str)):dY ns z (cU ns z).2=some (cU ns z).1:=om λp hp=>by obtain⟨_,b,c⟩:=jW hp;exact⟨b,c⟩
inductive kB (ns:List Str):List (List Str)->List (List Str)->List (Nat×Nat)->Prop
 |stop {z:List (List Str)}:(cU ns z).2=[]->kB ns z (cU ns z).1 []
 |more {z z':List (List Str)} {s:List (Nat×Nat)}:(cU ns z).2≠[]->kB ns (cU ns z).1 z' s->kB ns z z' ((cU ns z).2++s)
theorem kB.det{z a:List (List Str)}{s:List (Nat×Nat)}(h:kB ns z a s):∀{b:List (List Str)} {t:List (Nat×Nat)},kB ns z b t->a=b/\s=t:=by
 induction h with
 |stop e=>
  intro b t k;cases k with
  |stop _=>exact⟨rfl,rfl⟩
  |more n _=>exact absurd e n
 |more n _ ih=>
  intro b t k;cases k with
  |stop e=>exact absurd e n
  |more _ k' =>obtain⟨e1,e2⟩:=ih k';exact⟨e1,by rw[e2]⟩
end
abbrev oo:Stmt:=top 53 -- aab
abbrev xG:Stmt:=top 54 -- Sd
section
variable {P:Program}{w:World}{K:PySem.W.Frag}{mg:Str->Option Value}{base:Heap}
variable {C fP fS fA eJ dQ fB fO fR gB fF ku uI IC:Addr}{fdP bJ cO cX cK fI fJ gC dN eU iK n0 Bv:FuncData}
def zP(C:Addr):Sp:=λvs H Q _=>∃(x l:Addr) (ms:List Str) (ps:List (Str×Str)) (us:List Addr) (zss:List (List Str)),vs=[.ref x,.ref l]/\a8 C H x ms ps/\ms.length<=12/\H l=some (.lst (us.map V.ref))/\aP H us zss/\us.length<=100 /\
 ∀r h q us' ts H',H' r=some (.tup [.ref h,.ref q])->H' h=some (.lst (us'.map V.ref))->aP H' us' (cU (aF ms) zss).1->H' q=some (.lst (ts.map V.ref))->bN H' ts (cU (aF ms) zss).2->(h=l\/H h=none)->H q=none->h≠q->au H H'->Q (.ref r) H'
abbrev Yu:List Str:=["web","family","steps","i","j"]
theorem xH:aG Yu ["web","family"] (ak oo):=⟨rfl,rfl,rfl,by decide +kernel,rfl,by decide +kernel,by decide +kernel⟩
def Yv(x l q:Addr)(ns:List Str)(zss:List (List Str))(H H1:Hp)(i:Nat)(σ:L2.St)(H2:Hp):Prop:=
 ∃(h:Addr) (v3 v4:Option V) (us ts:List Addr) (z:List (List Str)) (s:List (Nat×Nat)),σ=[some (.ref x),some (.ref h),some (.ref q),v3,v4]/\cb q H1 H2/\H2 h=some (.lst (us.map V.ref))/\aP H2 us z/\z.length=zss.length/\H2 q=some (.lst (ts.map V.ref))/\bN H2 ts s/\s.length<=i/\(h=l\/H h=none)/\h≠q /\
  iM ns (de zss.length zss.length) zss=((iM ns ((de zss.length zss.length).drop i) z).1,s++(iM ns ((de zss.length zss.length).drop i) z).2)
theorem Gb{f:Addr}{fd:FuncData}(F:a7 K "swept" "swept" oo f fd)(M:Mt K mg C fP fS fdP bJ)(DB:Df K mg "had_by_both" nX gK fB fI)(DO:Df K mg "had_by_one" nY gK fO fJ)(DA:Df K mg "are_crossing" wO ["web","cut","other"] fR gC)(DP:Df K mg "pairs_of" gZ ["many"] ku iK)(DH:Df K mg "behind" iV ["web","family","i","j"] uI n0)(T:bt mg):av P w K mg base aB 4 f fd ["web","family"] (zP C):=by
 have GP:av P w K mg base aB 1 ku iK ["many"] oJ:=p9 DP.fn T;have GA:av P w K mg base aB 3 fR gC ["web","cut","other"] (qZ C):=q0 DA.fn M DB DO T;have GB:av P w K mg base aB 3 uI n0 ["web","family","i","j"] (qa C):=uJ DH.fn M DB DO T;refine F.ok xH (λvs H Q E h=>?_) (λcdv A outer s H vs Q E hr h=>?_)
 ·obtain⟨x,l,ms,ps,us,zss,rfl,_⟩:=h;rfl
 ·obtain⟨x,l,ms,ps,us,zss,rfl,hW,lm,hl,hC,lu,k⟩:=h;have h1:=hr.mono (j:=1) (by decide);refine⟨_,ag (aN (i:=2) xH.nd rfl (Or.inl rfl) (bR ae))
   (ag (cJ aaW rfl (bg (ar GP h1 rfl DP.aK DP.fn.kp DP.b .nil ax (aa (ay aA (by rfl) T.len aax (aa (pv 1) ae)) ae))) (cI rfl (aO (aD (i:=3) xH.nd rfl (Or.inl rfl)) (aO (aD (i:=4) xH.nd rfl (Or.inl rfl)) cg)))
    (ao (bu (bG (ar GA hr rfl DA.aK DA.fn.kp DA.b .nil ax (aa (pv 0) (aa (bj aX (pv 1) (pv 3) (λ_ _=>rfl)) (aa (bj aX (pv 1) (pv 4) (λ_ _=>rfl)) ae)))) (λ_=>rfl))
     (ag (aN (i:=1) xH.nd rfl (Or.inl rfl) (ar GB hr rfl DH.aK DH.fn.kp DH.b .nil ax (aa (pv 0) (aa (pv 1) (aa (pv 3) (aa (pv 4) ae))))))
     (ao (aW (cT aaJ aaO aaP bH (pv 2) (aa (c7 (aa (pv 3) (aa (pv 4) ae))) ae))))) aT)))
   (ao (aI (c7 (aa (pv 1) (aa (pv 2) ae)))))),?_⟩
  try rw[bw]
  have lz:us.length=zss.length:=hC.len;refine⟨(by decide),λq hq=>?_⟩;have s0:=ai (o:=.lst []) hq;have qM:=af (H:=H) (a:=q) (o:=.lst []);refine⟨_,rfl,l,_,rfl,.inl (aj.of (s0 _ _ hl)),us.length,by simp,lu,λt tt H1 ht Se o6 s1=>⟨t,rfl,⟨_,aj.of Se⟩,?_⟩⟩;generalize upd H q (.lst [])=H0 at s0 qM ht s1;rw[lz] at o6;have s01:=s0.trans s1;have Em:t≠q:=λe=>by rw[e,qM] at ht;cases ht
  have Mx:l≠q:=aw hl hq;have lT:tt.length=(de zss.length zss.length).length:=o6.len;have lb:(de zss.length zss.length).length<=10000:=aap (jV _ _) (aap (acx (by omega) (by omega):_<=100*100) (by decide));refine fb (K:=K) (xs:=tt.map V.ref) (Yv x l q (aF ms) zss H H1) ⟨l,_,_,us,[],zss,[],rfl,cb.refl q H1,s01 _ _ hl,hC.same s01,rfl,s1 _ _ qM,.nil,aal _,.inl rfl,Mx,by simp⟩ ?_ ?_ ?_
  ·rintro i σ H2 _ ⟨h,v3,v4,us2,ts,z,st,rfl,b2,_⟩;exact aj.of (b2 _ _ Se Em)
  ·rintro i y σ H2 hy ⟨h,v3,v4,us2,ts,z,st,rfl,b2,hh,xI,ez,fv,hP2,ls,fr,Nl,eq⟩;rw[aaq] at hy;obtain⟨u,eu,rfl⟩:=aar.mp hy;obtain⟨p,ep,hu⟩:=o6.get eu;obtain⟨m1,m2,m3⟩:=jW (aat ep);have il:i<(de zss.length zss.length).length:=(aaH.mp ep).1;have Yw:H2 u=some (.tup [.int (p.1:Nat),.int (p.2:Nat)]):=b2 _ _ hu (cF (H:=H1) hu (s1 _ _ qM) (by intro z;cases z));have ed:(de zss.length zss.length).drop i=p::(de zss.length zss.length).drop (i+1):=by obtain⟨hi,e⟩:=aaH.mp ep;rw[<-e];exact List.drop_eq_getElem_cons hi
   rw[ed] at eq;have W2:a8 C H2 x ms ps:=(hW.same s01).but b2 (s1 _ _ qM);have l2:us2.length=z.length:=xI.len;have b1:p.1<us2.length:=by omega
   have Nm:p.2<us2.length:=by omega
   have e1:us2[p.1]?=some us2[p.1]:=aam b1;have e2:us2[p.2]?=some us2[p.2]:=aam Nm;have a1:eF (us2.map V.ref) ((p.1:Nat):Int)=some (.ref us2[p.1]):=bc (j:=p.1) (by simp[b1]);have a2:eF (us2.map V.ref) ((p.2:Nat):Int)=some (.ref us2[p.2]):=bc (j:=p.2) (by simp[Nm]);obtain⟨xs,ex,hx⟩:=xI.get e1;obtain⟨zs,Yx,hz⟩:=xI.get e2;have ec:bS (aF ms) xs zs=fQ (aF ms) z p:=by unfold fQ;rw[bP ex,bP Yx]
   refine⟨u,_,rfl,aL.of Yw,rfl,_,_,rfl,_,_,rfl,rfl,?_⟩;refine⟨_,rfl,_,rfl,_,rfl,h,_,_,_,rfl,rfl,aj.of hh,a1,_,rfl,_,rfl,h,_,_,_,rfl,rfl,aj.of hh,a2,?_⟩;refine⟨x,us2[p.1],us2[p.2],ms,xs,zs,ps,rfl,W2,lm,hx,hz,λH3 s3=>⟨_,rfl,?_⟩⟩;rw[ec];by_cases hb:fQ (aF ms) z p=true
   ·rw[hb];rw[zN hb] at eq;have s23:=s3;refine bo ⟨_,rfl,_,rfl,_,rfl,_,rfl,x,h,ms,ps,us2,z,p,rfl,W2.same s3,lm,s3 _ _ hh,xI.same s3,m2,Nm,λh' t' H4 En Yy hC4 s4=>?_⟩;have s24:=s3.trans s4;have lG:=s24 _ _ fv;have Gd:h'≠q:=λe=>by rw[e] at En;rw[s3 _ _ fv] at En;cases En
    refine⟨_,rfl,.inl ⟨rfl,_,aj.of lG⟩,_,rfl,_,rfl,(show 2<=sizeLine by decide),λpp uH=>?_⟩;have s5:=ai (o:=.tup [.int (p.1:Nat),.int (p.2:Nat)]) uH;have Nn:=af (H:=H4) (a:=pp) (o:=.tup [.int (p.1:Nat),.int (p.2:Nat)]);generalize upd H4 pp (.tup [.int (p.1:Nat),.int (p.2:Nat)])=H5 at s5 Nn⊢;have gJ:=s5 _ _ lG;refine⟨q,_,_,rfl,rfl,gJ,by rw[aak,hP2.len];exact abJ (by omega:st.length<=10000) (by decide),?_⟩;have mv:∀t xs,H5 t=some (.tup xs)->(upd H5 q (.lst (ts.map V.ref++[.ref pp]))) t=some (.tup xs):=λt xs e=>by rw[L2.aq (cF e gJ (by intro z;cases z))];exact e
    refine⟨h',_,_,t',ts++[pp],ck (aF ms) z p,st++[p],rfl,λc o e n=>?_,by rw[L2.aq Gd];exact s5 _ _ Yy,(hC4.same s5).mono mv,by rw[kO];exact ez,by rw[af];simp,bN.snoc (((hP2.same s24).same s5).mono mv) (mv _ _ Nn),by rw[aaM];simp;omega,?_,Gd,?_⟩
    ·rw[L2.aq n];exact s5 _ _ (s24 _ _ (b2 c o e n))
    ·refine .inr ?_;cases e:H h' with
     |none=>rfl
     |some o =>have n:h'≠q:=Gd;have z3:=s3 _ _ (b2 _ _ (s01 _ _ e) n);rw[z3] at En;cases En
    ·rw[eq];simp
   ·have Yz:fQ (aF ms) z p=false:=by simpa using hb
    rw[Yz];rw[zO hb] at eq;exact aZ ⟨h,_,_,us2,ts,z,st,rfl,λc o e n=>s3 _ _ (b2 c o e n),s3 _ _ hh,xI.same s3,ez,s3 _ _ fv,hP2.same s3,by omega,fr,Nl,eq⟩
  ·rintro σ H2 ⟨h,v3,v4,us2,ts,z,st,rfl,b2,hh,xI,ez,fv,hP2,ls,fr,Nl,eq⟩;rw[aak,lT,List.drop_of_length_le (aal _)] at eq;have es:cU (aF ms) zss=(z,st):=by unfold cU;rw[eq];simp[iM]
   have s2:au H H2:=λc o e=>b2 c o (s01 c o e) (aw e hq);refine⟨_,rfl,_,rfl,(show 2<=sizeLine by decide),λr hr'=>?_⟩;have s3:=ai (o:=.tup [.ref h,.ref q]) hr';exact k r h q us2 ts _ af (s3 _ _ hh) (by rw[es];exact xI.same s3) (s3 _ _ fv) (by rw[es];exact hP2.same s3) fr hq Nl (s2.trans s3)
def ID(C:Addr):Sp:=λvs H Q _=>∃(x l:Addr) (ns ms:List Str) (ps:List (Str×Str)) (us:List Addr) (zss:List (List Str)),vs=[.ref x,.ref l]/\Dr C H x l ns ms ps us zss/\aF ns=ns/\GoodW ns ps /\
 ∀r h q us' ts z s H',H r=none->H' r=some (.tup [.ref h,.ref q])->H' h=some (.lst (us'.map V.ref))->aP H' us' z->H' q=some (.lst (ts.map V.ref))->bN H' ts s->H h=none->H q=none->h≠q->kB ns zss z s->au H H'->Q (.ref r) H'
abbrev YA:List Str:=["web","family","after","more","steps"]
theorem sZ:aG YA ["web","family"] (ak xG):=⟨rfl,rfl,rfl,by decide +kernel,rfl,by decide +kernel,by decide +kernel⟩
def Sf(x l:Addr)(ns:List Str)(zss:List (List Str))(B:Nat)(H:Hp)(m:Nat)(σ:L2.St)(H2:Hp):Prop:=
 ∃(h mo st:Addr) (us tm ts:List Addr) (z:List (List Str)) (mS acc:List (Nat×Nat)),σ=[some (.ref x),some (.ref l),some (.ref h),some (.ref mo),some (.ref st)]/\au H H2/\H2 h=some (.lst (us.map V.ref))/\aP H2 us z/\H2 mo=some (.lst (tm.map V.ref))/\bN H2 tm mS/\H2 st=some (.lst (ts.map V.ref))/\bN H2 ts acc/\H h=none/\H st=none/\h≠st /\
  dY ns zss acc=some z/\(mS=[]->kB ns zss z acc)/\(mS≠[]->∀z' s',kB ns z z' s'->kB ns zss z' (acc++s'))/\m=if mS=[] then 0 else B+1-lQ z
theorem Np{f:Addr}{fd:FuncData}(F:a7 K "uncrossed" "uncrossed" xG f fd)(D:Xd K mg C fP fS fA eJ dQ fB fO fR gB fF fdP bJ cO cX cK fI fJ gC dN eU)(DP:Df K mg "pairs_of" gZ ["many"] ku iK)(DH:Df K mg "behind" iV ["web","family","i","j"] uI n0)(DS:Df K mg "swept" oo ["web","family"] IC Bv)(T:bt mg):av P w K mg base aB 6 f fd ["web","family"] (ID C):=by
 have GF:av P w K mg base aB 5 fF eU ["web","family"] (iJ C):=ik D.f.fn D.cd D.cc T;have GS:av P w K mg base aB 4 IC Bv ["web","family"] (zP C):=Gb DS.fn D.cd.m D.b D.o D.r DP DH T;refine F.ok sZ (λvs H Q E h=>?_) (λcdv A outer s H vs Q E hr h=>?_)
 ·obtain⟨x,l,ns,ms,ps,us,zss,rfl,_⟩:=h;rfl
 ·obtain⟨x,l,ns,ms,ps,us,zss,rfl,⟨hW,pm,g,hl,hC,all,lu⟩,rise,gw,k⟩:=h;have em:aF ms=ns:=by rw[gX pm,rise]
  have h4:=hr.mono (j:=4) (by decide);refine⟨_,ag (aW (ar GF hr rfl D.f.aK D.f.fn.kp D.f.b .nil ax (aa (pv 0) (aa (pv 1) ae))))
   (ag (iu (ar GS h4 rfl DS.aK DS.fn.kp DS.b .nil ax (aa (pv 0) (aa (bp cE (by rfl) T.list aa1 (aa (pv 1) ae)) ae))) (cI rfl (aO (aD (i:=2) sZ.nd rfl (Or.inl rfl)) (aO (aD (i:=3) sZ.nd rfl (Or.inl rfl)) cg))))
   (ag (aN (i:=4) sZ.nd rfl (Or.inl rfl) (bp cE (by rfl) T.list aa1 (aa (pv 3) ae)))
   (ag (lZ aaW (pE (pv 3) (λ_=>rfl))
    (ag (iu (ar GS h4 rfl DS.aK DS.fn.kp DS.b .nil ax (aa (pv 0) (aa (pv 2) ae))) (cI rfl (aO (aD (i:=2) sZ.nd rfl (Or.inl rfl)) (aO (aD (i:=3) sZ.nd rfl (Or.inl rfl)) cg))))
    (ao (aW (cT aaJ PySem.F.slot_list_extend PySem.F.type_list_extend Ca (pv 4) (aa (pv 3) ae))))))
   (ao (aI (c7 (aa (pv 2) (aa (pv 4) ae)))))))),?_⟩
  try rw[bw]
  refine⟨_,rfl,_,rfl,x,l,ns,ms,ps,us,zss,rfl,hW,pm,g,hl,hC,all,λH1 s1=>?_⟩;refine⟨_,rfl,_,rfl,l,_,rfl,.inl (aj.of (s1 _ _ hl)),λl0 jf=>?_⟩;have s2:=s1.trans (ai (o:=.lst (us.map V.ref)) jf);have Mj:H l0=none:=s1.free jf;have Sg:=af (H:=H1) (a:=l0) (o:=.lst (us.map V.ref));generalize upd H1 l0 (.lst (us.map V.ref))=H2 at s2 Sg⊢;refine⟨x,l0,ms,ps,us,zss,rfl,hW.same s2,g.good.aJ,Sg,hC.same s2,lu,λr h mo YB tm H3 zQ Sh zf Si Nq fr nmo nhm s3=>?_⟩;rw[em] at zf Nq;have s03:=s2.trans s3;have Hh:H h=none:=fr.elim (λe=>by rw[e];exact Mj) (λe=>s2.free e);refine⟨r,_,rfl,aL.of zQ,rfl,_,_,rfl,_,_,rfl,rfl,?_⟩;refine⟨_,rfl,mo,_,rfl,.inl (aj.of Si),λst hst=>?_⟩;have s4:=ai (o:=.lst (tm.map V.ref)) hst;have Nr:=af (H:=H3) (a:=st) (o:=.lst (tm.map V.ref));have Eo:H st=none:=s03.free hst;have IE:h≠st:=aw Sh hst;change kE _ _ _ _ (upd H3 st (.lst (tm.map V.ref)));generalize upd H3 st (.lst (tm.map V.ref))=H4 at s4 Nr⊢;have s04:=s03.trans s4;have aJ:=gw.good.aJ;have Sj:∀{acc:List (Nat×Nat)} {z:List (List Str)},dY ns zss acc=some z->(∀zs∈z,dw ns ps zs)/\z.length=zss.length/\acc.length<=lQ z/\lQ z<=zss.length*(ns.length*ns.length):=λ{acc z} hL=>by obtain⟨a1,a2,_,a4⟩:=kU gw rise hL all;have q:=El (m:=ns.length) λzs hz=>(a1 zs hz).less;rw[a2] at q;exact⟨a1,a2,by omega,q⟩
  have big:zss.length*(ns.length*ns.length)<=100*(12*12):=acx (by rw[<-hC.len];exact lu) (acx aJ aJ);refine⟨Sf x l ns zss (zss.length*(ns.length*ns.length)) H,⟨_,h,mo,st,YB,tm,tm,(cU ns zss).1,(cU ns zss).2,(cU ns zss).2,rfl,s04,s4 _ _ Sh,zf.same s4,s4 _ _ Si,Nq.same s4,Nr,Nq.same s4,Hh,Eo,IE,kW zss,λe=>?_,λe z' s' u=>kB.more e u,rfl⟩,?_⟩
  ·have:=kB.stop e
   rw[e];exact this
  rintro m σ H5 ⟨h,mo,st,Sk,tm,ts,z,mS,acc,rfl,s5,hh,hC5,YC,Sl,Bw,hA5,Hh,Eo,IE,hL,u0,u1,rfl⟩;obtain⟨Vv,lz,acl,sql⟩:=Sj hL;refine⟨_,rfl,_,.inl ⟨_,aj.of YC,rfl⟩,?_⟩;refine cR (λc=>?_) (λc=>?_)
  ·have ne:mS≠[]:=λe=>by
    have:tm=[]:=ab1.mp (by rw[Sl.len,e];rfl)
    rw[this] at c;simp at c
   refine⟨λσ' H'=>∃m',m'<(if mS=[] then 0 else zss.length*(ns.length*ns.length)+1-lQ z)/\Sf x l ns zss (zss.length*(ns.length*ns.length)) H m' σ' H',λ_ _ q=>q,?_⟩;refine⟨_,rfl,_,rfl,x,h,ms,ps,Sk,z,rfl,hW.same s5,g.good.aJ,hh,hC5,by rw[hC5.len,lz,<-hC.len];exact lu,λr2 h2 Nt YD IF H6 YE YF Di Sm hP6 Sn Nu aaf s6=>?_⟩;rw[em] at Di hP6;have s06:=s5.trans s6;refine⟨r2,_,rfl,aL.of YE,rfl,_,_,rfl,_,_,rfl,rfl,?_⟩;have Ge:=s6 _ _ Bw;have Hj:Nt≠st:=λe=>by rw[e,Bw] at Nu;cases Nu
   have Nv:h2≠st:=Sn.elim (λe=>by rw[e];exact IE) (λe q=>by rw[q,Bw] at e;cases e);have YG:H h2=none:=Sn.elim (λe=>by rw[e];exact Hh) (λe=>s5.free e);have So:dY ns zss (acc++(cU ns z).2)=some (cU ns z).1:=by rw[oj hL];exact kW z
   obtain⟨aag,lz6,Vw,aah⟩:=Sj So;refine⟨_,rfl,.inl ⟨rfl,_,aj.of Ge⟩,_,rfl,st,Nt,_,_,rfl,rfl,Ge,Sm,?_,?_⟩
   ·rw[aak,aak,hA5.len,hP6.len];rw[aaM] at Vw;exact aap (by omega:_<=100*(12*12)) (by decide)
   have mv:∀t xs,H6 t=some (.tup xs)->(upd H6 st (.lst (ts.map V.ref++IF.map V.ref))) t=some (.tup xs):=λt xs e=>by rw[L2.aq (cF e Ge (by intro z;cases z))];exact e
   have s7:au H (upd H6 st (.lst (ts.map V.ref++IF.map V.ref))):=au.ba s06 Eo;refine⟨if (cU ns z).2=[] then 0 else zss.length*(ns.length*ns.length)+1-lQ (cU ns z).1,?_,h2,Nt,st,YD,IF,ts++IF,(cU ns z).1,(cU ns z).2,acc++(cU ns z).2,rfl,s7,by rw[L2.aq Nv];exact YF,Di.mono mv,by rw[L2.aq Hj];exact Sm,hP6.mono mv,by rw[af,aaY],jt ((hA5.same s6).mono mv) (hP6.mono mv),YG,Eo,Nv,So,λe=>?_,λe z' s' u=>?_,rfl⟩
   ·rw[if_neg ne];by_cases e:(cU ns z).2=[]
    ·rw[if_pos e];omega
    ·rw[if_neg e];obtain⟨_,_,_,a4⟩:=kU gw rise (kW z) Vv;have pos:=ab2.mpr e;omega
   ·have u:=u1 ne _ _ (kB.stop e);rw[e];exact u
   ·rw[acr];exact u1 ne _ _ (kB.more e u)
  ·have YH:mS=[]:=by
    cases e:mS with
    |nil=>rfl
    |cons a r=>
     exfalso
     have:tm≠[]:=λq=>by have:=Sl.len;rw[q,e] at this;cases this
     cases tm with
     |nil=>exact this rfl
     |cons=>simp at c
   refine⟨_,rfl,_,rfl,(show 2<=sizeLine by decide),λr hr'=>?_⟩;have s6:=ai (o:=.tup [.ref h,.ref st]) hr';exact k r h st Sk ts z acc _ (s5.free hr') af (s6 _ _ hh) (hC5.same s6) (s6 _ _ Bw) (hA5.same s6) Hh Eo IE (u0 YH) (s5.trans s6)
end
open PySem PySem.Spec PyProof.Rows L2 L3
structure Nw(g:List Str)(F:List (List Str)):Prop where
 sub:∀S∈F,∀z∈S,z∈g
 ne:∀S∈F,S≠[]
 nest:∀S∈F,∀T∈F,(∀z∈S,z∉T)\/(∀z∈S,z∈T)\/(∀z∈T,z∈S)
 dist:F.Pairwise λS T=>¬ ∀z,z∈S ↔ z∈T
theorem xJ{α:Type}{R:α->α->Prop}{p:α->Bool}{F:List α}(d:F.Pairwise R)(h:∀a∈F,∀b∈F,p a=true->p b=true->¬ R a b):(F.filter p).length<=1:=by
 have d':(F.filter p).Pairwise R:=d.filter p;match e:F.filter p,d' with
 |[],_=>simp
 |[a],_=>simp
 |a::b::r,d' =>have ha:=aaU.mp (show a∈F.filter p by rw[e];simp);have hb:=aaU.mp (show b∈F.filter p by rw[e];simp);exact absurd ((acp.mp d').1 b (by simp)) (h a ha.1 b hb.1 ha.2 hb.2)
def er(x:Str)(S:List Str):List Str:=S.filter λz=>decide (z≠x)
theorem bM{x z:Str}{S:List Str}:z∈er x S ↔ z∈S/\z≠x:=by unfold er;rw[aaU];simp
open Classical in
theorem uT:∀{g:List Str} {F:List (List Str)},Nw g F->F.length<=2*g.length
 |[],F,L=>by
  cases F with
  |nil=>simp
  |cons S r =>obtain⟨z,hz⟩:=abp _ (L.ne S (by simp));exact nomatch L.sub S (by simp) z hz
 |x::g,F,L=>by
  let F1:=F.filter λS=>decide (x∉S)
  let F2:=F.filter λS=>decide (x∈S)
  let bare:List Str->Bool:=λS=>decide (er x S=[])
  let like:List Str->Bool:=λS=>decide (∃T∈F1,∀z,z∈er x S ↔ z∈T)
  let F3:=F2.filter λS=>!(bare S||like S)
  have m1:∀{S},S∈F1 ↔ S∈F/\x∉S:=λ{S}=>by simp[F1]
  have m2:∀{S},S∈F2 ↔ S∈F/\x∈S:=λ{S}=>by simp[F2]
  have m3:∀{S},S∈F3->(S∈F/\x∈S)/\er x S≠[]/\¬ ∃T∈F1,∀z,z∈er x S ↔ z∈T:=λ{S} h=>by
   obtain⟨a,b⟩:=aaU.mp h;have b:(bare S||like S)=false:=by simpa using b
   obtain⟨b1,b2⟩:=aeo.mp b;exact⟨m2.mp a,of_decide_eq_false b1,of_decide_eq_false b2⟩
  have d2:F2.Pairwise λS T=>¬ ∀z,z∈S ↔ z∈T:=L.dist.filter _;have back:∀{S T:List Str},x∈S->x∈T->(∀z,z∈er x S ↔ z∈er x T)->∀z,z∈S ↔ z∈T:=λ{S T} hS hT h z=>by
   by_cases c:z=x
   ·rw[c];exact⟨λ_=>hT,λ_=>hS⟩
   ·exact⟨λq=>(bM.mp ((h z).mp (bM.mpr ⟨q,c⟩))).1,λq=>(bM.mp ((h z).mpr (bM.mpr ⟨q,c⟩))).1⟩
  have b1:(F2.filter bare).length<=1:=xJ d2 λS hS T hT a b n=>n (back (m2.mp hS).2 (m2.mp hT).2 λz=>by rw[abZ a,abZ b]);have b2:(F2.filter like).length<=1:=xJ d2 λS hS T hT a b n=>by
   obtain⟨S',YI,eS⟩:=abZ a;obtain⟨T',MO,eT⟩:=abZ b;obtain⟨fS,xS⟩:=m2.mp hS;obtain⟨fT,xT⟩:=m2.mp hT;obtain⟨Sq,YJ⟩:=m1.mp YI;obtain⟨Sr,YK⟩:=m1.mp MO;have half:∀{A B A' B':List Str},A∈F->A'∈F->B'∈F->x∈A->x∉B'->(∀z,z∈er x A ↔ z∈A')->(∀z,z∈er x B ↔ z∈B')->(∀z∈A,z∈B)->∀z,z∈er x A ↔ z∈er x B:=λ{A B A' B'} hA YL YM xA YN eA eB sub z=>by
    refine⟨λq=>bM.mpr ⟨sub z (bM.mp q).1,(bM.mp q).2⟩,λq=>?_⟩;obtain⟨y,hy⟩:=abp _ (L.ne A' YL);have yA:=bM.mp ((eA y).mpr hy);have YO:y∈B':=(eB y).mp (bM.mpr ⟨sub y yA.1,yA.2⟩);rcases L.nest A hA B' YM with h|h|h
    ·exact absurd YO (h y yA.1)
    ·exact absurd (h x xA) YN
    ·exact bM.mpr ⟨h z ((eB z).mp q),(bM.mp q).2⟩
   rcases L.nest S fS T fT with h|h|h
   ·exact h x xS xT
   ·exact n (back xS xT (half fS Sq Sr xS YK eS eT h))
   ·exact n (back xS xT λz=>(half fT Sr Sq xT YJ eT eS h z).symm)
  have aai:F2.length<=F3.length+2:=by
   have e:=acY (λS=>bare S||like S) (l:=F2);have c1:F2.countP (λS=>bare S||like S)<=F2.countP bare+F2.countP like:=by
    clear b1 b2 d2 e;induction F2 with
    |nil=>simp
    |cons S r ih =>rw[ack,ack,ack];cases bare S<;>cases like S<;>simp<;>omega
   rw[abN (p:=bare),abN (p:=like)] at c1;have e3:F2.countP (λa=>decide ¬ (bare a||like a)=true)=F3.length:=by rw[abN];congr 1;refine acP λS _=>?_;cases (bare S||like S)<;>simp
   omega
  have aac:F.length=F1.length+F2.length:=by have e:=acY (λS=>decide (x∉S)) (l:=F);rw[e,abN,abN];congr 2;refine acP λS _=>?_;by_cases c:x∈S<;>simp[c]
  have LG:Nw g (F1++F3.map (er x)):=by
   have cs:∀{S},S∈F1++F3.map (er x)->(S∈F/\x∉S)\/∃A,S=er x A/\A∈F3:=λ{S} h=>by
    rcases aaD.mp h with q|q
    ·exact .inl (m1.mp q)
    ·obtain⟨A,hA,e⟩:=aaN.mp q;exact .inr ⟨A,e.symm,hA⟩
   have Ss:∀{S z},S∈F->z∈S->z≠x->z∈g:=λ{S z} hS hz nz=>(aav.mp (L.sub S hS z hz)).resolve_left nz;refine⟨λS hS z hz=>?_,λS hS=>?_,λS hS T hT=>?_,?_⟩
   ·rcases cs hS with⟨f,n⟩|⟨A,rfl,hA⟩
    ·exact Ss f hz λe=>n (e▸hz)
    ·exact Ss (m3 hA).1.1 (bM.mp hz).1 (bM.mp hz).2
   ·rcases cs hS with⟨f,n⟩|⟨A,rfl,hA⟩
    ·exact L.ne S f
    ·exact(m3 hA).2.1
   ·rcases cs hS with⟨f,n⟩|⟨A,rfl,hA⟩<;>rcases cs hT with⟨f',n'⟩|⟨B,rfl,hB⟩
    ·exact L.nest S f T f'
    ·rcases L.nest S f B (m3 hB).1.1 with h|h|h
     ·exact .inl λz hz q=>h z hz (bM.mp q).1
     ·exact .inr (.inl λz hz=>bM.mpr ⟨h z hz,λe=>n (e▸hz)⟩)
     ·exact .inr (.inr λz hz=>h z (bM.mp hz).1)
    ·rcases L.nest A (m3 hA).1.1 T f' with h|h|h
     ·exact .inl λz hz=>h z (bM.mp hz).1
     ·exact .inr (.inl λz hz=>h z (bM.mp hz).1)
     ·exact .inr (.inr λz hz=>bM.mpr ⟨h z hz,λe=>n' (e▸hz)⟩)
    ·rcases L.nest A (m3 hA).1.1 B (m3 hB).1.1 with h|h|h
     ·exact .inl λz hz q=>h z (bM.mp hz).1 (bM.mp q).1
     ·exact .inr (.inl λz hz=>bM.mpr ⟨h z (bM.mp hz).1,(bM.mp hz).2⟩)
     ·exact .inr (.inr λz hz=>bM.mpr ⟨h z (bM.mp hz).1,(bM.mp hz).2⟩)
   ·rw[aep];refine⟨L.dist.filter _,?_,λS hS T hT h=>?_⟩
    ·rw[aeZ];refine afY ?_ (d2.filter (λS=>!(bare S||like S)));intro A B hA hB n h;exact n (back (m3 hA).1.2 (m3 hB).1.2 h)
    ·obtain⟨A,hA,rfl⟩:=aaN.mp hT;exact(m3 hA).2.2 ⟨S,hS,λz=>(h z).symm⟩
  have ih:=uT LG;rw[aaM,aak] at ih;rw[aa0];omega
theorem rC.aJ{sd:List (List Str)}{g:List Str}(L:rC sd)(s:∀i,i<sd.length->∀z∈bX sd i,z∈g):sd.length<=2*g.length:=by
 have e:∀{i} (hi:i<sd.length),bX sd i=sd[i]:=λhi=>bP (aam hi);refine uT ⟨λS hS z hz=>?_,λS hS=>?_,λS hS T hT=>?_,?_⟩
 ·obtain⟨i,hi,rfl⟩:=aa7 hS;exact s i hi z (by rw[e hi];exact hz)
 ·obtain⟨i,hi,rfl⟩:=aa7 hS;rw[<-e hi];exact L.ne i hi
 ·obtain⟨i,hi,rfl⟩:=aa7 hS;obtain⟨j,hj,rfl⟩:=aa7 hT;rw[<-e hi,<-e hj];exact L.nest i j hi hj
 ·rw[abj];intro i j hi hj lt h;rw[<-e hi,<-e hj] at h
  have:=L.inj i j hi hj h
  omega
end dJ
namespace L2
open PySem PySem.Spec PyProof.Rows
def Nx(K:PySem.W.Frag)(a b:Addr):It:=
 ⟨λi H=>∃xs x ys y,aj K H a xs/\xs[i]?=some x/\aj K H b ys/\ys[i]?=some y,λi H v H'=>∃q x y,H q=none/\(∀xs,aj K H a xs->xs[i]?=some x)/\(∀ys,aj K H b ys->ys[i]?=some y)/\v=.ref q/\H'=upd H q (.tup [x,y]),
 λi H=>∃xs ys,aj K H a xs/\aj K H b ys/\(xs.length<=i\/ys.length<=i)⟩
theorem Gg{P:Program}{w:World}{K:PySem.W.Frag}{elts:List Expr}{x1}{tp:Pos}(a b z TI TO i1 i2:Addr)(D:ZipApart z TI TO i1 i2 a b) :
  Turn P w K (.Tuple elts x1 tp) (Nx K a b) [z,TO,i1,i2,TI] z (λi h=>IsZip h z TI TO .none/\IsPair h TI (.ref i1) (.ref i2)/\(∃u v,IsPair h TO u v)/\h.IsListIter i1 a i/\h.IsListIter i2 b i) where
 mem:=by simp
 obj:=λi h st c hc=>by
  obtain⟨hz,rG,⟨u,v,uU⟩,⟨o1,g1,_,d1⟩,o2,g2,_,d2⟩:=st;simp only[aav,ab3,or_false] at hc;rcases hc with rfl|rfl|rfl|rfl|rfl
  ·exact⟨_,hz,λv z=>nomatch z⟩
  ·exact⟨_,uU,λv z=>nomatch z⟩
  ·exact⟨o1,g1,λv z=>by rw[d1] at z;cases z⟩
  ·exact⟨o2,g2,λv z=>by rw[d2] at z;cases z⟩
  ·exact⟨_,rG,λv z=>nomatch z⟩
 keep:=λi h h' st k=>by obtain⟨hz,rG,⟨u,v,uU⟩,h1,h2⟩:=st;exact⟨k z (by simp) _ hz,k TI (by simp) _ rG,⟨u,v,k TO (by simp) _ uU⟩,h1.at λo q=>k i1 (by simp) o q,h2.at λo q=>k i2 (by simp) o q⟩
 item:=by
  intro X hP hw hK hc i pins s σ H E I hf st hg;subst hP hw hK;obtain⟨hz,rG,⟨u0,v0,uU⟩,h1,h2⟩:=st;obtain⟨xs,x,ys,y,hq,hx,hr,hy⟩:=hg;obtain⟨its,rv,p,_⟩:=I.list hq;obtain⟨kG,Ny,p2,_⟩:=I.list hr;obtain⟨u,hu,ru⟩:=rv.get hx;obtain⟨v,hv,YQ⟩:=Ny.get hy;have f1:=hf z (by simp);have f2:=hf TO (by simp);have f3:=hf i1 (by simp);have f4:=hf i2 (by simp);have f5:=hf TI (by simp);refine wpAny_pyNext_zip_item D hz rG uU h1 h2 p.isList p2.isList (x:=u) (y:=v) (by simpa using hu) (by simpa using hv) λh' a1 a2 a3 a4 a5 a6 k1=>⟨_,rfl,?_⟩
  refine wpAny_letOwnedTupleGo_zip a1 λNz e2 sb=>?_;have nq:∀{b:Addr} {o:Obj},s.heap.get? b=some o->b≠s.heap.objs.size:=λ{b o} q=>aaG (aay q);have nz:=nq hz;have YR:=nq uU;have YS:=nq rG;have n1:i1≠s.heap.objs.size:=let ⟨o,q,_⟩:=h1;nq q
  have n2:i2≠s.heap.objs.size:=let ⟨o,q,_⟩:=h2;nq q
  have hn:H s.heap.objs.size=none:=I.aR.fresh (aal _);have kk:∀c o,c≠z->c≠TO->c≠i1->c≠i2->s.heap.get? c=some o->Nz.get? c=some o:=λc o c1 c2 c3 c4 q=>sb.extBut _ _ c1 (k1 c o c1 c2 c3 c4 q);have tq:Nz.get? s.heap.objs.size=some {cls:=.type "tuple",data:=.seq #[u,v]}:=sb.extBut _ _ (aaX nz) a5;have hH:∀c o,H c=some o->c≠z/\c≠TO/\c≠i1/\c≠i2/\c≠s.heap.objs.size:=λc o q=>⟨aw q f1.1,aw q f2.1,aw q f3.1,aw q f4.1,aw q hn⟩
  refine⟨.ref s.heap.objs.size,upd H s.heap.objs.size (.tup [x,y]),?_,rfl,⟨_,x,y,hn,λzs uc=>by rw[I.lY uc hq];exact hx,λzs uc=>by rw[I.lY uc hr];exact hy,rfl,rfl⟩,
   ⟨e2,sb.extBut _ _ D.TIz (k1 _ _ D.TIz D.TITO D.TIi1 D.TIi2 rG),⟨_,_,sb.extBut _ _ D.TOz a2⟩,a3.extBut sb.extBut D.i1z,a4.extBut sb.extBut D.i2z⟩,λb hb=>?_⟩
  ·refine Inv.u7 (ch:=[z,TO,i1,i2]) I (s':={s with heap:=Nz}) rfl ⟨λb ob q n hb hx=>?_,λb ob q n hb hx=>?_,λb ob q n hx=>?_,λb ob q hx=>?_,λb ys q=>?_,λb ob ys q=>?_,λb ps q=>⟨#[],?_⟩⟩ ?_ I.bare λb hb=>?_
   ·exact kk b ob (λz=>hx (by simp[z])) (λz=>hx (by simp[z])) (λz=>hx (by simp[z])) (λz=>hx (by simp[z])) q
   ·exact⟨ob.slots,kk b ob (λz=>hx (by simp[z])) (λz=>hx (by simp[z])) (λz=>hx (by simp[z])) (λz=>hx (by simp[z])) q⟩
   ·rw[aq (nq q)];exact n
   ·exact⟨ob,kk b ob (λz=>hx (by simp[z])) (λz=>hx (by simp[z])) (λz=>hx (by simp[z])) (λz=>hx (by simp[z])) q⟩
   ·rw[aq (hH _ _ q).2.2.2.2];exact q
   ·rw[aq (hH _ _ q).2.2.2.2];exact q
   ·rw[aq (hH _ _ q).2.2.2.2,q];simp
   ·intro b ob q;by_cases hb:b=s.heap.objs.size
    ·subst hb;rw[af] at q;cases q;exact⟨by show 2<=sizeLine;decide,[u,v],.cons ru (.cons YQ .nil),⟨_,tq,rfl,0,rfl⟩⟩
    ·rw[aq hb] at q;refine(I.aR b ob q).kC (λc v hc g=>?_) (λc g=>?_) λc ys g=>?_
     ·have jG:c≠z/\c≠TO/\c≠i1/\c≠i2/\c≠s.heap.objs.size:=by
       rcases hc with z|z
       ·rw[z];exact hH _ _ q
       ·exact hH _ _ z
      exact kk c v jG.1 jG.2.1 jG.2.2.1 jG.2.2.2.1 g
     ·rw[aq (hH _ _ g).2.2.2.2];exact g
     ·rw[aq (hH _ _ g).2.2.2.2];exact g
   ·have:b∈([z,TO,i1,i2,TI]:List Addr):=by simp only[aav,ab3,or_false] at hb⊢;exact(hb.elim .inl λh=>.inr (h.elim .inl λh=>.inr (h.elim .inl λh=>.inr (.inl h))))
    have f:=hf b this;exact⟨f.2.2.2.1,f.2.1,f.2.2.2.2.1,f.2.2.2.2.2⟩
  ·have lt:b≠s.heap.objs.size:=by
    simp only[aav,ab3,or_false] at hb;rcases hb with rfl|rfl|rfl|rfl|rfl
    ·exact nz
    ·exact YR
    ·exact n1
    ·exact n2
    ·exact YS
   rw[aq lt];exact(hf b hb).1
 done:=by
  intro X hP hw hK hc i pins s σ H E I hf st hg;subst hP hw hK;obtain⟨hz,rG,⟨u0,v0,uU⟩,h1,h2⟩:=st;obtain⟨xs,ys,hq,hr,hx⟩:=hg;obtain⟨its,rv,p,_⟩:=I.list hq;obtain⟨kG,Ny,p2,_⟩:=I.list hr;have hl:=rv.length;have hl2:=Ny.length;refine wpAny_pyNext_zip_end (I.ok.hd hc) D hz rG uU h1 h2 p.isList p2.isList (hx.imp (λh=>by simp;omega) λh=>by simp;omega) λh' k=>⟨rfl,?_⟩
  have hH:∀c o,H c=some o->c≠z/\c≠TO/\c≠i1/\c≠i2:=λc o q=>⟨aw q (hf z (by simp)).1,aw q (hf TO (by simp)).1,aw q (hf i1 (by simp)).1,aw q (hf i2 (by simp)).1⟩
  refine Inv.u7 (ch:=[z,TO,i1,i2]) I (s':={s with heap:=h' }) rfl ⟨λb ob q n hb hx=>?_,λb ob q n hb hx=>?_,λb ob q n hx=>n,λb ob q hx=>?_,λb ys q=>q,λb ob ys q=>q,λb ps q=>⟨#[],?_⟩⟩ ?_ I.bare λb hb=>?_
  ·exact k b ob (λz=>hx (by simp[z])) (λz=>hx (by simp[z])) (λz=>hx (by simp[z])) (λz=>hx (by simp[z])) q
  ·exact⟨ob.slots,k b ob (λz=>hx (by simp[z])) (λz=>hx (by simp[z])) (λz=>hx (by simp[z])) (λz=>hx (by simp[z])) q⟩
  ·exact⟨ob,k b ob (λz=>hx (by simp[z])) (λz=>hx (by simp[z])) (λz=>hx (by simp[z])) (λz=>hx (by simp[z])) q⟩
  ·rw[q];simp
  ·intro b ob q;refine(I.aR b ob q).kC (λc v hc g=>?_) (λc g=>g) λc ys g=>g;have jG:c≠z/\c≠TO/\c≠i1/\c≠i2:=by
    rcases hc with z|z
    ·rw[z];exact hH _ _ q
    ·exact hH _ _ z
   exact k c v jG.1 jG.2.1 jG.2.2.1 jG.2.2.2 g
  ·have:b∈([z,TO,i1,i2,TI]:List Addr):=by simp only[aav,ab3,or_false] at hb⊢;exact(hb.elim .inl λh=>.inr (h.elim .inl λh=>.inr (h.elim .inl λh=>.inr (.inl h))))
   have f:=hf b this;exact⟨f.2.2.2.1,f.2.1,f.2.2.2.2.1,f.2.2.2.2.2⟩
 self:=λ_ _ _ _ _ st h=>wpAny_pyIter_zip st.1 h
def Vx(K:PySem.W.Frag)(ta:TA):TI:=λσ H R=>ta σ H λvs H1=>∃a b,vs=[.ref a,.ref b]/\(∃xs,aj K H1 a xs)/\(∃ys,aj K H1 b ys)/\R (Nx K a b) H1
section
variable {X:Cx}
theorem NA{elts:List Expr}{x1}{tp:Pos}{l m:Expr}{ta:TA}{p pos:Pos}(hg:Gl X "zip")(hm:X.mg "zip" = none)(ha:PA X [l,m] ta)(hs:starEach [l,m] X.env=(false,eval l X.env)::starEach [m] X.env:=by rfl)(hp:(backTo pos (starEach [m] X.env)).any (·.1)=false:=by rfl):PI X (.Tuple elts x1 tp) (.Call (.Name "zip" p) [l,m] [] pos) (Vx X.K ta):=by
 intro pins s σ H R I h;refine abB (ir I hg hm boot_zip ?_);refine abA (aH (ha pos pins s σ H _ I h) λus s1 ⟨vs,H1,I1,r1,q1⟩=>?_) hs hp;obtain⟨a,b,rfl,⟨xs,hq⟩,⟨ys,hr⟩,q⟩:=q1;obtain⟨u,v,rfl,ru,rv⟩:=vals2 r1;cases ru;cases rv;obtain⟨its,_,pl,_⟩:=I1.list hq;obtain⟨kG,_,Su,_⟩:=I1.list hr;refine call_zip_2 pl.isList Su.isList λh' e1 e2 e3 i1 i2 z1 k1=>?_;refine wpAny_pyIter_zip e1 ?_;have la:@LT.lt Nat _ a s1.heap.objs.size:=let ⟨o,g,_⟩:=pl.isList;aay g
 have lb:@LT.lt Nat _ b s1.heap.objs.size:=let ⟨o,g,_⟩:=Su.isList;aay g
 refine⟨s1.heap.objs.size+4,[s1.heap.objs.size+4,s1.heap.objs.size+3,s1.heap.objs.size,s1.heap.objs.size+1,s1.heap.objs.size+2],_,_,H1,rfl,I1.kept (t':=s1.toks) k1,Gg a b _ _ _ _ _ (zipApart_new la lb),⟨e1,e2,⟨_,_,e3⟩,i1,i2⟩,λc hc=>?_,q⟩;have le:@LE.le Nat _ s1.heap.objs.size c:=by
  simp only[aav,ab3,or_false] at hc;rcases hc with z|z|z|z|z<;>rw[z]
  ·exact acZ _ 4
  ·exact acZ _ 3
  ·exact aal _
  ·exact acZ _ 1
  ·exact acZ _ 2
 exact I1.rM le (I1.aR.fresh le)
end
end L2
namespace dJ
open PySem PySem.Spec PyProof.Rows L2 L3
abbrev tj:Stmt:=top 62 -- Sv
abbrev tu:Stmt:=top 63 -- P0
abbrev xK:Stmt:=top 64 -- OY
abbrev xM:Stmt:=top 65 -- OZ
section
variable {P:Program}{w:World}{K:PySem.W.Frag}{mg:Str->Option Value}{base:Heap}
variable {C fP fS zR Ep Er:Addr}{fdP bJ tw xN xO:FuncData}
def NB:Sp:=λvs H Q _=>∃(l:Addr) (ks:List Nat) (n:Nat),vs=[.ref l,.int (n:Int)]/\H l=some (.lst (bY ks))/\ks.length<=100/\(∀k∈ks,k<=n)/\∀H',au H H'->Q (.bl true) H'
abbrev xP:List Str:=["things","many"]
theorem Vy:aG xP xP (ak tj):=⟨rfl,rfl,rfl,by decide +kernel,rfl,by decide +kernel,by decide +kernel⟩
theorem P'{f:Addr}{fd:FuncData}(F:a7 K "are_knots" "are_knots" tj f fd)(DW:Df K mg "is_whole" jb ["thing"] zR tw)(T:bt mg):av P w K mg base aB 2 f fd xP NB:=by
 have GW:av P w K mg base aB 1 zR tw ["thing"] (rZ (K:=K)):=we DW.fn T;refine F.ok Vy (λvs H Q E h=>?_) (λcdv A outer s H vs Q E hr h=>?_)
 ·obtain⟨l,ks,n,rfl,_⟩:=h;rfl
 ·obtain⟨l,ks,n,rfl,hl,aJ,le,k⟩:=h;refine⟨_,ao (aI (eD (ay (bQ (T:="list")) (by rfl) T.dW abm (aa (pv 0) (aa (dg (v:=.ty "list") rfl T.list aa1 rfl) ae)))
   (eC (ay (gg rfl) (by rfl) T.all acV (aa (cZ ["thing"] [1] rfl (bq (osc:=(ak tj).names) (N:=xP) rfl rfl (by decide +kernel)) (bx (by decide)) (bg (pv 0))
     (λ_ _ _=>aD (i:=0) (show(["thing","many"]:List Str).Nodup by decide +kernel) rfl (Or.inl rfl)) (λ_ _ _=>bK)
     (λ_ _ _=>eD (ar GW hr rfl DW.aK DW.fn.kp DW.b .nil ax (aa (pv 0) ae)) (eC (md jB jB aE (pv 0) (pv 1))))) ae))))),?_⟩
  try rw[bw]
  have big:1000<=sizeLine:=by decide
  have ln:(bY ks).length=ks.length:=aak ..;refine⟨_,rfl,_,_,true,rfl,.lst hl,rfl,_,rfl,bo ?_⟩;refine⟨_,rfl,l,rfl,⟨_,aj.of hl⟩,cA (K:=K) (xs:=bY ks) (λi ys HH=>HH=H/\ys=(List.replicate i true).map V.bl) ⟨rfl,rfl⟩ ?_ ?_ ?_ ?_⟩
  ·rintro i ys HH hi ⟨_,rfl⟩;rw[ln] at hi;rw[aak,abI];omega
  ·rintro i ys HH _ ⟨rfl,_⟩;exact aj.of hl
  ·rintro i v ys HH R hv ⟨rfl,rfl⟩ kR;rw[aaq] at hv;obtain⟨m,em,rfl⟩:=aar.mp hv;have lm:=le m (aat em);simp only[bh,dB,aa4];refine⟨_,rfl,_,_,true,false,rfl,.int _,rfl,rfl,_,rfl,bo ?_⟩;refine⟨_,rfl,_,_,rfl,rfl,_,rfl,?_⟩;rw[decide_eq_true (show(0:Int)<=(m:Int) by omega)];refine bo ⟨_,rfl,_,_,rfl,rfl,?_⟩;dsimp only;rw[decide_eq_true (show(m:Int)<=(n:Int) by omega)];refine kR _ _ ⟨rfl,?_⟩;rw[acg,aaY];rfl
  rintro ys HH ⟨rfl,rfl⟩ D nD;refine⟨D,_,rfl,aj.of af,?_⟩;have e1:(List.replicate (bY ks).length true).all id=true:=by simp
  rw[e1];exact k _ (ai nD)
def NC:Sp:=λvs H Q _=>∃(l:Addr) (zs:List Str),vs=[.ref l]/\H l=some (.lst (zs.map V.str))/\zs.length<=100/\(∀z∈zs,z="in" \/ z="out")/\∀H',au H H'->Q (.bl true) H'
theorem Vz:aG ["things"] ["things"] (ak tu):=⟨rfl,rfl,rfl,by decide +kernel,rfl,by decide +kernel,by decide +kernel⟩
theorem Qa{f:Addr}{fd:FuncData}(F:a7 K "are_senses" "are_senses" tu f fd)(T:bt mg):av P w K mg base aB 1 f fd ["things"] NC:=by
 refine F.ok Vz (λvs H Q E h=>?_) (λcdv A outer s H vs Q E hr h=>?_)
 ·obtain⟨l,zs,rfl,_⟩:=h;rfl
 ·obtain⟨l,zs,rfl,hl,aJ,io,k⟩:=h;refine⟨_,ao (aI (eD (ay (bQ (T:="list")) (by rfl) T.dW abm (aa (pv 0) (aa (dg (v:=.ty "list") rfl T.list aa1 rfl) ae)))
   (eC (ay (gg rfl) (by rfl) T.all acV (aa (cZ ["thing"] [] rfl (bq (osc:=(ak tu).names) (N:=["things"]) rfl rfl (by decide +kernel)) (bx (by decide)) (bg (pv 0))
     (λ_ _ _=>aD (i:=0) (show(["thing"]:List Str).Nodup by decide +kernel) rfl (Or.inl rfl)) (λ_ _ _=>bK)
     (λ_ _ _=>eD (ay (r:=λxs H Q=>∃x t b,xs=[x,.ty "str"]/\dz K H x t/\PySem.W.kitOne K t (.type "str")=some b/\Q (.bl b) H) (bQ (T:="str")) (by rfl) T.dW abm (aa (pv 0) (aa (dg (v:=.ty "str") rfl T.str ac0 rfl) ae))) (eC (bL (r:=gb K false) cn (pv 0) (c7 (aa ip (aa ip ae))) rfl)))) ae))))),?_⟩
  try rw[bw]
  have big:1000<=sizeLine:=by decide
  refine⟨_,rfl,_,_,true,rfl,.lst hl,rfl,_,rfl,bo ?_⟩;refine⟨_,rfl,l,rfl,⟨_,aj.of hl⟩,cA (K:=K) (xs:=zs.map V.str) (λi ys HH=>au H HH/\ys=(List.replicate i true).map V.bl) ⟨au.refl _,rfl⟩ ?_ ?_ ?_ ?_⟩
  ·rintro i ys HH hi ⟨_,rfl⟩;rw[aak] at hi;rw[aak,abI];omega
  ·rintro i ys HH _ ⟨sH,_⟩;exact aj.of (sH _ _ hl)
  ·rintro i v ys HH R hv ⟨sH,rfl⟩ kR;rw[aaq] at hv;obtain⟨z,ez,rfl⟩:=aar.mp hv;have hz:=io z (aat ez);simp only[bh,dB,aa4];refine⟨_,rfl,_,_,true,rfl,.str _,rfl,_,rfl,bo ?_⟩;refine⟨_,rfl,(by show 2<=sizeLine;decide),λt nt=>?_⟩;refine⟨t,_,rfl,.inr (aL.of af),rfl,bf ["in","out"],?_⟩;simp only[aaB,aa3];rw[show[V.str "in",V.str "out"]=(["in","out"]:List Str).map V.str from rfl,bU,decide_eq_true (show z∈(["in","out"]:List Str) by rcases hz with rfl|rfl<;>simp)];refine kR _ _ ⟨sH.trans (ai nt),?_⟩;rw[acg,aaY];rfl
  rintro ys HH ⟨sH,rfl⟩ D nD;refine⟨D,_,rfl,aj.of af,?_⟩;have e1:(List.replicate (zs.map V.str).length true).all id=true:=by simp
  rw[e1];exact k _ (sH.trans (ai nD))
def ND:Sp:=λvs H Q _=>∃(l:Addr) (par up:List Nat) (n:Nat),vs=[.ref l,.int (n:Int)]/\H l=some (.lst (bY par))/\rD par n up/\up.Nodup/\up.length<=100/\∀q H',H q=none->H' q=some (.lst (bY up))->au H H'->Q (.ref q) H'
abbrev YT:List Str:=["parents","knot","above"]
theorem Gj:aG YT ["parents","knot"] (ak xM):=⟨rfl,rfl,rfl,by decide +kernel,rfl,by decide +kernel,by decide +kernel⟩
theorem zS(j:Nat)(l:List Nat):ua (.int (j:Int)) (bY l)=decide (j∈l):=by
 unfold ua;rw[ac7,abH,adG,abC];constructor
 ·rintro⟨x,hx,e⟩
  have:(x:Int)=j:=by simpa [g8] using e
  have:x=j:=by omega
  exact this▸hx
 ·intro h;exact⟨j,h,by simp[g8]⟩
theorem xQ(l:List Nat):(bY l).all dk=true:=by simp[dk]
theorem Qb{f:Addr}{fd:FuncData}(F:a7 K "knots_above" "knots_above" xM f fd)(T:bt mg):av P w K mg base aB 1 f fd ["parents","knot"] ND:=by
 refine F.ok Gj (λvs H Q E h=>?_) (λcdv A outer s H vs Q E hr h=>?_)
 ·obtain⟨l,par,up,n,rfl,_⟩:=h;rfl
 ·obtain⟨l,par,up,n,rfl,hl,ch,nd,aJ,k⟩:=h;refine⟨_,ag (aN (i:=2) Gj.nd rfl (Or.inl rfl) (bR ae))
   (ag (lZ aaW (PW.pt (gO (aQ vb (pv 1) aE (aV _)) (fE (aQ cD (pv 1) (pv 2) rfl))))
    (ag (aW (cT aaJ aaO aaP bH (pv 2) (aa (pv 1) ae)))
    (ao (aN (i:=1) Gj.nd rfl (Or.inl rfl) (bj aX (pv 0) (bV qv (pv 1) aE) (λ_ _=>rfl))))))
   (ao (aI (pv 2)))),?_⟩
  try rw[bw]
  have big:1000<=sizeLine:=by decide
  refine⟨(by decide),λq nq=>?_⟩;refine⟨λm σ HH=>∃(j:Nat) (a b:List Nat),σ=[some (.ref l),some (.int (j:Int)),some (.ref q)]/\up=a++b/\rD par j b/\m=b.length/\HH q=some (.lst (bY a))/\au H HH,⟨_,n,[],up,rfl,rfl,ch,rfl,af,ai nq⟩,?_⟩;rintro m σ HH ⟨j,a,b,rfl,eu,cj,rfl,hq,sH⟩;cases cj with
  |nil =>refine⟨_,rfl,rfl,_,rfl,aZ ?_⟩;rw[abr] at eu;subst eu;exact aZ ⟨_,rfl,k q HH nq hq sH⟩
  |@cons kk p b' ek cp=>
   have na:kk+1∉a:=λh=>by rw[eu] at nd;exact(acd.mp nd).2.2 _ h _ (by simp) rfl
   refine⟨_,rfl,rfl,_,rfl,?_⟩;rw[aaz (show ¬ V.int ((kk+1:Nat):Int)=V.int 0 by intro z;injection z with z;omega)];refine bo ⟨_,rfl,_,rfl,q,_,rfl,.inl (aj.of hq),rfl,xQ a,_,rfl,?_⟩;simp only[aa4];rw[zS,aaz na];refine bo ?_;have la:a.length<100:=by rw[eu,aaM,aa0] at aJ;omega
   refine⟨λσ' H'=>∃m',m'<((kk+1)::b').length/\∃(j:Nat) (a b:List Nat),σ'=[some (.ref l),some (.int (j:Int)),some (.ref q)]/\up=a++b/\rD par j b/\m'=b.length/\H' q=some (.lst (bY a))/\au H H',λ_ _ h=>h,?_⟩;refine⟨_,rfl,.inl ⟨rfl,_,aj.of hq⟩,_,rfl,q,_,_,rfl,rfl,hq,by rw[aak];exact aaT la (by decide),?_⟩;have hl2:=au.ba (o:=.lst (bY a++[V.int ((kk+1:Nat):Int)])) sH nq;have lt:kk<par.length:=(aaH.mp ek).1;refine⟨_,rfl,_,rfl,_,_,rfl,rfl,l,_,_,V.int (p:Int),rfl,rfl,aj.of (hl2 _ _ hl),?_,?_⟩
   ·rw[show((kk+1:Nat):Int)-1=((kk:Nat):Int) by omega];exact bc (j:=kk) (by rw[aaq,ek];rfl)
   ·refine⟨b'.length,by simp,p,a++[kk+1],b',rfl,by rw[eu];simp,cp,rfl,?_,hl2⟩;rw[af,show bY (a++[kk+1])=bY a++bY [kk+1] from aaY];rfl
end
end dJ
namespace L2
open PySem PySem.Spec PyProof.Rows
theorem NF{K:PySem.W.Frag}{a b:Addr}{xs zs:List V}{own:List Str}{fr:List Nat}{g:TG}{tt:TT}{tk te:TE}{σ:St}{Q:VK}{H:Hp}(le:xs.length=zs.length)(Pv:Nat->List (Key×V)->Hp->Prop)(h0:Pv 0 [] H)(hlen:∀i kvs H,i<=xs.length->Pv i kvs H->kvs.length<=sizeLine)
  (hl:∀i kvs H,i<=xs.length->Pv i kvs H->aj K H a xs/\aj K H b zs)
  (hs:∀i x z kvs H q (R:List (Key×V)->Hp->Prop),xs[i]?=some x->zs[i]?=some z->Pv i kvs H->H q=none->(∀jR H',Pv (i+1) jR H'->R jR H')->g (.ref q) (dq own fr σ) (upd H q (.tup [x,z])) λσ4 H4=>tt σ4 H4 λb H5=>if b=true then tk σ4 H5 λy H6=>te σ4 H6 λz H7=>∃k,y=kV k/\R (putK kvs k z) H7 else R kvs H5)
  (hd:∀kvs H,Pv xs.length kvs H->∀D,H D=none->Q (.ref D) (upd H D (.dK kvs))):qJ own fr g tt tk te σ Q (Nx K a b) H:=by
 refine⟨λi m kvs H=>m=xs.length-i/\i<=xs.length/\Pv i kvs H,⟨xs.length,rfl,aaZ _,h0⟩,?_⟩;rintro i m kvs H2 ⟨rfl,hi,p⟩;refine⟨hlen i kvs H2 hi p,?_⟩;obtain⟨q,q2⟩:=hl i kvs H2 hi p;by_cases h:i<xs.length
 ·refine .inr ⟨⟨xs,xs[i],zs,zs[i]'(by omega),q,by simp[h],q2,by simp⟩,λx H3 ⟨r,y1,y2,hr,h1,h2,e1,e2⟩=>?_⟩;subst e1 e2;exact hs i y1 y2 kvs _ r (λjR H'=>∃m',m'<xs.length-i/\(m'=xs.length-(i+1)/\i+1<=xs.length/\Pv (i+1) jR H')) (h1 xs q) (h2 zs q2) p hr λjR H' q=>⟨xs.length-(i+1),by omega,rfl,h,q⟩
 ·have e:i=xs.length:=by omega
  subst e;exact .inl ⟨⟨xs,zs,q,q2,.inl (aal _)⟩,hd kvs H2 p⟩
end L2
namespace dJ
open PySem PySem.Spec PyProof.Rows L2 L3
abbrev qf:Stmt:=top 66 -- Wg
theorem Es{ns zs:List Str}(nn:ns.Nodup)(r:aF ns=ns)(nd:zs.Nodup)(rz:aF zs=zs)(s:∀z∈zs,z∈ns):(ns.filter λz=>decide (z∈zs))=zs:=by
 have e:=pS (l:=ns.filter λz=>decide (z∈zs)) (m:=zs) (nn.filter _) nd λz=>by rw[aaU];simp only[abi];exact⟨λh=>h.2,λh=>⟨s z h,h⟩⟩
 rw[kT r,rz] at e;exact e
section
variable {P:Program}{w:World}{K:PySem.W.Frag}{mg:Str->Option Value}{base:Heap}
variable {C fP fS zR Ep Er IG xC:Addr}{fdP bJ tw xN xO Bx qc:FuncData}
def Et(C:Addr):Sp:=λvs H Q _=>∃(x c:Addr) (ns:List Str) (ps:List (Str×Str)) (zs:List Str),vs=[.ref x,.ref c]/\a8 C H x ns ps/\ns.length<=12/\H c=some (.lst (zs.map V.str))/\∀l H',H l=none->H' l=some (.lst (((aF ns).filter λz=>!decide (z∈zs)).map V.str))->au H H'->Q (.ref l) H'
theorem Ks{f:Addr}{fd:FuncData}(F:a7 K "lacked" "lacked" gH f fd)(M:Mt K mg C fP fS fdP bJ)(T:bt mg):av P w K mg base aB 2 f fd kP (Et C):=by
 have GP:av P w K mg base aB 1 fP fdP ["self"] (jq C):=c9 M.pF M.wc T;refine F.ok Ij (λvs H Q E h=>?_) (λcdv A outer s H vs Q E hr h=>?_)
 ·obtain⟨x,c,ns,ps,zs,rfl,_⟩:=h;rfl
 ·obtain⟨x,c,ns,ps,zs,rfl,hW,aJ,hc,k⟩:=h;refine⟨_,ao (aI (cZ ["place"] [1] rfl (bq (osc:=(ak gH).names) (N:=kP) rfl rfl (by decide +kernel)) (bx (by decide)) (bg (cm (pv 0) M.wc.cl M.pM GP hr M.pB .nil ax))
   (λ_ _ _=>aD (i:=0) (show(["place","places"]:List Str).Nodup by decide +kernel) rfl (Or.inl rfl))
   (λ_ _ _=>dA (aQ (r:=gb K true) cD (pv 0) (pv 1) rfl)) (λ_ _ _=>pv 0))),?_⟩
  try rw[bw]
  obtain⟨d1,f1,q1,r1⟩:=hW.gA "places";refine⟨_,rfl,x,d1,f1,rfl,q1,r1,x,ns,ps,rfl,hW,λl1 iG=>?_⟩;have sl1:=ai (o:=.lst ((aF ns).map V.str)) iG;refine⟨l1,rfl,⟨_,aj.of af⟩,cA (K:=K) (xs:=(aF ns).map V.str) (λi ys HH=>HH=upd H l1 (.lst ((aF ns).map V.str))/\ys=(((aF ns).take i).filter λz=>!decide (z∈zs)).map V.str) ⟨rfl,rfl⟩ ?_ ?_ ?_ ?_⟩
  ·rintro i ys HH _ ⟨_,rfl⟩;rw[aak];exact aap (aa' _ _) (aap (by rw[aaR];exact abF _ _) (by rw[cC];exact aap aJ (by decide)))
  ·rintro i ys HH _ ⟨rfl,_⟩;exact aj.of af
  ·rintro i v ys HH R hv ⟨rfl,rfl⟩ kR;rw[aaq] at hv;obtain⟨z,ez,rfl⟩:=aar.mp hv;simp only[bh];refine⟨_,rfl,_,rfl,c,_,rfl,.inl (aj.of (sl1 _ _ hc)),rfl,bf _,_,rfl,?_⟩;simp only[aa4];rw[bU];have fin:(((aF ns).take (i+1)).filter λz=>!decide (z∈zs)).map V.str=(((aF ns).take i).filter λz=>!decide (z∈zs)).map V.str++(if (!decide (z∈zs))=true then [V.str z] else []):=by rw[aaI,ez,abt,aaY];congr 1;rw[abL,abv];split<;>rfl
   by_cases h1:z∈zs
   ·rw[decide_eq_true h1];exact aZ (kR _ _ ⟨rfl,by rw[fin,if_neg (by simp[h1]),abr]⟩)
   ·rw[aaz h1];exact bo ⟨_,rfl,kR _ _ ⟨rfl,by rw[fin,if_pos (by simp[h1])]⟩⟩
  rintro ys HH ⟨rfl,rfl⟩ D nD;rw[aak,aaF (aal _)];exact k D _ (sl1.free nD) af (sl1.trans (ai nD))
structure kX(H:Hp)(t:Addr)(ms:List Str)(z0:Str)(zss:List (List Str)):Prop where
 ex:∃a b c,H t=some (.tup [.ref a,.ref b,.ref c])/\H a=some (.lst (bY (bZ (aM ms z0 zss))))/\H b=some (.lst ((cP z0 zss).map V.str))/\H c=some (.lst (bY (cY ms (aM ms z0 zss))))
theorem kX.same{H H':Hp}{t:Addr}{ms:List Str}{z0:Str}{zss:List (List Str)}(h:kX H t ms z0 zss)(s:au H H'):kX H' t ms z0 zss:=by obtain⟨a,b,c,h1,h2,h3,h4⟩:=h.ex;exact⟨a,b,c,s _ _ h1,s _ _ h2,s _ _ h3,s _ _ h4⟩
def NG(C:Addr):Sp:=λvs H Q _=>∃(x t:Addr) (ms:List Str) (ps:List (Str×Str)) (zss:List (List Str)) (z0:Str),vs=[.ref x,.ref t]/\a8 C H x ms ps/\ms.length<=12/\kX H t ms z0 zss/\zss.length<=100/\zss.length<2*ms.length/\∀H',au H H'->Q (.bl true) H'
abbrev YU:List Str:=["web","thing","parents","senses","seats"]
theorem By:aG YU ["web","thing"] (ak xK):=⟨rfl,rfl,rfl,by decide +kernel,rfl,by decide +kernel,by decide +kernel⟩
theorem Qc{f:Addr}{fd:FuncData}(F:a7 K "is_treelike" "is_treelike" xK f fd)(M:Mt K mg C fP fS fdP bJ)(DW:Df K mg "is_whole" jb ["thing"] zR tw)(DK:Df K mg "are_knots" tj xP Ep xN)(DS:Df K mg "are_senses" tu ["things"] Er xO)(T:bt mg):av P w K mg base aB 3 f fd ["web","thing"] (NG C):=by
 have GP:av P w K mg base aB 1 fP fdP ["self"] (jq C):=c9 M.pF M.wc T;have GK:av P w K mg base aB 2 Ep xN xP NB:=P' DK.fn DW T;have GS:av P w K mg base aB 1 Er xO ["things"] NC:=Qa DS.fn T;refine F.ok By (λvs H Q E h=>?_) (λcdv A outer s H vs Q E hr h=>?_)
 ·obtain⟨x,t,ms,ps,zss,z0,rfl,_⟩:=h;rfl
 ·obtain⟨x,t,ms,ps,zss,z0,rfl,hW,aJ,tr,Bz,z2,k⟩:=h;obtain⟨a,b,c,ht,ha,hb,hc⟩:=tr.ex;have h1:=hr.mono (j:=1) (by decide);refine⟨_,ag (bu (PW.pt (fG (bO (bG (ay (bQ (T:="tuple")) (by rfl) T.dW abm (aa (pv 1) (aa (dg (v:=.ty "tuple") rfl T.tuple aa5 rfl) ae))) (λ_=>rfl)))
    (fG (aQ vb (ay aA (by rfl) T.len aax (aa (pv 1) ae)) aE (aV _)) (fh (bO (bG (ar GS h1 rfl DS.aK DS.fn.kp DS.b .nil ax (aa (bj jK (pv 1) aE (λ_ _=>rfl)) ae)) (λ_=>rfl))))))) (ao (aI eZ)) aT)
   (ag (iu (pv 1) (cI rfl (aO (aD (i:=2) By.nd rfl (Or.inl rfl)) (aO (aD (i:=3) By.nd rfl (Or.inl rfl)) (aO (aD (i:=4) By.nd rfl (Or.inl rfl)) cg)))))
   (ag (bu (PW.pt (fG (bO (bG (ar GK hr rfl DK.aK DK.fn.kp DK.b .nil ax (aa (pv 2) (aa (ay aA (by rfl) T.len aax (aa (pv 3) ae)) ae))) (λ_=>rfl)))
    (fh (bO (bG (ar GK hr rfl DK.aK DK.fn.kp DK.b .nil ax (aa (pv 4) (aa (ay aA (by rfl) T.len aax (aa (pv 3) ae)) ae))) (λ_=>rfl)))))) (ao (aI eZ)) aT)
   (ao (aI (eD (md iW iw (ay aA (by rfl) T.len aax (aa (pv 2) ae)) (ay aA (by rfl) T.len aax (aa (pv 3) ae)) (bV vD aE (ay aA (by rfl) T.len aax (aa (cm (pv 0) M.wc.cl M.pM GP h1 M.pB .nil ax) ae))))
    (eC (bL iW (ay aA (by rfl) T.len aax (aa (pv 4) ae)) (ay aA (by rfl) T.len aax (aa (cm (pv 0) M.wc.cl M.pM GP h1 M.pB .nil ax) ae)) (aV _)))))))),?_⟩
  try rw[bw]
  have rA:(aM ms z0 zss).length=zss.length:=eY;have Sw:(bZ (aM ms z0 zss)).length=zss.length:=by unfold bZ;rw[aak,rA]
  have Eu:(cP z0 zss).length=zss.length:=by unfold cP;rw[aak]
  have lst:(cY ms (aM ms z0 zss)).length=ms.length:=by unfold cY;rw[aak,cC]
  have YV:∀k∈bZ (aM ms z0 zss),k<=zss.length:=λk hk=>by unfold bZ at hk;obtain⟨s,_,rfl⟩:=aaN.mp hk;rw[<-rA];exact rn _ _ _ _
  have sle:∀k∈cY ms (aM ms z0 zss),k<=zss.length:=λk hk=>by unfold cY at hk;obtain⟨s,_,rfl⟩:=aaN.mp hk;rw[<-rA];exact rn _ _ _ _
  refine⟨_,rfl,_,_,true,rfl,.tup ht,rfl,_,rfl,aZ ?_⟩;refine⟨_,rfl,t,_,rfl,.inr (aL.of ht),rfl,_,rfl,?_⟩;have e3:decide (V.int (([V.ref a,V.ref b,V.ref c]:List V).length:Int)=V.int 3)=true:=decide_eq_true rfl;rw[e3];refine aZ ⟨_,rfl,t,_,_,_,rfl,rfl,aL.of ht,bc (j:=1) rfl,b,_,rfl,hb,by rw[Eu];exact Bz,λz hz=>?_,λH1 s1=>⟨_,rfl,aZ ?_⟩⟩
  ·unfold cP at hz;obtain⟨zs,_,rfl⟩:=aaN.mp hz;split
   ·exact .inr rfl
   ·exact .inl rfl
  refine⟨_,rfl,t,_,rfl,aL.of (s1 _ _ ht),rfl,_,_,rfl,_,_,rfl,_,_,rfl,rfl,?_⟩;have Gk:(((cP z0 zss).map V.str).length:Int)=(zss.length:Int):=by rw[aak,Eu]
  refine⟨_,rfl,_,rfl,b,_,rfl,.inl (aj.of (s1 _ _ hb)),?_⟩;rw[Gk];refine⟨a,_,zss.length,rfl,s1 _ _ ha,by rw[Sw];exact Bz,YV,λH2 s2=>⟨_,rfl,aZ ?_⟩⟩;have s12:=s1.trans s2;refine⟨_,rfl,_,rfl,b,_,rfl,.inl (aj.of (s12 _ _ hb)),?_⟩;rw[Gk];refine⟨c,_,zss.length,rfl,s12 _ _ hc,by rw[lst];exact aap aJ (by decide),sle,λH3 s3=>⟨_,rfl,aZ ?_⟩⟩;have s13:=s12.trans s3;refine⟨_,rfl,a,_,rfl,.inl (aj.of (s13 _ _ ha)),_,rfl,b,_,rfl,.inl (aj.of (s13 _ _ hb)),?_⟩;rw[Gk,show((bY (bZ (aM ms z0 zss))).length:Int)=(zss.length:Int) by rw[aak,Sw]];refine⟨rfl,_,rfl,?_⟩;rw[decide_eq_true rfl];obtain⟨d1,f1,q1,r1⟩:=(hW.same s13).gA "places";refine bo ⟨_,rfl,x,d1,f1,rfl,q1,r1,x,ms,ps,rfl,hW.same s13,λl4 n4=>⟨l4,_,rfl,.inl (aj.of af),?_⟩⟩;have s14:=s13.trans (ai (o:=.lst ((aF ms).map V.str)) n4);generalize upd H3 l4 (.lst ((aF ms).map V.str))=H4 at s14⊢;refine⟨_,_,rfl,rfl,.inl ⟨by decide,by decide⟩,_,_,rfl,rfl,?_⟩;rw[aak,cC];dsimp only;rw[decide_eq_true (show(zss.length:Int)<2*(ms.length:Int) by omega)];refine⟨_,rfl,bo ?_⟩;obtain⟨d5,f5,q5,r5⟩:=(hW.same s14).gA "places";refine⟨_,rfl,c,_,rfl,.inl (aj.of (s14 _ _ hc)),_,rfl,x,d5,f5,rfl,q5,r5,x,ms,ps,rfl,hW.same s14,λl5 n5=>⟨l5,_,rfl,.inl (aj.of af),rfl,?_⟩⟩;rw[aak,aak,cC,lst,decide_eq_true rfl];exact k _ (s14.trans (ai n5))
def NH(C:Addr):Sp:=λvs H Q _=>∃(x t:Addr) (ns ms:List Str) (ps:List (Str×Str)) (zss:List (List Str)) (z0:Str),vs=[.ref x,.ref t]/\a8 C H x ms ps/\GoodW ns ps/\aF ms=ns/\kX H t ms z0 zss/\zss.length<=100/\rC (aM ms z0 zss)/\(∀zs∈zss,dw ns ps zs) /\
 ∀q us H',H q=none->H' q=some (.lst (us.map V.ref))->aP H' us zss->au H H'->Q (.ref q) H'
abbrev NI:List Str:=["web","tree","parents","senses","seats","above","found","at","sense","side"]
theorem mT:aG NI ["web","tree"] (ak qf):=⟨rfl,rfl,rfl,by decide +kernel,rfl,by decide +kernel,by decide +kernel⟩
theorem Qd{f:Addr}{fd:FuncData}(F:a7 K "cuts_on" "cuts_on" qf f fd)(M:Mt K mg C fP fS fdP bJ)(DA:Df K mg "knots_above" xM ["parents","knot"] IG Bx)(DL:Df K mg "lacked" gH kP xC qc)(en:mg "enumerate" = none)(zp:mg "zip" = none)(T:bt mg):av P w K mg base aB 3 f fd ["web","tree"] (NH C):=by
 have GP:av P w K mg base aB 1 fP fdP ["self"] (jq C):=c9 M.pF M.wc T;have GA:av P w K mg base aB 1 IG Bx ["parents","knot"] ND:=Qb DA.fn T;have GL:av P w K mg base aB 2 xC qc kP (Et C):=Ks DL.fn M T;refine F.ok mT (λvs H Q E h=>?_) (λcdv A outer s H vs Q E hr h=>?_)
 ·obtain⟨x,t,ns,ms,ps,zss,z0,rfl,_⟩:=h;rfl
 ·obtain⟨x,t,ns,ms,ps,zss,z0,rfl,hW,g,er,tr,Bz,lam,ics,k⟩:=h;obtain⟨a,b,c,ht,ha,hb,hc⟩:=tr.ex;have h1:=hr.mono (j:=1) (by decide);refine⟨_,ag (iu (pv 1) (cI rfl (aO (aD (i:=2) mT.nd rfl (Or.inr rfl)) (aO (aD (i:=3) mT.nd rfl (Or.inl rfl)) (aO (aD (i:=4) mT.nd rfl (Or.inl rfl)) cg)))))
   (ag (aN (i:=5) mT.nd rfl (Or.inr rfl) (Pr ["place","seat"] [2] rfl (bq (osc:=(ak qf).names) (N:=NI) rfl rfl (by decide +kernel)) (iB (K:=K) (k:=2) (by decide) (by decide)) (NA rfl zp (aa (cm (pv 0) M.wc.cl M.pM GP h1 M.pB .nil ax) (aa (pv 4) ae)))
     (λ_ _ _=>cI (n:=2) rfl (aO (aD (i:=0) (show(["place","seat","parents"]:List Str).Nodup by decide +kernel) rfl (Or.inl rfl)) (aO (aD (i:=1) (show(["place","seat","parents"]:List Str).Nodup by decide +kernel) rfl (Or.inl rfl)) cg)))
     (λ_ _ _=>bK) (λ_ _ _=>pv 0) (λ_ _ _=>ar GA h1 rfl DA.aK DA.fn.kp DA.b .nil ax (aa (pv 2) (aa (pv 1) ae)))))
   (ag (aN (i:=6) mT.nd rfl (Or.inl rfl) (bR ae))
   (ag (cJ aaW rfl (sr rfl en (aa (pv 3) ae)) (cI rfl (aO (aD (i:=7) mT.nd rfl (Or.inr rfl)) (aO (aD (i:=8) mT.nd rfl (Or.inl rfl)) cg)))
    (ag (hJ (i:=9) ["place"] [5,7] mT.nd rfl rfl rfl (bq (osc:=(ak qf).names) (N:=NI) rfl rfl (by decide +kernel)) (bx (by decide)) (bg (cm (pv 0) M.wc.cl M.pM GP h1 M.pB .nil ax))
     (λ_ _ _=>aD (i:=0) (show(["place","above","at"]:List Str).Nodup by decide +kernel) rfl (Or.inl rfl)) (λ_ _ _=>dA (aQ (r:=gb K false) cn (bV eE (pv 2) aE) (rP (low 0 hr) (pv 1) (pv 0) (λ_ _=>rfl)) rfl)) (λ_ _ _=>pv 0))
    (ao (aW (cT aaJ aaO aaP bH (pv 6) (aa (bp cH (by rfl) T.tuple aa5 (aa (pz (aQ iW (pv 8) ip (aV _)) (pv 9) (ar GL hr rfl DL.aK DL.fn.kp DL.b .nil ax (aa (pv 0) (aa (pv 9) ae)))) ae)) ae))))))
   (ao (aI (pv 6)))))),?_⟩
  try rw[bw]
  have big:1000<=sizeLine:=by decide
  have aJ:=g.good.aJ;have nd:=g.good.nd;have rise:aF ns=ns:=by rw[<-er];exact yY ms
  have HJ:ms.length<=12:=by have:=cC ms;rw[er] at this;omega
  have rA:(aM ms z0 zss).length=zss.length:=eY;have hM:∀i,i<(aM ms z0 zss).length->(bX (aM ms z0 zss) i).length<=12:=λi hi=>by rw[rA] at hi;rw[j6 hi];exact zH HJ (aap (gF (ics _ (abd hi)).aU.nd (ics _ (abd hi)).aU.ins) aJ)
  have ch:=Bs lam hM;refine⟨_,rfl,t,_,rfl,aL.of ht,rfl,_,_,rfl,_,_,rfl,_,_,rfl,rfl,?_⟩;obtain⟨d1,f1,q1,r1⟩:=hW.gA "places";refine⟨_,rfl,x,d1,f1,rfl,q1,r1,x,ms,ps,rfl,hW,λlp np=>?_⟩;have s1:=ai (o:=.lst ((aF ms).map V.str)) np;have uV:=af (H:=H) (a:=lp) (o:=.lst ((aF ms).map V.str));rw[er] at s1 uV⊢;generalize upd H lp (.lst (ns.map V.str))=H1 at s1 uV⊢;have BB:∀i,i<=ns.length->(ns.take i).length=i:=λi hi=>by rw[aaR];omega
  have up:∀z:Str,∃l,rD (bZ (aM ms z0 zss)) (eV (aM ms z0 zss) [z] 1 (aM ms z0 zss).length) l/\l.Nodup/\(∀j,j∈l ↔ ∃i,j=i+1/\i<(aM ms z0 zss).length/\z∈bX (aM ms z0 zss) i)/\l.length<=100:=λz=>by obtain⟨l,c1,c2,c3⟩:=ch z;refine⟨l,c1,c2,c3,aap (Nj (n:=(aM ms z0 zss).length) c2 λj hj=>?_) (by rw[rA];exact Bz)⟩;obtain⟨i,e,hi,_⟩:=(c3 j).mp hj;exact⟨i,e,hi⟩
  have VA:∀{i:Nat} {z:Str},ns[i]?=some z->(bY (cY ms (aM ms z0 zss)))[i]?=some (V.int ((eV (aM ms z0 zss) [z] 1 (aM ms z0 zss).length:Nat):Int)):=λ{i z} e=>by unfold cY;rw[er,aaq,aaq,e];rfl
  have VB:(ns.map V.str).length=(bY (cY ms (aM ms z0 zss))).length:=by unfold cY;rw[aak,aak,aak,er]
  refine⟨_,rfl,lp,c,rfl,⟨_,aj.of uV⟩,⟨_,aj.of (s1 _ _ hc)⟩,NF (K:=K) (xs:=ns.map V.str) (zs:=bY (cY ms (aM ms z0 zss))) VB (λi kvs H2=>au H1 H2/\∃ls:List Addr,ls.length=i/\kvs=tab (ns.take i) ls/\∀j l,ls[j]?=some l->∃z,ns[j]?=some z/\H2 l=some (.lst (bY (up z).choose))) ⟨au.refl _,[],rfl,rfl,(λj l (e:([]:List Addr)[j]?=some l)=>by rw[List.getElem?_nil] at e;cases e)⟩ ?_ ?_ ?_ ?_⟩
  ·rintro i kvs H2 hi ⟨_,ls,e1,rfl,_⟩;rw[aak] at hi;rw[rX (by rw[e1,BB i hi]),BB i hi];omega
  ·rintro i kvs H2 _ ⟨s2,_⟩;exact⟨aj.of (s2 _ _ uV),aj.of (s2 _ _ (s1 _ _ hc))⟩
  ·rintro i v1 v2 kvs H2 q R e1 e2 ⟨s2,ls,el,rfl,al⟩ nq kR;rw[aaq] at e1;obtain⟨z,ez,rfl⟩:=aar.mp e1;rw[VA ez] at e2;cases e2;have hi:i<ns.length:=(aaH.mp ez).1;have s3:=s2.trans (ai (o:=.tup [V.str z,V.int ((eV (aM ms z0 zss) [z] 1 (aM ms z0 zss).length:Nat):Int)]) nq);have s23:=ai (o:=.tup [V.str z,V.int ((eV (aM ms z0 zss) [z] 1 (aM ms z0 zss).length:Nat):Int)]) nq;have dF:=af (H:=H2) (a:=q) (o:=.tup [V.str z,V.int ((eV (aM ms z0 zss) [z] 1 (aM ms z0 zss).length:Nat):Int)]);generalize upd H2 q (.tup [V.str z,V.int ((eV (aM ms z0 zss) [z] 1 (aM ms z0 zss).length:Nat):Int)])=H3 at s3 s23 dF⊢;refine⟨q,_,rfl,aL.of dF,rfl,_,_,rfl,_,_,rfl,rfl,?_⟩;simp only[dB,aa4];obtain⟨u1,u2,_,u4⟩:=(up z).choose_spec;refine⟨_,rfl,_,rfl,_,rfl,a,_,_,_,rfl,(s1.trans s3) _ _ ha,u1,u2,u4,λl H4 nl hl s4=>⟨Sum.inr z,rfl,kR _ _ ⟨s3.trans s4,ls++[l],by simp[el],?_,λj l' e=>?_⟩⟩⟩
   ·have nz:z∉ns.take i:=λm=>by
     obtain⟨j,hj,e⟩:=aa7 m;have oY:j<i:=by rw[BB i (by omega)] at hj;exact hj
     have q:ns[j]?=some z:=by rw[<-e,aeW,aam]
     have:=qK nd q ez
     omega
    rw[aaI,ez,pL _ (pR nz)];exact(pQ z l (by rw[el,BB i (by omega)])).symm
   ·by_cases c:j<ls.length
    ·rw[abf c] at e;obtain⟨y,ey,hy⟩:=al j l' e;exact⟨y,ey,(s23.trans s4) _ _ hy⟩
    ·have zj:j=i:=by
      have:=(aaH.mp e).1
      rw[aaM,abT] at this;omega
     rw[abn (by omega),show j-ls.length=0 by omega] at e;cases e;exact⟨z,by rw[zj];exact ez,hl⟩
  rintro kvs H2 ⟨s2,ls,el,rfl,al⟩ D nD;rw[aak] at el;rw[aak,acW];have s3:=s1.trans (s2.trans (ai (o:=.dK (tab ns ls)) nD));have s23:=ai (o:=.dK (tab ns ls)) nD;have hD:=af (H:=H2) (a:=D) (o:=.dK (tab ns ls));generalize upd H2 D (.dK (tab ns ls))=H3 at s3 s23 hD⊢;have get:∀{HH:Hp} {z:Str},au H3 HH->z∈ns->∃l,iz HH D (.str z) (some (.ref l))/\HH l=some (.lst (bY (up z).choose)):=λ{HH z} sH hz=>by
   obtain⟨j,hj,e⟩:=aa7 hz;have ej:ns[j]?=some z:=by rw[<-e];exact aam hj
   have lj:j<ls.length:=by omega
   obtain⟨y,ey,hy⟩:=al j ls[j] (aam lj);rw[ej] at ey;cases ey;have g:=iz.k (k:=Sum.inr z) (sH _ _ hD);rw[wd nd ej (aam lj)] at g;exact⟨ls[j],g,(s23.trans sH) _ _ hy⟩
  refine⟨(by decide),λfo IH=>?_⟩;have s4:=s3.trans (ai (o:=.lst []) IH);have Sx:=ai (o:=.lst []) IH;have HK:=af (H:=H3) (a:=fo) (o:=.lst []);have Sy:=s3.free IH;generalize upd H3 fo (.lst [])=H4 at s4 Sx HK⊢;have Eu:(cP z0 zss).length=zss.length:=by unfold cP;rw[aak]
  refine⟨_,rfl,b,rfl,⟨_,aj.of (s4 _ _ hb)⟩,wA (K:=K) (xs:=(cP z0 zss).map V.str) (λi σ HH=>∃v7 v8 v9 us,σ=[some (.ref x),some (.ref t),some (.ref a),some (.ref b),some (.ref c),some (.ref D),some (.ref fo),v7,v8,v9]/\au H HH/\au H3 HH/\HH fo=some (.lst (us.map V.ref))/\us.length=i/\aP HH us (zss.take i)) ⟨_,_,_,[],rfl,s4,Sx,HK,rfl,.nil⟩ ?_ ?_ ?_⟩
  ·rintro i σ HH _ ⟨_,_,_,_,rfl,sH,_⟩;exact aj.of (sH _ _ hb)
  ·rintro i v σ HH qn hv ⟨v7,v8,v9,us,rfl,sH,s3H,tD,eu,cu⟩ YW;rw[aaq] at hv;obtain⟨se,II,rfl⟩:=aar.mp hv;have hi:i<zss.length:=by rw[<-Eu];exact(aaH.mp II).1
   have ez:=aam hi;have ic:=ics _ (abd hi);have BC:se=if z0∈zss[i] then ("out" : Str) else "in" := by unfold cP at II;rw[aaq,ez] at II;exact(aaS II).symm
   have t5:=ai (o:=.tup [.int i,.str se]) YW;have gJ:=af (H:=HH) (a:=qn) (o:=.tup [.int i,.str se]);generalize upd HH qn (.tup [.int i,.str se])=H5 at t5 gJ⊢;refine⟨qn,_,rfl,aL.of gJ,rfl,_,_,rfl,_,_,rfl,rfl,?_⟩;have s5:=sH.trans t5;have YX:=s3H.trans t5;obtain⟨d6,f6,q6,r6⟩:=(hW.same s5).gA "places";refine⟨_,rfl,x,d6,f6,rfl,q6,r6,x,ms,ps,rfl,hW.same s5,λl6 n6=>?_⟩;rw[er];have t6:=ai (o:=.lst (ns.map V.str)) n6;have h6:=af (H:=H5) (a:=l6) (o:=.lst (ns.map V.str));generalize upd H5 l6 (.lst (ns.map V.str))=H6 at t6 h6⊢;have YY:=YX.trans t6;refine⟨l6,rfl,⟨_,aj.of h6⟩,cA (K:=K) (xs:=ns.map V.str) (λj ys H7=>H7=H6/\ys=((ns.take j).filter λz=>decide (z∈bX (aM ms z0 zss) i)).map V.str) ⟨rfl,rfl⟩ ?_ ?_ ?_ ?_⟩
   ·rintro j ys H7 hj ⟨_,rfl⟩;rw[aak];exact aap (aa' _ _) (aap (by rw[aaR];exact abF _ _) (by omega))
   ·rintro j ys H7 _ ⟨rfl,_⟩;exact aj.of h6
   ·rintro j v ys H7 R hv ⟨rfl,rfl⟩ kR;rw[aaq] at hv;obtain⟨z,ej,rfl⟩:=aar.mp hv;obtain⟨l,g1,g2⟩:=get YY (aat ej);obtain⟨_,_,u3,_⟩:=(up z).choose_spec;have fin:((ns.take (j+1)).filter λz=>decide (z∈bX (aM ms z0 zss) i)).map V.str=((ns.take j).filter λz=>decide (z∈bX (aM ms z0 zss) i)).map V.str++(if decide (z∈bX (aM ms z0 zss) i)=true then [V.str z] else []):=by rw[aaI,ej,abt,aaY];congr 1;rw[abL,abv];split<;>rfl
    simp only[bh];refine⟨_,rfl,_,_,rfl,rfl,_,rfl,_,rfl,D,.ref l,rfl,g1,l,_,rfl,.inl (aj.of g2),rfl,xQ _,_,rfl,?_⟩;simp only[aaB,aa3];rw[show((i:Int)+1)=(((i+1:Nat)):Int) by omega,zS];have em:(i+1∈(up z).choose) ↔ z∈bX (aM ms z0 zss) i:=by rw[u3];exact⟨λ⟨i',e,_,h⟩=>by rw[show i=i' by omega];exact h,λh=>⟨i,rfl,by rw[rA];exact hi,h⟩⟩
    rw[decide_eq_decide.mpr em];refine cR (λc=>⟨_,rfl,kR _ _ ⟨rfl,?_⟩⟩) (λc=>kR _ _ ⟨rfl,?_⟩)
    ·rw[fin,if_pos c]
    ·rw[fin,if_neg c,abr]
   rintro ys H7 ⟨rfl,rfl⟩ l8 n8;rw[aak,acW,j6 hi];have NJ:=λz=>sW (z0:=z0) er ic.aU.ins z;have t8:=ai (o:=.lst ((ns.filter λz=>decide (z∈jA ms z0 zss[i])).map V.str)) n8;have h8:=af (H:=H7) (a:=l8) (o:=.lst ((ns.filter λz=>decide (z∈jA ms z0 zss[i])).map V.str));generalize upd H7 l8 (.lst ((ns.filter λz=>decide (z∈jA ms z0 zss[i])).map V.str))=H8 at t8 h8⊢;have sH8:=t5.trans (t6.trans t8);have s8:=sH.trans sH8;refine⟨_,rfl,.inl ⟨rfl,_,aj.of (sH8 _ _ tD)⟩,_,rfl,rfl,_,rfl,?_⟩;have self:=Es nd rise ic.aU.nd ic.aU.rise ic.aU.ins;have add:∀{HX:Hp} {tq:Addr},au HH HX->HX tq=some (.tup (zss[i].map V.str))->∃v7 v8 v9 us',([some (.ref x),some (.ref t),some (.ref a),some (.ref b),some (.ref c),some (.ref D),some (.ref fo),some (.int i),some (.str se),some (.ref l8)]:L2.St)=[some (.ref x),some (.ref t),some (.ref a),some (.ref b),some (.ref c),some (.ref D),some (.ref fo),v7,v8,v9]/\au H (upd HX fo (.lst (us.map V.ref++[.ref tq])))/\au H3 (upd HX fo (.lst (us.map V.ref++[.ref tq])))/\(upd HX fo (.lst (us.map V.ref++[.ref tq]))) fo=some (.lst (us'.map V.ref))/\us'.length=i+1/\aP (upd HX fo (.lst (us.map V.ref++[.ref tq]))) us' (zss.take (i+1)):=λ{HX tq} sX YZ=>by refine⟨_,_,_,us++[tq],rfl,au.ba (sH.trans sX) Sy,au.ba (s3H.trans sX) IH,by rw[af,aaY];rfl,by simp[eu],?_⟩;rw[aaI,ez];exact((cu.same sX).snoc YZ).mono λt' xs e=>by rw[L2.aq (cF e (sX _ _ tD) (by intro z;cases z))];exact e
   have Sz:(us.map V.ref).length<sizeLine:=by rw[aak];omega
   by_cases c0:z0∈zss[i]
   ·rw[if_pos c0] at BC;subst BC;rw[aaz (show ¬ V.str "out" = V.str "in" by decide)];have NK:((aF ms).filter λz=>!decide (z∈ns.filter λz=>decide (z∈jA ms z0 zss[i])))=zss[i]:=by
     rw[er];refine afX (acP λz hz=>?_) self
     have:=NJ z
     rw[if_pos c0] at this;by_cases c:z∈zss[i]<;>simp[aaU,this,hz,c]
    refine aZ ⟨_,rfl,_,rfl,x,l8,ms,ps,_,rfl,hW.same s8,HJ,h8,λl9 H9 n9 h9 s9=>⟨l9,_,rfl,.inl ⟨aj.of h9,λtq Em=>?_⟩⟩⟩;rw[NK];have uR:=sH8.trans (s9.trans (ai (o:=.tup (zss[i].map V.str)) Em));exact⟨fo,_,_,rfl,rfl,uR _ _ tD,Sz,add uR af⟩
   ·rw[if_neg c0] at BC;subst BC;rw[decide_eq_true rfl];have NK:(ns.filter λz=>decide (z∈jA ms z0 zss[i]))=zss[i]:=by
     refine afX (acP λz hz=>?_) self
     have:=NJ z
     rw[if_neg c0] at this;by_cases c:z∈zss[i]<;>simp[this,hz,c]
    rw[NK] at h8;refine bo ⟨_,rfl,l8,_,rfl,.inl ⟨aj.of h8,λtq Em=>?_⟩⟩;have uR:=sH8.trans (ai (o:=.tup (zss[i].map V.str)) Em);exact⟨fo,_,_,rfl,rfl,uR _ _ tD,Sz,add uR af⟩
  ·rintro σ HH ⟨v7,v8,v9,us,rfl,sH,_,tD,eu,cu⟩;rw[aak,Eu,acW] at cu;exact⟨_,rfl,k fo us HH Sy tD cu sH⟩
end
end dJ
namespace L2
open PySem PySem.Spec PyProof.Rows
abbrev cs(z:Str):List Nat:=z.cps.toList
def jn(sep:List Nat):List (List Nat)->List Nat
 |[]=>[]
 |[x]=>x
 |x::y::r=>x++sep++jn sep (y::r)
theorem Kt{X:Cx}{body:List Stmt}{h₀:ExceptHandler}{hs:List ExceptHandler}{pos:Pos}{t:TS}(hb:j9 X.yD body t):PS X (.Try body (h₀::hs) [] [] pos) t:=λpins s σ H D I hw=>by refine wpAny_Try_except (wpAny_mono (hb pins s σ H D (I.jH _) hw) (λf s1 q=>?_) λ_ _ z=>z.elim);cases f<;>first|exact wpAny_execs_nil q.gQ|exact q.gQ
end L2
namespace dJ
open PySem PySem.Spec PyProof.Rows L2 L3
abbrev xR:Stmt:=top 67 -- Wh
theorem mU{K:PySem.W.Frag}{H:Hp}{p q:Addr}{us vs:List Addr}{zss:List (List Str)}{n:Nat}(hp:aj K H p (us.map V.ref))(hq:aj K H q (vs.map V.ref))(hC:aP H us zss)(hD:aP H vs zss):lE K H (n+1) (.ref p) (.ref q):=
 ⟨p,q,_,_,rfl,rfl,.inl ⟨hp,hq⟩,by rw[aak,aak,hC.len,hD.len],λi a b ea eb=>by rw[aaq] at ea eb;obtain⟨u,eu,rfl⟩:=aar.mp ea;obtain⟨v,ev,rfl⟩:=aar.mp eb;obtain⟨zs,ez,hu⟩:=hC.get eu;obtain⟨MK,xD,hv⟩:=hD.get ev;rw[ez] at xD;cases xD;refine .inr ⟨u,v,_,_,rfl,rfl,.inr ⟨aL.of hu,aL.of hv⟩,rfl,λj c d ec ed=>?_⟩;rw[ec] at ed;cases ed;obtain⟨z,_,rfl⟩:=aaN.mp (aat ec);exact Al.txt⟩
theorem NL{K:PySem.W.Frag}{H:Hp}{r r' h q h' q':Addr}{n:Nat}(hr:H r=some (.tup [.ref h,.ref q]))(hr':H r'=some (.tup [.ref h',.ref q']))(a1:lE K H n (.ref h) (.ref h'))(a2:lE K H n (.ref q) (.ref q')):lE K H (n+1) (.ref r) (.ref r'):=
 ⟨r,r',_,_,rfl,rfl,.inr ⟨aL.of hr,aL.of hr'⟩,rfl,λi a b ea eb=>by
  match i with
  |0=>cases ea;cases eb;exact a1.al
  |1=>cases ea;cases eb;exact a2.al
  |i+2=>cases ea⟩
theorem Ew{K:PySem.W.Frag}{H:Hp}{p q:Addr}{us vs:List Addr}{ps:List (Nat×Nat)}{n:Nat}(hp:aj K H p (us.map V.ref))(hq:aj K H q (vs.map V.ref))(hC:bN H us ps)(hD:bN H vs ps):lE K H (n+1) (.ref p) (.ref q):=
 ⟨p,q,_,_,rfl,rfl,.inl ⟨hp,hq⟩,by rw[aak,aak,hC.len,hD.len],λi a b ea eb=>by
  rw[aaq] at ea eb;obtain⟨u,eu,rfl⟩:=aar.mp ea;obtain⟨v,ev,rfl⟩:=aar.mp eb;obtain⟨zs,ez,hu⟩:=hC.get eu;obtain⟨MK,xD,hv⟩:=hD.get ev;rw[ez] at xD;cases xD;refine .inr ⟨u,v,_,_,rfl,rfl,.inr ⟨aL.of hu,aL.of hv⟩,rfl,λj c d ec ed=>?_⟩;rw[ec] at ed;cases ed;have fl:dk c=true:=by
   have:=aat ec
   simp only[aav,ab3,or_false] at this;rcases this with rfl|rfl<;>rfl
  cases n
  ·exact⟨fl,rfl⟩
  ·exact .inl ⟨fl,rfl⟩⟩
theorem GoodW.perm{ns ms:List Str}{ps:List (Str×Str)}(g:GoodW ns ps)(p:ms.Perm ns):GoodW ms ps:=⟨g.good.perm p,λq hq=>⟨p.mem_iff.mpr (g.ins q hq).1,p.mem_iff.mpr (g.ins q hq).2⟩,g.aJ⟩
theorem mV{K:PySem.W.Frag}{H:Hp}{p q:Addr}{l:List Nat}{n:Nat}(hp:H p=some (.lst (bY l)))(hq:H q=some (.lst (bY l))):lE K H n (.ref p) (.ref q):=
 ⟨p,q,_,_,rfl,rfl,.inl ⟨aj.of hp,aj.of hq⟩,rfl,λi a b ea eb=>by
  rw[ea] at eb;cases eb;rw[aaq] at ea;obtain⟨k,_,rfl⟩:=aar.mp ea;cases n
  ·exact⟨rfl,rfl⟩
  ·exact .inl ⟨rfl,rfl⟩⟩
theorem Ex{K:PySem.W.Frag}{H:Hp}{p q:Addr}{l:List Str}{n:Nat}(hp:H p=some (.lst (l.map V.str)))(hq:H q=some (.lst (l.map V.str))):lE K H n (.ref p) (.ref q):=
 ⟨p,q,_,_,rfl,rfl,.inl ⟨aj.of hp,aj.of hq⟩,rfl,λi a b ea eb=>by rw[ea] at eb;cases eb;rw[aaq] at ea;obtain⟨k,_,rfl⟩:=aar.mp ea;exact Al.txt⟩
theorem zT{K:PySem.W.Frag}{H:Hp}{p q:Addr}{l:List Str}{n:Nat}(hp:H p=some (.tup (l.map V.str)))(hq:H q=some (.tup (l.map V.str))):lE K H n (.ref p) (.ref q):=
 ⟨p,q,_,_,rfl,rfl,.inr ⟨aL.of hp,aL.of hq⟩,rfl,λi a b ea eb=>by rw[ea] at eb;cases eb;rw[aaq] at ea;obtain⟨k,_,rfl⟩:=aar.mp ea;exact Al.txt⟩
theorem kX.al{K:PySem.W.Frag}{H:Hp}{t u:Addr}{ms:List Str}{z0:Str}{zss:List (List Str)}(h:kX H t ms z0 zss)(k:kX H u ms z0 zss):lE K H 1 (.ref t) (.ref u):=by
 obtain⟨a,b,c,h1,h2,h3,h4⟩:=h.ex;obtain⟨a',b',c',k1,k2,k3,k4⟩:=k.ex;refine⟨t,u,_,_,rfl,rfl,.inr ⟨aL.of h1,aL.of k1⟩,rfl,λi v w ev ew=>?_⟩;match i with
 |0=>cases ev;cases ew;exact(mV h2 k2).al
 |1=>cases ev;cases ew;exact(Ex h3 k3).al
 |2=>cases ev;cases ew;exact(mV h4 k4).al
 |i+3=>cases ev
structure Hg(C:Addr)(H:Hp)(x:Addr)(ns ms:List Str)(ps:List (Str×Str))(zss:List (List Str))(z0:Str):Prop where
 zU:a8 C H x ms ps
 pm:ms.Perm ns
 good:GoodW ns ps
 hh:fY ns ps
 sn:aF ns=ns
 e0:ns[0]?=some z0
 j5:rB ns ps zss
 aJ:zss.length<=100
theorem Hg.same{C:Addr}{H H':Hp}{x:Addr}{ns ms:List Str}{ps:List (Str×Str)}{zss:List (List Str)}{z0:Str}(h:Hg C H x ns ms ps zss z0)(s:au H H'):Hg C H' x ns ms ps zss z0:={h with zU:=h.zU.same s}
theorem Hg.em{C:Addr}{H:Hp}{x:Addr}{ns ms:List Str}{ps:List (Str×Str)}{zss:List (List Str)}{z0:Str}(h:Hg C H x ns ms ps zss z0):aF ms=ns:=by rw[gX h.pm,h.sn]
theorem Hg.lam{C:Addr}{H:Hp}{x:Addr}{ns ms:List Str}{ps:List (Str×Str)}{zss:List (List Str)}{z0:Str}(h:Hg C H x ns ms ps zss z0):rC (aM ms z0 zss):=Nk h.good h.hh h.j5 h.em (aat h.e0)
theorem Hg.two{C:Addr}{H:Hp}{x:Addr}{ns ms:List Str}{ps:List (Str×Str)}{zss:List (List Str)}{z0:Str}(h:Hg C H x ns ms ps zss z0):zss.length<2*ms.length:=by
 have h0:=aat h.e0;have key:=h.lam.aJ (g:=er z0 ns) λi hi z hz=>by
  rw[eY] at hi;rw[j6 hi] at hz;have m:=(sW h.em (h.j5.jv _ (abd hi)).aU.ins z).mp hz;refine bM.mpr ⟨m.1,λe=>?_⟩;rw[e] at m;by_cases c:z0∈zss[i]
  ·rw[if_pos c] at m;exact m.2 c
  ·rw[if_neg c] at m;exact c m.2
 rw[eY] at key;have lt:(er z0 ns).length<ns.length:=by
  refine aeL (aa' _ _) λe=>?_
  have:=List.length_filter_eq_length_iff.mp e z0 h0
  simp at this
 have:=h.pm.length_eq
 omega
section
variable {P:Program}{w:World}{K:PySem.W.Frag}{mg:Str->Option Value}{base:Heap}
variable {C oi IJ IK oq:Addr}{j0 BD BE j7:FuncData}
def vn(C:Addr):Sp:=λvs H Q _=>∃(x l:Addr) (ns ms:List Str) (ps:List (Str×Str)) (us:List Addr) (zss:List (List Str)) (z0:Str),vs=[.ref x,.ref l]/\Hg C H x ns ms ps zss z0/\H l=some (.lst (us.map V.ref))/\aP H us zss/\∀(t:Addr) (H':Hp),kX H' t ms z0 zss->au H H'->Q (.ref t) H'
theorem Qe(G:av P w K mg base aB 6 oq j7 ["web","family"] (Eb C)):av P w K mg base aB 6 oq j7 ["web","family"] (vn C):=G.imp λvs H Q E h=>by
 obtain⟨x,l,ns,ms,ps,us,zss,z0,rfl,hg,hl,hC,k⟩:=h;have em:=hg.em;refine⟨x,l,ns,ms,ps,us,zss,z0,rfl,hg.zU,hg.pm,hg.good.perm hg.pm,hg.hh.names hg.pm,by rw[em];exact hg.e0,hl,hC,by rw[hC.len];exact hg.aJ,λzs hz=>⟨hg.j5.jv zs hz,?_⟩,hg.j5.nd,by rw[em];exact hg.j5.steps,λt a b c H' ht ha hb hc _ _ _ _ _ _ s'=>k t H' ⟨a,b,c,ht,ha,hb,hc⟩ s'⟩
 have:=(hg.j5.jv zs hz).less
 have:=hg.good.good.aJ
 omega
def BF(C:Addr):Sp:=λvs H Q _=>∃(x t:Addr) (ns ms:List Str) (ps:List (Str×Str)) (zss:List (List Str)) (z0:Str),vs=[.ref x,.ref t]/\Hg C H x ns ms ps zss z0/\kX H t ms z0 zss/\∀q us H',H' q=some (.lst (us.map V.ref))->aP H' us zss->au H H'->Q (.ref q) H'
abbrev VC:List Str:=["web","tree","family","own"]
theorem BG:aG VC ["web","tree"] (ak xR):=⟨rfl,rfl,rfl,by decide +kernel,rfl,by decide +kernel,by decide +kernel⟩
theorem NM{f:Addr}{fd:FuncData}(F:a7 K "cuts_of" "cuts_of" xR f fd)(DC:Df K mg "check_hangs" oK ["web"] oi j0)(GC:av P w K mg base aB 5 oi j0 ["web"] (rg C))(DT:Df K mg "is_treelike" xK ["web","thing"] IJ BD)(GT:av P w K mg base aB 3 IJ BD ["web","thing"] (NG C))
  (DO:Df K mg "cuts_on" qf ["web","tree"] IK BE) (GO:av P w K mg base aB 3 IK BE ["web","tree"] (NH C)) (DR:Df K mg "tree_of" iZ ["web","family"] oq j7) (GR:av P w K mg base aB 6 oq j7 ["web","family"] (vn C)):av P w K mg base aB 7 f fd ["web","tree"] (BF C):=by
 refine F.ok BG (λvs H Q E h=>?_) (λcdv A outer s H vs Q E hr h=>?_)
 ·obtain⟨x,t,ns,ms,ps,zss,z0,rfl,_⟩:=h;rfl
 ·obtain⟨x,t,ns,ms,ps,zss,z0,rfl,hg,tr,k⟩:=h;have h5:=hr.mono (j:=5) (by decide);have h3:=hr.mono (j:=3) (by decide);refine⟨_,ag (aW (ar GC h5 rfl DC.aK DC.fn.kp DC.b .nil ax (aa (pv 0) ae)))
   (ag (bu (bO (bG (ar GT h3 rfl DT.aK DT.fn.kp DT.b .nil ax (aa (pv 0) (aa (pv 1) ae))) (λ_=>rfl))) (ao cN) aT)
   (ag (aN (i:=2) BG.nd rfl (Or.inl rfl) (ar GO h3 rfl DO.aK DO.fn.kp DO.b .nil ax (aa (pv 0) (aa (pv 1) ae))))
   (ag (Kt (ao (aN (i:=3) BG.nd rfl (Or.inl rfl) (ar GR hr rfl DR.aK DR.fn.kp DR.b .nil ax (aa (pv 0) (aa (pv 2) ae))))))
   (ag (bu (aQ (pP 1 (low 1 hr)) (pv 3) (pv 1) (aV _)) (ao cN) aT)
   (ao (aI (pv 2))))))),?_⟩
  try rw[bw]
  have em:=hg.em;have gm:=hg.good.perm hg.pm;refine⟨_,rfl,x,ms,ps,rfl,hg.zU,gm,hg.hh.names hg.pm,λH1 s1=>?_⟩;refine⟨_,rfl,_,rfl,x,t,ms,ps,zss,z0,rfl,hg.zU.same s1,gm.good.aJ,tr.same s1,hg.aJ,hg.two,λH2 s2=>⟨_,rfl,aZ ?_⟩⟩;have s12:=s1.trans s2;refine⟨_,rfl,_,rfl,x,t,ns,ms,ps,zss,z0,rfl,hg.zU.same s12,hg.good,em,tr.same s12,hg.aJ,hg.lam,hg.j5.jv,λq us H3 nq hq hC s3=>?_⟩;have s13:=s12.trans s3;refine⟨_,rfl,_,rfl,x,q,ns,ms,ps,us,zss,z0,rfl,hg.same s13,hq,hC,λt2 H4 Y0 s4=>?_⟩;have s14:=s13.trans s4;refine⟨_,rfl,_,rfl,Y0.al (tr.same s14),_,rfl,aZ ⟨_,rfl,k q us H4 (s4 _ _ hq) (hC.same s4) s14⟩⟩
end
end dJ
namespace L2
open PySem PySem.Spec PyProof.Rows
section
variable {X:Cx}{CX:jJ}{k:Nat}{f C:Addr}{fd:FuncData}{ps ks:List Str}{sp:Sp}{E:XK}{x m:Str}{p pos apos Lh:Pos}{o:Expr}{kws:List Keyword}{te ta:TE}{t tk:TA}
variable {g:List Value->List Value->List Value}{gV:List V->List V->List V}
theorem cQ(F:av X.prog X.w X.K X.mg X.base CX k f fd ps sp)(hr:cW k X.A)(hg:Gl X x)(hm:X.mg x=some (.ref f))(hk:PySem.W.keepIn X.K (.ref f)=true)(hb:k9 X.K fd ps ks g gV)(hx:Passes CX X E)
  (hkw:PK X kws tk) (hall:(backToKw pos (keywordEach kws X.env)).all (·.1.isSome)=true:=by rfl) (hks:(backToKw pos (keywordEach kws X.env)).filterMap (·.1)=ks:=by rfl)
  (hdb:(x==("__debug__" : Str))=false:=by decide)
  (hpl:((backTo pos (starEach [] X.env)).any (·.1)||(backToKw pos (keywordEach kws X.env)).any (·.1.isNone))=false:=by rfl) :
  PE X (.Call (.Name x p) [] kws pos) (Li sp gV E d7 tk):=by
 intro pins s σ H Q I h;refine abB (ou I hg hm ?_ hdb);refine PySem.W.callWith_KW0 (h₀:=X.base) I.ok.mod.BP hk hall (aH (hkw pos pins s σ H _ I h) λws s2 ⟨zs,H2,I2,rz,q2⟩=>⟨I2.eQ,?_⟩) hpl;rw[hks];exact Je (us:=[]) (vs:=[]) F hr hb hx I2 .nil rz q2
end
end L2
namespace dJ
open PySem PySem.Spec PyProof.Rows L2 L3
abbrev xU:Stmt:=top 82 -- Qf
abbrev xV:Stmt:=top 83 -- IL
def g2{α:Type}:List α->List α->List α | [],[a,b]=>[a,b]|_,_=>[]
def IM{α:Type}:List α->List α->List α | [],[a,b]=>[b,a]|_,_=>[]
def g3{α:Type}:List α->List α->List α | [],[a,b,c]=>[a,b,c]|_,_=>[]
def IP{α:Type}:List α->List α->List α | [],[a,b,c]=>[c,b,a]|_,_=>[]
theorem Qg{vs zs:List V}{us ws:List Value}(r:Vals vs us)(q:Vals zs ws):Vals (g2 vs zs) (g2 us ws):=by
 match vs,us,r,zs,ws,q with
 |[],_,.nil,[],_,.nil=>exact .nil
 |[],_,.nil,[a],_,.cons h .nil=>exact .nil
 |[],_,.nil,[a,b],_,.cons h (.cons h2 .nil)=>exact .cons h (.cons h2 .nil)
 |[],_,.nil,a::b::c::l,_,.cons h (.cons h2 (.cons h3 t))=>exact .nil
 |x::l,_,.cons h t,_,_,_=>exact .nil
theorem NN{vs zs:List V}{us ws:List Value}(r:Vals vs us)(q:Vals zs ws):Vals (IM vs zs) (IM us ws):=by
 match vs,us,r,zs,ws,q with
 |[],_,.nil,[],_,.nil=>exact .nil
 |[],_,.nil,[a],_,.cons h .nil=>exact .nil
 |[],_,.nil,[a,b],_,.cons h (.cons h2 .nil)=>exact .cons h2 (.cons h .nil)
 |[],_,.nil,a::b::c::l,_,.cons h (.cons h2 (.cons h3 t))=>exact .nil
 |x::l,_,.cons h t,_,_,_=>exact .nil
theorem Qh{vs zs:List V}{us ws:List Value}(r:Vals vs us)(q:Vals zs ws):Vals (g3 vs zs) (g3 us ws):=by
 match vs,us,r,zs,ws,q with
 |[],_,.nil,[],_,.nil=>exact .nil
 |[],_,.nil,[a],_,.cons h .nil=>exact .nil
 |[],_,.nil,[a,b],_,.cons h (.cons h2 .nil)=>exact .nil
 |[],_,.nil,[a,b,c],_,.cons h (.cons h2 (.cons h3 .nil))=>exact .cons h (.cons h2 (.cons h3 .nil))
 |[],_,.nil,a::b::c::d::l,_,.cons h (.cons h2 (.cons h3 (.cons h4 t)))=>exact .nil
 |x::l,_,.cons h t,_,_,_=>exact .nil
theorem NO{vs zs:List V}{us ws:List Value}(r:Vals vs us)(q:Vals zs ws):Vals (IP vs zs) (IP us ws):=by
 match vs,us,r,zs,ws,q with
 |[],_,.nil,[],_,.nil=>exact .nil
 |[],_,.nil,[a],_,.cons h .nil=>exact .nil
 |[],_,.nil,[a,b],_,.cons h (.cons h2 .nil)=>exact .nil
 |[],_,.nil,[a,b,c],_,.cons h (.cons h2 (.cons h3 .nil))=>exact .cons h3 (.cons h2 (.cons h .nil))
 |[],_,.nil,a::b::c::d::l,_,.cons h (.cons h2 (.cons h3 (.cons h4 t)))=>exact .nil
 |x::l,_,.cons h t,_,_,_=>exact .nil
section
variable {K:PySem.W.Frag}{f:Addr}{fd:FuncData}{x qual p q r:Str}{st:Stmt}
abbrev BA(x qual:Str)(st:Stmt)(as:List Value)(kw:List (Str×Value))(bs:List (Str×Value)):Prop:=∀(kV doc pm:Value) (an:Option Addr) (cdv ct:Value),bindArgs (PySem.W.fnOf x qual (dG st) (dm st) (ak st) .none kV doc pm an cdv ct) ⟨as,kw⟩=pure bs
theorem BH(F:a7 K x qual st f fd)(h:∀a b,BA x qual st [] [(p,a),(q,b)] [(p,a),(q,b)]):k9 K fd [p,q] [p,q] g2 g2:=by
 refine⟨λs us ws _ hl=>?_,Qg⟩;obtain⟨oc,od,kV,doc,pm,an,cdv,ct,osl,rfl,lk,hcd⟩:=F.ex;match us,ws,hl with
 |[],[a,b],_=>exact adp (h a b kV doc pm an cdv ct)
theorem vo(F:a7 K x qual st f fd)(h:∀a b,BA x qual st [] [(q,a),(p,b)] [(p,b),(q,a)]):k9 K fd [p,q] [q,p] IM IM:=by
 refine⟨λs us ws _ hl=>?_,NN⟩;obtain⟨oc,od,kV,doc,pm,an,cdv,ct,osl,rfl,lk,hcd⟩:=F.ex;match us,ws,hl with
 |[],[a,b],_=>exact adp (h a b kV doc pm an cdv ct)
theorem Gm(F:a7 K x qual st f fd)(h:∀a b c,BA x qual st [] [(p,a),(q,b),(r,c)] [(p,a),(q,b),(r,c)]):k9 K fd [p,q,r] [p,q,r] g3 g3:=by
 refine⟨λs us ws _ hl=>?_,Qh⟩;obtain⟨oc,od,kV,doc,pm,an,cdv,ct,osl,rfl,lk,hcd⟩:=F.ex;match us,ws,hl with
 |[],[a,b,c],_=>exact adp (h a b c kV doc pm an cdv ct)
theorem Qi(F:a7 K x qual st f fd)(h:∀a b c,BA x qual st [] [(r,a),(q,b),(p,c)] [(p,c),(q,b),(r,a)]):k9 K fd [p,q,r] [r,q,p] IP IP:=by
 refine⟨λs us ws _ hl=>?_,NO⟩;obtain⟨oc,od,kV,doc,pm,an,cdv,ct,osl,rfl,lk,hcd⟩:=F.ex;match us,ws,hl with
 |[],[a,b,c],_=>exact adp (h a b c kV doc pm an cdv ct)
end
theorem Ku{us:List Addr}(h:us.length-1<us.length):eF (us.map V.ref) (-1)=some (.ref us[us.length-1]):=by
 have e:nr (us.map V.ref).length (-1)=some (us.length-1):=by unfold nr;rw[aak,if_neg (by decide),if_pos (by omega)];congr 1;omega
 unfold eF;rw[e];show(us.map V.ref)[us.length-1]?=_
 rw[aaq,aam h];rfl
theorem zV(xs:List V):rN xs none (some 1)=xs.take 1:=by
 unfold rN;rw[HT.EO,List.drop_zero,afW];cases xs with
 |nil=>simp
 |cons a r=>simp[HT.i6]
section
variable {P:Program}{w:World}{K:PySem.W.Frag}{mg:Str->Option Value}{base:Heap}
structure SA(P:Program)(w:World)(K:PySem.W.Frag)(mg:Str->Option Value)(base:Heap)(C xW IQ xX xY xZ x6 oh:Addr)(fdEn BI qg qh qi qj jZ:FuncData):Prop where
 den:Df K mg "entered" wX ["web","family"] xW fdEn
 gen:av P w K mg base aB 6 xW fdEn ["web","family"] (HP C)
 dst:Df K mg "steps_of" nZ ["web","family"] IQ BI
 Y1:av P w K mg base aB 6 IQ BI ["web","family"] (zo C)
 zW:Df K mg "uncrossed" xG ["web","family"] xX qg
 Y2:av P w K mg base aB 6 xX qg ["web","family"] (ID C)
 zX:Df K mg "cross" lJ ["web","cut","other"] xY qh
 Y3:av P w K mg base aB 6 xY qh ["web","cut","other"] (zh C λns xs ys _ _ r _=>r=.bl (bS ns xs ys))
 zY:Df K mg "meet" qX ["web","cut","other"] xZ qi
 Y4:av P w K mg base aB 6 xZ qi ["web","cut","other"] (zh C λns xs ys l _ r H'=>r=.ref l/\H' l=some (.tup ((both ns xs ys).map V.str)))
 zZ:Df K mg "join" qY ["web","cut","other"] x6 qj
 Y5:av P w K mg base aB 6 x6 qj ["web","cut","other"] (zh C λns xs ys l _ r H'=>r=.ref l/\H' l=some (.tup ((either ns xs ys).map V.str)))
 z4:Df K mg "stepped" jX ["web","family","step"] oh jZ
 Y6:av P w K mg base aB 6 oh jZ ["web","family","step"] (uK C)
variable {C xW IQ xX xY xZ x6 oh oq z5:Addr}{fdEn BI qg qh qi qj jZ j7 tE:FuncData}
def NP(C:Addr):Sp:=λvs H Q _=>∃(x l:Addr) (ns ms:List Str) (ps:List (Str×Str)) (us:List Addr) (zss:List (List Str)),vs=[.ref x,.ref l]/\Dr C H x l ns ms ps us zss/\aF ns=ns/\GoodW ns ps/\∀H',au H H'->Q (.bl true) H'
abbrev Y7:List Str:=["_law_made","_law_lot","_law_said","_law_one","_law_last","_law_pair"]
abbrev pq:List Str:=["_law_made","_law_lot"]
theorem x8:aG Y7 pq (ak xU):=⟨rfl,rfl,rfl,by decide +kernel,rfl,by decide +kernel,by decide +kernel⟩
abbrev iO(n:Nat):List V:=(List.replicate n true).map V.bl
theorem Gn(n:Nat):iO n++[V.bl true]=iO (n+1):=by unfold iO;rw[acg,aaY];rfl
theorem Qj{f:Addr}{fd:FuncData}(F:a7 K "_law_named" "_law_named" xU f fd)(B:SA P w K mg base C xW IQ xX xY xZ x6 oh fdEn BI qg qh qi qj jZ)(T:bt mg):av P w K mg base aB 7 f fd pq (NP C):=by
 have Gen:=B.gen;have NQ:=B.Y1;have SD:=B.Y2;have SE:=B.Y3;have SF:=B.Y4;have SG:=B.Y5;have SH:=B.Y6;have k1:=BH (p:="web") (q:="family") B.den.fn λ_ _ _ _ _ _ _ _=>rfl;have k2:=vo (p:="web") (q:="family") B.den.fn λ_ _ _ _ _ _ _ _=>rfl;have k3:=BH (p:="web") (q:="family") B.dst.fn λ_ _ _ _ _ _ _ _=>rfl;have k4:=vo (p:="web") (q:="family") B.zW.fn λ_ _ _ _ _ _ _ _=>rfl;have k5:=Gm (p:="web") (q:="cut") (r:="other") B.zX.fn λ_ _ _ _ _ _ _ _ _=>rfl;have k6:=Qi (p:="web") (q:="cut") (r:="other") B.zY.fn λ_ _ _ _ _ _ _ _ _=>rfl;have k7:=Gm (p:="web") (q:="cut") (r:="other") B.zZ.fn λ_ _ _ _ _ _ _ _ _=>rfl;have k8:=Gm (p:="web") (q:="family") (r:="step") B.z4.fn λ_ _ _ _ _ _ _ _ _=>rfl;refine F.ok x8 (λvs H Q E h=>?_) (λcdv A outer s H vs Q E hr h=>?_)
 ·obtain⟨x,l,ns,ms,ps,us,zss,rfl,_⟩:=h;rfl
 ·obtain⟨x,l,ns,ms,ps,us,zss,rfl,rH,sn,gw,k⟩:=h;refine⟨_,ag (aN (i:=2) x8.nd rfl (Or.inl rfl) (bR (aa (bL (ff 0 (low 0 hr)) (cQ Gen hr rfl B.den.aK B.den.fn.kp k1 ax (br (pv 0) (br (pv 1) fj))) (ar Gen hr rfl B.den.aK B.den.fn.kp B.den.b .nil ax (aa (pv 0) (aa (pv 1) ae))) (aV _))
     (aa (bL (ff 0 (low 0 hr)) (cQ Gen hr rfl B.den.aK B.den.fn.kp k2 ax (br (pv 1) (br (pv 0) fj))) (ar Gen hr rfl B.den.aK B.den.fn.kp B.den.b .nil ax (aa (pv 0) (aa (pv 1) ae))) (aV _)) ae))))
   (ag (aW (cT aaJ aaO aaP bH (pv 2) (aa (bL (ff 1 (low 1 hr)) (cQ NQ hr rfl B.dst.aK B.dst.fn.kp k3 ax (br (pv 0) (br (pv 1) fj))) (ar NQ hr rfl B.dst.aK B.dst.fn.kp B.dst.b .nil ax (aa (pv 0) (aa (pv 1) ae))) (aV _)) ae)))
   (ag (aW (cT aaJ aaO aaP bH (pv 2) (aa (bL (ff 2 (low 2 hr)) (cQ SD hr rfl B.zW.aK B.zW.fn.kp k4 ax (br (pv 1) (br (pv 0) fj))) (ar SD hr rfl B.zW.aK B.zW.fn.kp B.zW.b .nil ax (aa (pv 0) (aa (pv 1) ae))) (aV _)) ae)))
   (ag (cJ aaW rfl (bg (vJ yM (pv 1) yJ (yK aE))) (aD (i:=3) x8.nd rfl (Or.inl rfl))
    (ag (aN (i:=4) x8.nd rfl (Or.inl rfl) (bj aX (pv 1) (Pa Ld aE) (λ_ _=>rfl)))
    (ag (aW (cT aaJ aaO aaP bH (pv 2) (aa (bL iW (cQ SE hr rfl B.zX.aK B.zX.fn.kp k5 ax (br (pv 0) (br (pv 3) (br (pv 4) fj)))) (ar SE hr rfl B.zX.aK B.zX.fn.kp B.zX.b .nil ax (aa (pv 0) (aa (pv 3) (aa (pv 4) ae)))) (aV _)) ae)))
    (ag (aW (cT aaJ aaO aaP bH (pv 2) (aa (bL (ff 0 (low 0 hr)) (cQ SF hr rfl B.zY.aK B.zY.fn.kp k6 ax (br (pv 4) (br (pv 3) (br (pv 0) fj)))) (ar SF hr rfl B.zY.aK B.zY.fn.kp B.zY.b .nil ax (aa (pv 0) (aa (pv 3) (aa (pv 4) ae)))) (aV _)) ae)))
    (ao (aW (cT aaJ aaO aaP bH (pv 2) (aa (bL (ff 0 (low 0 hr)) (cQ SG hr rfl B.zZ.aK B.zZ.fn.kp k7 ax (br (pv 0) (br (pv 3) (br (pv 4) fj)))) (ar SG hr rfl B.zZ.aK B.zZ.fn.kp B.zZ.b .nil ax (aa (pv 0) (aa (pv 3) (aa (pv 4) ae)))) (aV _)) ae))))))))
   (ag (cJ aaW rfl (bg (vJ yM (ar NQ hr rfl B.dst.aK B.dst.fn.kp B.dst.b .nil ax (aa (pv 0) (aa (pv 1) ae))) yJ (yK aE))) (aD (i:=5) x8.nd rfl (Or.inl rfl))
    (ao (aW (cT aaJ aaO aaP bH (pv 2) (aa (bL (ff 1 (low 1 hr)) (cQ SH hr rfl B.z4.aK B.z4.fn.kp k8 ax (br (pv 0) (br (pv 1) (br (pv 5) fj)))) (ar SH hr rfl B.z4.aK B.z4.fn.kp B.z4.b .nil ax (aa (pv 0) (aa (pv 1) (aa (pv 5) ae)))) (aV _)) ae)))))
   (ao (aI (ay (gg rfl) (by rfl) T.all acV (aa (pv 2) ae)))))))),?_⟩
  try rw[bw]
  have big:1000<=sizeLine:=by decide
  obtain⟨hW,pm,gm,hl,hC,all,lu⟩:=rH;have em:aF ms=ns:=by rw[gX pm,sn]
  have rH:∀{HH:Hp},au H HH->Dr C HH x l ns ms ps us zss:=λs=>⟨hW.same s,pm,gm,s _ _ hl,hC.same s,all,lu⟩
  have BJ:∀{HH:Hp},au H HH->Mv C HH x l ns ms ps us zss:=λs=>⟨hW.same s,pm,gm,s _ _ hl,hC.same s,all⟩
  refine⟨_,rfl,_,rfl,x,l,ns,ms,ps,us,zss,rfl,BJ (au.refl _),λq1 H1 n1 h1 s1=>?_⟩;refine⟨_,rfl,_,rfl,x,l,ns,ms,ps,us,zss,rfl,BJ s1,λq2 H2 n2 h2 s2=>⟨mV (s2 _ _ h1) h2,?_⟩⟩;have s02:=s1.trans s2;refine⟨_,rfl,_,rfl,x,l,ns,ms,ps,us,zss,rfl,BJ s02,λq3 H3 n3 h3 s3=>?_⟩;have s03:=s02.trans s3;refine⟨_,rfl,_,rfl,x,l,ns,ms,ps,us,zss,rfl,BJ s03,λq4 H4 n4 h4 s4=>⟨mV (s4 _ _ h3) h4,?_⟩⟩;have s04:=s03.trans s4;refine⟨(by show 2<=sizeLine;decide),λsa Hy=>?_⟩;have Y8:=s04.free Hy;have xy:=s04.trans (ai (o:=.lst [.bl true,.bl true]) Hy);have NR:upd H4 sa (.lst [.bl true,.bl true]) sa=some (.lst (iO 2)):=af;generalize upd H4 sa (.lst [.bl true,.bl true])=H5 at xy NR⊢;have add:∀{HX:Hp} {n:Nat},HX sa=some (.lst (iO n))->n<=100->(iO n).length<sizeLine/\(∀{HY:Hp},au HX HY->HY sa=some (.lst (iO n))/\(au H HX->au H (upd HY sa (.lst (iO n++[.bl true]))))/\upd HY sa (.lst (iO n++[.bl true])) sa=some (.lst (iO (n+1)))):=λ{HX n} hX hn=>⟨by rw[aak,abI];omega,λ{HY} SI=>⟨SI _ _ hX,λsX=>au.ba (sX.trans SI) Y8,by rw[af,Gn]⟩⟩
  refine⟨_,rfl,.inl ⟨rfl,_,aj.of NR⟩,_,rfl,_,rfl,x,l,ns,ms,ps,us,zss,rfl,rH xy,λq6 t6 H6 n6 h6 p6 s6=>?_⟩;have s06:=xy.trans s6;refine⟨_,rfl,_,rfl,x,l,ns,ms,ps,us,zss,rfl,rH s06,λq7 t7 H7 n7 h7 p7 s7=>⟨Ew (aj.of (s7 _ _ h6)) (aj.of h7) (p6.same s7) p7,?_⟩⟩;obtain⟨la,ad⟩:=add NR (by decide);obtain⟨Y9,Y',NS⟩:=ad (s6.trans s7);refine⟨sa,_,_,rfl,rfl,Y9,la,?_⟩;have IS:=Y' xy;generalize upd H7 sa (.lst (iO 2++[.bl true]))=H8 at IS NS⊢;refine⟨_,rfl,.inl ⟨rfl,_,aj.of NS⟩,_,rfl,_,rfl,x,l,ns,ms,ps,us,zss,rfl,rH IS,sn,gw,λr9 a9 b9 u9 t9 z9 e9 H9 _ Za Zb hc9 Zc hp9 _ _ _ Zd s9=>?_⟩;have D8:=IS.trans s9;refine⟨_,rfl,_,rfl,x,l,ns,ms,ps,us,zss,rfl,rH D8,sn,gw,λr10 a10 b10 u10 t10 z10 e10 Ze _ VD VE VF VG VH _ _ _ VI s10=>?_⟩;obtain⟨rfl,rfl⟩:=Zd.det VI;refine⟨NL (s10 _ _ Za) VD (mU (aj.of (s10 _ _ Zb)) (aj.of VE) (hc9.same s10) VF) (Ew (aj.of (s10 _ _ Zc)) (aj.of VG) (hp9.same s10) VH),?_⟩;obtain⟨la,ad⟩:=add NS (by decide);obtain⟨VJ,VL,wZ⟩:=ad (s9.trans s10);refine⟨sa,_,_,rfl,rfl,VJ,la,?_⟩;have s011:=VL IS;generalize upd Ze sa (.lst (iO 3++[.bl true]))=SJ at s011 wZ⊢;refine⟨_,rfl,_,rfl,l,_,rfl,aj.of (s011 _ _ hl),λlo Ey=>?_⟩;rw[zV];have NT:=s011.trans (ai (o:=.lst ((us.map V.ref).take 1)) Ey);have G':=af (H:=SJ) (a:=lo) (o:=.lst ((us.map V.ref).take 1));have IT:=ai (o:=.lst ((us.map V.ref).take 1)) Ey _ _ wZ;have flo:=s011.free Ey;have Gp:lo≠sa:=λe=>by rw[e,wZ] at Ey;cases Ey
  generalize upd SJ lo (.lst ((us.map V.ref).take 1))=H12 at NT G' IT⊢;have l1:((us.map V.ref).take 1).length<=1:=by rw[aaR];omega
  refine⟨lo,rfl,⟨_,aj.of G'⟩,fb (K:=K) (xs:=(us.map V.ref).take 1) (λi σ HH=>∃v3 v4 n,σ=[some (.ref x),some (.ref l),some (.ref sa),v3,v4,none]/\au H HH/\HH sa=some (.lst (iO n))/\n<=4+3*i/\HH lo=some (.lst ((us.map V.ref).take 1))) ⟨_,_,4,rfl,NT,IT,by omega,G'⟩ ?_ ?_ ?_⟩
  ·rintro i σ HH _ ⟨_,_,_,rfl,_,_,_,h⟩;exact aj.of h
  ·rintro i v σ HH hv ⟨v3,v4,n,rfl,sH,hs,n7,VM⟩;have i0:i<1:=aaT (aaH.mp hv).1 l1;have mv:=aeq (aat hv);obtain⟨u,hu,rfl⟩:=aaN.mp mv;obtain⟨j,hj,rfl⟩:=aa7 hu;obtain⟨xs,ex,hx⟩:=hC.get (aam hj);have lj:us.length-1<us.length:=by omega
   obtain⟨ys,ey,hy⟩:=hC.get (aam lj);have ix:=all xs (aat ex);have iy:=all ys (aat ey);have two:∀{HX:Hp},au H HX->RI C HX x us[j] us[us.length-1] ns ms xs ys ps:=λs=>⟨hW.same s,pm,gm,s _ _ hx,s _ _ hy,ix,iy⟩
   refine⟨_,rfl,_,rfl,l,_,_,_,rfl,rfl,aj.of (sH _ _ hl),Ku lj,?_⟩;refine⟨_,rfl,.inl ⟨rfl,_,aj.of hs⟩,_,rfl,_,rfl,_,rfl,x,_,_,ns,ms,xs,ys,ps,rfl,two sH,λr1 _ J1 t1 e1=>?_⟩;refine⟨_,rfl,_,rfl,_,rfl,x,_,_,ns,ms,xs,ys,ps,rfl,two (sH.trans t1),λr2 _ J2 t2 e2=>?_⟩;subst e1 e2;refine⟨rfl,?_⟩;rw[decide_eq_true rfl];obtain⟨la,ad⟩:=add hs (by omega);obtain⟨Zf,Zg,NU⟩:=ad (t1.trans t2);have SK:upd J2 sa (.lst (iO n++[.bl true])) lo=some (.lst ((us.map V.ref).take 1)):=by rw[L2.aq Gp];exact(t1.trans t2) _ _ VM
   refine⟨sa,_,_,rfl,rfl,Zf,la,?_⟩;have sJ:=Zg sH;generalize upd J2 sa (.lst (iO n++[.bl true]))=J3 at sJ NU SK⊢;refine⟨_,rfl,.inl ⟨rfl,_,aj.of NU⟩,_,rfl,_,rfl,_,rfl,x,_,_,ns,ms,xs,ys,ps,rfl,two sJ,λr4 l4 J4 t4 e4=>?_⟩;refine⟨_,rfl,_,rfl,_,rfl,x,_,_,ns,ms,xs,ys,ps,rfl,two (sJ.trans t4),λr5 l5 J5 t5 e5=>?_⟩;obtain⟨rfl,h4⟩:=e4;obtain⟨rfl,h5⟩:=e5;refine⟨zT (t5 _ _ h4) h5,?_⟩;obtain⟨la,ad⟩:=add NU (by omega);obtain⟨Zh,Zi,NV⟩:=ad (t4.trans t5);have SM:upd J5 sa (.lst (iO (n+1)++[.bl true])) lo=some (.lst ((us.map V.ref).take 1)):=by rw[L2.aq Gp];exact(t4.trans t5) _ _ SK
   refine⟨sa,_,_,rfl,rfl,Zh,la,?_⟩;have sK:=Zi sJ;generalize upd J5 sa (.lst (iO (n+1)++[.bl true]))=J6 at sK NV SM⊢;refine⟨_,rfl,.inl ⟨rfl,_,aj.of NV⟩,_,rfl,_,rfl,_,rfl,x,_,_,ns,ms,xs,ys,ps,rfl,two sK,λr7 l7 J7 t7 e7=>?_⟩;refine⟨_,rfl,_,rfl,_,rfl,x,_,_,ns,ms,xs,ys,ps,rfl,two (sK.trans t7),λr8 l8 J8 t8 e8=>?_⟩;obtain⟨rfl,h7⟩:=e7;obtain⟨rfl,h8⟩:=e8;refine⟨zT (t8 _ _ h7) h8,?_⟩;obtain⟨la,ad⟩:=add NV (by omega);obtain⟨Zj,Zk,Zl⟩:=ad (t7.trans t8);refine⟨sa,_,_,rfl,rfl,Zj,la,?_⟩;exact⟨_,_,n+3,rfl,Zk sK,Zl,by omega,by rw[L2.aq Gp];exact(t7.trans t8) _ _ SM⟩
  ·rintro σ HH ⟨v3,v4,n,rfl,sH,hs,n7,_⟩;have n8:n<=7:=by omega
   refine⟨_,rfl,_,rfl,x,l,ns,ms,ps,us,zss,rfl,rH sH,λq1 ts H1 n1 h1 p1 s1=>?_⟩;refine⟨_,rfl,q1,_,rfl,aj.of h1,λlp np=>?_⟩;rw[zV];have s2:=sH.trans (s1.trans (ai (o:=.lst ((ts.map V.ref).take 1)) np));have uV:=af (H:=H1) (a:=lp) (o:=.lst ((ts.map V.ref).take 1));have hs2:=(s1.trans (ai (o:=.lst ((ts.map V.ref).take 1)) np)) _ _ hs;have pr:=p1.same (ai (o:=.lst ((ts.map V.ref).take 1)) np);have M9:lp≠sa:=λe=>by rw[e,s1 _ _ hs] at np;cases np
   generalize upd H1 lp (.lst ((ts.map V.ref).take 1))=H2 at s2 uV hs2 pr⊢;have l1:((ts.map V.ref).take 1).length<=1:=by rw[aaR];omega
   refine⟨lp,rfl,⟨_,aj.of uV⟩,fb (K:=K) (xs:=(ts.map V.ref).take 1) (λi σ HH=>∃v5 n,σ=[some (.ref x),some (.ref l),some (.ref sa),v3,v4,v5]/\au H HH/\HH sa=some (.lst (iO n))/\n<=7+i/\HH lp=some (.lst ((ts.map V.ref).take 1))/\bN HH ts (jh (aF ms) zss)) ⟨_,n,rfl,s2,hs2,by omega,uV,pr⟩ ?_ ?_ ?_⟩
   ·rintro i σ HH _ ⟨_,_,rfl,_,_,_,h,_⟩;exact aj.of h
   ·rintro i v σ HA hv ⟨v5,m,rfl,sA,IU,mA,VN,prA⟩;have i0:i<1:=aaT (aaH.mp hv).1 l1;have mv:=aeq (aat hv);obtain⟨u,hu,rfl⟩:=aaN.mp mv;obtain⟨j,hj,rfl⟩:=aa7 hu;obtain⟨p,ep,hp⟩:=prA.get (aam hj);have mp:=aat ep;unfold jh at mp;obtain⟨Zm,SN⟩:=aaU.mp mp;obtain⟨_,lt,ln⟩:=jW Zm;rw[<-hC.len] at ln;refine⟨_,rfl,.inl ⟨rfl,_,aj.of IU⟩,_,rfl,_,rfl,_,rfl,x,l,_,ns,ms,ps,us,zss,p,rfl,rH sA,hp,lt,ln,SN,λq3 t3 H3 n3 h3 c3 s3=>?_⟩;refine⟨_,rfl,_,rfl,_,rfl,x,l,_,ns,ms,ps,us,zss,p,rfl,rH (sA.trans s3),s3 _ _ hp,lt,ln,SN,λq4 t4 H4 n4 h4 c4 s4=>?_⟩;refine⟨mU (aj.of (s4 _ _ h3)) (aj.of h4) (c3.same s4) c4,?_⟩;obtain⟨la,ad⟩:=add IU (by omega);obtain⟨SO,Zn,Zo⟩:=ad (s3.trans s4);refine⟨sa,_,_,rfl,rfl,SO,la,?_⟩;exact⟨_,m+1,rfl,Zn sA,Zo,by omega,by rw[L2.aq M9];exact(s3.trans s4) _ _ VN,(prA.same (s3.trans s4)).mono λt' xs e=>by rw[L2.aq (cF e SO (by intro z;cases z))];exact e⟩
   ·rintro σ HA ⟨v5,m,rfl,sA,IU,_⟩;refine⟨_,rfl,sa,List.replicate m true,rfl,aj.of IU,?_⟩;have e1:(List.replicate m true).all id=true:=by simp
    rw[e1];exact k _ sA
end
section
variable {P:Program}{w:World}{K:PySem.W.Frag}{mg:Str->Option Value}{base:Heap}
variable {C oq z5:Addr}{j7 tE:FuncData}
def NW(C:Addr):Sp:=λvs H Q _=>∃(x l:Addr) (ns ms:List Str) (ps:List (Str×Str)) (us:List Addr) (zss:List (List Str)) (z0:Str),vs=[.ref x,.ref l]/\Hg C H x ns ms ps zss z0/\H l=some (.lst (us.map V.ref))/\aP H us zss/\∀H',au H H'->Q (.bl true) H'
abbrev Zp:List Str:=["_law_made","_law_lot","_law_told"]
theorem NX:aG Zp pq (ak xV):=⟨rfl,rfl,rfl,by decide +kernel,rfl,by decide +kernel,by decide +kernel⟩
theorem Qk{f:Addr}{fd:FuncData}(F:a7 K "_law_tree_named" "_law_tree_named" xV f fd)(DR:Df K mg "tree_of" iZ ["web","family"] oq j7)(GR:av P w K mg base aB 6 oq j7 ["web","family"] (vn C))(DC:Df K mg "cuts_of" xR ["web","tree"] z5 tE)(GC:av P w K mg base aB 7 z5 tE ["web","tree"] (BF C)):av P w K mg base aB 8 f fd pq (NW C):=by
 have k1:=BH (p:="web") (q:="family") DR.fn λ_ _ _ _ _ _ _ _=>rfl;have k2:=vo (p:="web") (q:="family") DR.fn λ_ _ _ _ _ _ _ _=>rfl;have k3:=BH (p:="web") (q:="tree") DC.fn λ_ _ _ _ _ _ _ _=>rfl;have k4:=vo (p:="web") (q:="tree") DC.fn λ_ _ _ _ _ _ _ _=>rfl;refine F.ok NX (λvs H Q E h=>?_) (λcdv A outer s H vs Q E hr h=>?_)
 ·obtain⟨x,l,ns,ms,ps,us,zss,z0,rfl,_⟩:=h;rfl
 ·obtain⟨x,l,ns,ms,ps,us,zss,z0,rfl,hg,hl,hC,k⟩:=h;have h6:=hr.mono (j:=6) (by decide);refine⟨_,ag (aN (i:=2) NX.nd rfl (Or.inl rfl) (cQ GR h6 rfl DR.aK DR.fn.kp k1 ax (br (pv 0) (br (pv 1) fj))))
   (ag (bu (PW.pt (fG (aQ (pP 1 (low 1 hr)) (pv 2) (ar GR h6 rfl DR.aK DR.fn.kp DR.b .nil ax (aa (pv 0) (aa (pv 1) ae))) (aV _)) (fh (aQ (pP 1 (low 1 hr)) (cQ GR h6 rfl DR.aK DR.fn.kp k2 ax (br (pv 1) (br (pv 0) fj))) (pv 2) (aV _))))) (ao (aI eZ)) aT)
   (ao (aI (eD (bL (ff 1 (low 1 hr)) (cQ GC hr rfl DC.aK DC.fn.kp k3 ax (br (pv 0) (br (pv 2) fj))) (pv 1) (aV _)) (eC (bL (ff 1 (low 1 hr)) (cQ GC hr rfl DC.aK DC.fn.kp k4 ax (br (pv 2) (br (pv 0) fj))) (pv 1) (aV _))))))),?_⟩
  try rw[bw]
  refine⟨_,rfl,_,rfl,x,l,ns,ms,ps,us,zss,z0,rfl,hg,hl,hC,λt1 H1 r1 s1=>?_⟩;refine⟨_,rfl,_,rfl,_,rfl,x,l,ns,ms,ps,us,zss,z0,rfl,hg.same s1,s1 _ _ hl,hC.same s1,λt2 H2 r2 s2=>⟨(r1.same s2).al r2,_,rfl,aZ ?_⟩⟩;have s02:=s1.trans s2;refine⟨_,rfl,_,rfl,x,l,ns,ms,ps,us,zss,z0,rfl,hg.same s02,s02 _ _ hl,hC.same s02,λt3 H3 r3 s3=>⟨_,rfl,r3.al (r1.same (s2.trans s3)),_,rfl,aZ ?_⟩⟩;have s03:=s02.trans s3;have SQ:=r1.same (s2.trans s3);refine⟨_,rfl,_,rfl,x,t1,ns,ms,ps,zss,z0,rfl,hg.same s03,SQ,λq4 u4 H4 h4 c4 s4=>⟨_,rfl,mU (aj.of h4) (aj.of ((s03.trans s4) _ _ hl)) c4 (hC.same (s03.trans s4)),_,rfl,bo ?_⟩⟩;have s04:=s03.trans s4;exact⟨_,rfl,_,rfl,x,t1,ns,ms,ps,zss,z0,rfl,hg.same s04,SQ.same s4,λq5 u5 H5 h5 c5 s5=>⟨_,rfl,mU (aj.of h5) (aj.of ((s04.trans s5) _ _ hl)) c5 (hC.same (s04.trans s5)),k _ (s04.trans s5)⟩⟩
structure Tells(P:Program)(w:World)(K:PySem.W.Frag)(mg:Str->Option Value)(base:Heap)(C z6 z7 z8 Aa Ab Ac Ad x9 m6 Ae Af:Addr)(fdPo tF tG tH tI tJ tK qk ju tL tM:FuncData):Prop where
 NY:Df K mg "_law_pot" wj ["_law_script","_law_k"] z6 fdPo
 Zq:av P w K mg base aB 1 z6 fdPo ["_law_script","_law_k"] (Ho (K:=K))
 NZ:Df K mg "_law_digit" fu ["_law_pot_here","_law_many"] z7 tF
 Zr:av P w K mg base aB 1 z7 tF ["_law_pot_here","_law_many"] mH
 N0:Df K mg "_law_names" lF ["_law_pot_here","_law_many"] z8 tG
 Zs:av P w K mg base aB 2 z8 tG ["_law_pot_here","_law_many"] yZ
 Ag:Df K mg "_law_shuffled" mG ["_law_pot_here","_law_things"] Aa tH
 Zt:av P w K mg base aB 2 Aa tH ["_law_pot_here","_law_things"] qN
 N1:Df K mg "_law_web" qS ["_law_pot_here","_law_names_here","_law_most"] Ab tI
 Zu:av P w K mg base aB 3 Ab tI ["_law_pot_here","_law_names_here","_law_most"] C3
 N2:Df K mg "_law_family" wK ["_law_pot_here","_law_names_here","_law_ties","_law_most"] Ac tJ
 Zv:av P w K mg base aB 3 Ac tJ ["_law_pot_here","_law_names_here","_law_ties","_law_most"] HM
 N3:Df K mg "_law_hanging" Ee ["_law_pot_here","_law_names_here","_law_most"] Ad tK
 Zw:av P w K mg base aB 3 Ad tK ["_law_pot_here","_law_names_here","_law_most"] Na
 N4:Df K mg "_law_uncrossed" oM ["_law_pot_here","_law_names_here","_law_ties","_law_most"] x9 qk
 Zx:av P w K mg base aB 3 x9 qk ["_law_pot_here","_law_names_here","_law_ties","_law_most"] Ei
 wc:WC K mg C
 SR:Mk K C m6
 bi:Binds K ju ["self","places","ties"] []
 gi:av P w K mg base aB 4 m6 ju ["self","places","ties"] (CG C)
 N5:Df K mg "_law_named" xU pq Ae tL
 Zy:av P w K mg base aB 7 Ae tL pq (NP C)
 N6:Df K mg "_law_tree_named" xV pq Af tM
 Zz:av P w K mg base aB 8 Af tM pq (NW C)
def rJ(K:PySem.W.Frag):Sp:=λvs H Q _=>∃(a:Addr) (ns:List Int),vs=[.ref a]/\aj K H a (ns.map V.int)/\ns.length<=63/\∀H',Q (.bl true) H'
abbrev nL:List Str:=["_law_script","_law_k","_law_pot_here","_law_names_here","_law_ties","_law_made"]
theorem ya:aG nL ["_law_script"] (ak AM):=⟨rfl,rfl,rfl,by decide +kernel,rfl,by decide +kernel,by decide +kernel⟩
theorem N7{f z6 z7 z8 Aa Ab Ac Ad x9 m6 Ae Af:Addr}{fd fdPo tF tG tH tI tJ tK qk ju tL tM:FuncData}(F:a7 K "law" "law" AM f fd)(B:Tells P w K mg base C z6 z7 z8 Aa Ab Ac Ad x9 m6 Ae Af fdPo tF tG tH tI tJ tK qk ju tL tM)(T:bt mg):av P w K mg base aB 9 f fd ["_law_script"] (rJ K):=by
 have ZA:=B.Zq;have ZC:=B.Zr;have ZD:=B.Zs;have SS:=B.Zt;have ZE:=B.Zu;have ZF:=B.Zv;have ZG:=B.Zw;have ZH:=B.Zx;have GI:=B.gi;have ZI:=B.Zy;have ZJ:=B.Zz;refine F.ok ya (λvs H Q E h=>?_) (λcdv A outer s H vs Q E hr h=>?_)
 ·obtain⟨a,ns,rfl,_⟩:=h;rfl
 ·obtain⟨a,ns,rfl,hS,hlen,k⟩:=h;have SU:=hr.mono (j:=1) (by decide);have N8:=hr.mono (j:=2) (by decide);have zQ:=hr.mono (j:=3) (by decide);have Dm:=hr.mono (j:=5) (by decide);have ZK:=hr.mono (j:=7) (by decide);refine⟨_,ag (cJ aaW rfl (dD rfl T.range (aa (ay (tT rfl) (by rfl) T.max boot_max (aa aE (aa (ay (tU rfl) (by rfl) T.min boot_min (aa aE (aa (ay aA (by rfl) T.len aax (aa (pv 0) ae)) ae))) ae))) ae)) (aD (i:=1) ya.nd rfl (Or.inl rfl))
    (ag (aN (i:=2) ya.nd rfl (Or.inl rfl) (ar ZA SU rfl B.NY.aK B.NY.fn.kp B.NY.b .nil ax (aa (pv 0) (aa (pv 1) ae))))
    (ag (aN (i:=3) ya.nd rfl (Or.inl rfl) (ar ZD N8 rfl B.N0.aK B.N0.fn.kp B.N0.b .nil ax (aa (pv 2) (aa (bV eE aE (ar ZC SU rfl B.NZ.aK B.NZ.fn.kp B.NZ.b .nil ax (aa (pv 2) (aa aE ae)))) ae))))
    (ag (aN (i:=4) ya.nd rfl (Or.inl rfl) (ar ZE zQ rfl B.N1.aK B.N1.fn.kp B.N1.b .nil ax (aa (pv 2) (aa (pv 3) (aa aE ae)))))
    (ag (bu (bO (bG (ar ZI ZK rfl B.N5.aK B.N5.fn.kp B.N5.b .nil ax (aa (yI B.SR GI Dm rfl B.wc.Q4 B.bi .nil ax (aa (ar SS N8 rfl B.Ag.aK B.Ag.fn.kp B.Ag.b .nil ax (aa (pv 2) (aa (pv 3) ae))) (aa (bp cE (by rfl) T.list aa1 (aa (pv 4) ae)) ae)))
      (aa (ar ZF zQ rfl B.N2.aK B.N2.fn.kp B.N2.b .nil ax (aa (pv 2) (aa (pv 3) (aa (pv 4) (aa aE ae))))) ae))) (λ_=>rfl))) (ao (aI eZ)) aT)
    (ag (aN (i:=4) ya.nd rfl (Or.inl rfl) (ar ZG zQ rfl B.N3.aK B.N3.fn.kp B.N3.b .nil ax (aa (pv 2) (aa (pv 3) (aa (bV qv aE (ay aA (by rfl) T.len aax (aa (pv 3) ae))) ae)))))
    (ag (aN (i:=5) ya.nd rfl (Or.inl rfl) (yI B.SR GI Dm rfl B.wc.Q4 B.bi .nil ax (aa (ar SS N8 rfl B.Ag.aK B.Ag.fn.kp B.Ag.b .nil ax (aa (pv 2) (aa (pv 3) ae))) (aa (bp cE (by rfl) T.list aa1 (aa (pv 4) ae)) ae))))
    (ao (bu (bO (bG (ar ZJ hr rfl B.N6.aK B.N6.fn.kp B.N6.b .nil ax (aa (pv 5) (aa (ar ZH zQ rfl B.N4.aK B.N4.fn.kp B.N4.b .nil ax (aa (pv 2) (aa (pv 3) (aa (pv 4) (aa aE ae))))) ae))) (λ_=>rfl))) (ao (aI eZ)) aT)))))))))
   (ao (aI eZ)),?_⟩
  try rw[bw]
  refine⟨_,rfl,a,_,rfl,.inl hS,_,_,rfl,_,_,rfl,_,rfl,?_,?_,?_⟩
  ·rw[aak];split<;>(try split)<;>omega
  ·rw[aak];split<;>(try split)<;>omega
  refine dS (λi σ H1=>(∃v1 v2 v3 v4 v5,σ=[some (V.ref a),v1,v2,v3,v4,v5])/\au H H1) ⟨⟨_,_,_,_,_,rfl⟩,au.refl _⟩ ?_ ?_
  ·rintro i σ H1 hi ⟨⟨v1,v2,v3,v4,v5,rfl⟩,s1⟩;refine⟨_,rfl,_,rfl,a,ns,0+i,by simp,s1.seq hS,hlen,λp H2 np VO s12=>?_⟩;refine⟨_,rfl,_,rfl,p,12,rfl,VO,by decide,by decide,λd H3 d0 d1 N9 b3=>?_⟩;refine⟨_,_,rfl,rfl,p,_,rfl,by omega,by omega,N9,λq zs H4 gp rise nq hq N' b4=>?_⟩;have iI:q≠p:=λe=>by rw[e] at nq;obtain⟨x,y,z⟩:=N9;rw[z] at nq;cases nq
   have uW:H p=none:=s1.free np;have s04:au H H4:=au.but (au.but (s1.trans s12) b3 uW) b4 uW;have lz:=gp.aJ;have perms:∀{ms:List Str} {ps:List (Str×Str)},GoodW zs ps->ms.Perm zs->GoodW ms ps:=λg p=>g.perm p;refine⟨_,rfl,_,rfl,p,q,zs,rfl,N',hq,gp,λb ps ts H5 nb hb hT gw Oa b5=>?_⟩;have nbp:b≠p:=λe=>by rw[e] at nb;obtain⟨x,y,z⟩:=N';rw[z] at nb;cases nb
   have gJ:=b5 _ _ hq iI;refine⟨_,rfl,_,rfl,p,q,_,rfl,Oa,gJ,(by rw[aak];omega),λq2 ys H6 pm MV fv VP b6=>?_⟩;obtain⟨ms,pms,rfl⟩:=kl pm;have Dh:=b6 _ _ gJ iI;have SV:=b6 _ _ hb nbp;have Ob:aS H6 ts ps:=hT.but b6 (λxs z=>by obtain⟨x,e⟩:=Oa.lst;rw[e] at z;cases z);have gm:GoodW ms ps:=gw.perm pms;refine⟨_,rfl,b,_,rfl,.inl (aj.of SV),λIV VQ=>?_⟩;have s7:=ai (o:=.lst (ts.map V.ref)) VQ;have h7:=af (H:=H6) (a:=IV) (o:=.lst (ts.map V.ref));generalize upd H6 IV (.lst (ts.map V.ref))=H7 at s7 h7⊢;have M7:Lists H7 q2 IV ms ps ts:=⟨s7 _ _ fv,h7,Ob.same s7,gm.good,gm.ins,gm.aJ⟩
   intro x dx nx ZL nex;have sx:au H7 (upd (upd H7 dx (.own x)) x (.ins C dx [])):=au.ba (ai ZL) nx;refine⟨x,q2,IV,ms,ps,ts,rfl,⟨dx,af⟩,M7.same sx,λH8 W8 b8=>⟨rfl,?_⟩⟩;have s68:=s7.trans (au.but sx b8 nx);have Oc:=VP.same s68;refine⟨_,rfl,_,rfl,_,rfl,p,q,b,zs,ts,ps,rfl,Oc,iI,nbp,s68 _ _ Dh,s68 _ _ SV,Ob.same s68,gw,λl us zss H9 nl hl hC all lu VR b9=>?_⟩;have W9:a8 C H9 x ms ps:=by obtain⟨ls,e⟩:=Oc.lst;exact W8.but b9 e
   have ZM:=b9 _ _ (s68 _ _ Dh) iI;have D8:au H H9:=au.but ((au.but (au.but s04 b5 uW) b6 uW).trans s68) b9 uW;refine⟨x,l,zs,ms,ps,us,zss,rfl,⟨W9,pms,gm,hl,hC,all,by omega⟩,rise,gw,λHA sA=>⟨_,rfl,aZ ?_⟩⟩;have Od:=VR.same sA;have Oe:=sA _ _ ZM;have ZN:=D8.trans sA;clear hl hC all W9 W8 M7 sx b8 Ob hT;refine⟨_,rfl,_,rfl,_,rfl,q,_,rfl,.inl (aj.of Oe),_,_,rfl,rfl,?_⟩;refine⟨p,q,31-zs.length,zs,(by dsimp only;rw[aak,show(31:Int)-(zs.length:Int)=((31-zs.length:Nat):Int) by omega];rfl),by omega,Od,Oe,gp,λc rs ws HB nc hc hU gv hh Of bB=>?_⟩;have SW:c≠p:=λe=>by rw[e] at nc;obtain⟨x,y,z⟩:=Od;rw[z] at nc;cases nc
   have SX:=bB _ _ Oe iI;refine⟨_,rfl,_,rfl,p,q,_,rfl,Of,SX,(by rw[aak];omega),λq3 ys3 HC Ig nq3 dF VS bC=>?_⟩;obtain⟨Ez,Og,rfl⟩:=kl Ig;have ZO:=bC _ _ SX iI;have SY:=bC _ _ hc SW;have S0:aS HC ws rs:=hU.but bC (λxs z=>by obtain⟨x,e⟩:=Of.lst;rw[e] at z;cases z);have Oh:GoodW Ez rs:=gv.perm Og;refine⟨_,rfl,c,_,rfl,.inl (aj.of SY),λIW VT=>?_⟩;have sD:=ai (o:=.lst (ws.map V.ref)) VT;have hD:=af (H:=HC) (a:=IW) (o:=.lst (ws.map V.ref));generalize upd HC IW (.lst (ws.map V.ref))=HD at sD hD⊢;have MD:Lists HD q3 IW Ez rs ws:=⟨sD _ _ dF,hD,S0.same sD,Oh.good,Oh.ins,Oh.aJ⟩
   intro y dy ny ZP ney;have sy:au HD (upd (upd HD dy (.own y)) y (.ins C dy [])):=au.ba (ai ZP) ny;refine⟨y,q3,IW,Ez,rs,ws,rfl,⟨dy,af⟩,MD.same sy,λHE WE bE=>⟨rfl,?_⟩⟩;have EA:=sD.trans (au.but sy bE ny);have Oi:=VS.same EA;refine⟨_,rfl,_,rfl,_,rfl,_,rfl,p,q,c,10,zs,ws,rs,rfl,by decide,Oi,iI,SW,EA _ _ ZO,EA _ _ SY,S0.same EA,gv,rise,λl2 qs HF nl2 hl2 ho fm lq aaj bF=>?_⟩;have WF:a8 C HF y Ez rs:=by obtain⟨ls,e⟩:=Oi.lst;exact WE.but bF e
   have ZQ:au H HF:=au.but ((au.but (au.but ZN bB uW) bC uW).trans EA) bF uW;obtain⟨z0,e0⟩:∃z0,zs[0]?=some z0:=by
    have:=gp.one
    exact⟨zs[0],aam (by omega)⟩
   refine⟨y,l2,zs,Ez,rs,qs.map (·.1),qs.map (·.2),z0,rfl,⟨WF,Og,gv,hh,rise,e0,fm,by rw[aak];omega⟩,(by rw[acv];exact hl2),dO.jv ho,λHG sG=>⟨_,rfl,aZ ⟨⟨_,_,_,_,_,rfl⟩,ZQ.trans sG⟩⟩⟩
  ·rintro σ H1 ⟨⟨v1,v2,v3,v4,v5,rfl⟩,s1⟩;exact k _
end
section
variable {P:Program}{w:World}{K:PySem.W.Frag}{mg:Str->Option Value}{base:Heap}
variable {C fP fS fM m6 zR fN ZR f1 f2 fA eJ dQ fB fO fR gB fF ku o5 S1 x9 ph xC xE S6 oq fL zA oh D7 zB zC oi ZS xW S7 HS uI Oj IC xX xY xZ x6 Ep Er IJ IG IK z5:Addr}{fdP bJ fdM ju tw yV VU Hl Hm cO cX cK fI fJ gC dN eU iK kN Ol qk kQ qc qd Om j7 zD sP jZ xx sQ sR j0 VW fdEn Oo Bc n0 IX Bv qg qh qi qj xN xO BD Bx BE tE:FuncData}
variable {f z6 z7 z8 Aa Ab ZT ZU Ac fX ZV ZW Ad Ae Af:Addr}{fd fdPo tF tG tH tI VX VY tJ IB VZ V0 tK tL tM:FuncData}
theorem Kv(F:a7 K "law" "law" AM f fd)(FI:a7 K "__init__" "Web.__init__" qL m6 ju)(ZX:Mk K C m6)(bI:Binds K ju ["self","places","ties"] [])(S8:Df K mg "is_whole" jb ["thing"] zR tw)(DN:Df K mg "is_name" mF ["thing"] fN yV)(ZY:Df K mg "is_tie" rY ["places","thing"] ZR VU)(D1:Df K mg "check_places" oE ["places"] f1 Hl)(D2:Df K mg "check_ties" oF ["places","ties"] f2 Hm)
  (D:Xd K mg C fP fS fA eJ dQ fB fO fR gB fF fdP bJ cO cX cK fI fJ gC dN eU) (ZZ:Md K C fM fdM) (Z0:Df K mg "ties_of" jE ["web","cut"] ZS VW) (S9:Df K mg "entered" wX ["web","family"] xW fdEn) (Ta:Df K mg "cross" lJ ["web","cut","other"] xY qh) (Tb:Df K mg "meet" qX ["web","cut","other"] xZ qi) (Tc:Df K mg "join" qY ["web","cut","other"] x6 qj)
  (IY:Df K mg "pairs_of" gZ ["many"] ku iK) (Oq:Df K mg "crossing_pairs" w4 ["web","family"] o5 kN) (Te:Df K mg "steps_of" nZ ["web","family"] S7 Oo) (Z1:Df K mg "is_pair" lL ["many","thing"] HS Bc) (Tf:Df K mg "behind" iV ["web","family","i","j"] uI n0) (Ot:Df K mg "stepped" jX ["web","family","step"] Oj IX) (Z2:Df K mg "swept" oo ["web","family"] IC Bv) (Tg:Df K mg "uncrossed" xG ["web","family"] xX qg)
  (Th:Df K mg "check_unlike" lP ["family"] S1 Ol) (Ti:Df K mg "check_uncrossed" rh ["web","family"] x9 qk) (Ou:Df K mg "has_least" lO ["web","cut"] ph kQ) (Tj:Df K mg "lacked" gH ["web","places"] xC qc) (Tn:Df K mg "far_side" rm ["web","cut"] xE qd) (To:Df K mg "innermost" sT ["sides","inside","size"] S6 Om) (Ov:Df K mg "tree_of" iZ ["web","family"] oq j7)
  (Z3:Df K mg "are_knots" tj xP Ep xN) (Z4:Df K mg "are_senses" tu ["things"] Er xO) (Tp:Df K mg "is_treelike" xK ["web","thing"] IJ BD) (Z5:Df K mg "knots_above" xM ["parents","knot"] IG Bx) (Tq:Df K mg "cuts_on" qf ["web","tree"] IK BE) (Ts:Df K mg "cuts_of" xR ["web","tree"] z5 tE)
  (DL:Df K mg "leads" jT ["places","ties"] fL zD) (Z6:Df K mg "turned_pairs" iU ["ties"] zA sP) (Z7:Df K mg "spread" jF ["steps","start"] oh jZ) (zE:Df K mg "pieces_among" xw ["web","among"] D7 xx) (zF:Df K mg "pieces" lN ["web"] zB sQ) (zG:Df K mg "hangs" og ["web"] zC sR) (Ow:Df K mg "check_hangs" oK ["web"] oi j0)
  (Tt:Df K mg "_law_pot" wj ["_law_script","_law_k"] z6 fdPo) (uX:Df K mg "_law_digit" fu ["_law_pot_here","_law_many"] z7 tF) (Tu:Df K mg "_law_names" lF ["_law_pot_here","_law_many"] z8 tG) (IZ:Df K mg "_law_shuffled" mG ["_law_pot_here","_law_things"] Aa tH) (Tv:Df K mg "_law_web" qS ["_law_pot_here","_law_names_here","_law_most"] Ab tI)
  (Tw:Df K mg "_law_closed" gG ["_law_ties","_law_some"] ZT VX) (Tx:Df K mg "_law_cut" sE ["_law_pot_here","_law_names_here","_law_ties"] ZU VY) (Tz:Df K mg "_law_family" wK ["_law_pot_here","_law_names_here","_law_ties","_law_most"] Ac tJ) (DX:Df K mg "_law_cross" jU ["_law_names_here","_law_one","_law_second"] fX IB) (Z8:Df K mg "_law_away" mP ["_law_names_here","_law_ties","_law_place"] ZV VZ) (TB:Df K mg "_law_uncrossed" oM ["_law_pot_here","_law_names_here","_law_ties","_law_most"] ZW V0)
  (TC:Df K mg "_law_hanging" Ee ["_law_pot_here","_law_names_here","_law_most"] Ad tK) (TF:Df K mg "_law_named" xU pq Ae tL) (TH:Df K mg "_law_tree_named" xV pq Af tM)
  (ab:mg "abs" = none) (zp:mg "zip" = none) (T:bt mg):av P w K mg base aB 9 f fd ["_law_script"] (rJ K):=by
 have M:=D.cd.m;have Z9:av P w K mg base aB 3 zB sQ ["web"] (F7 C):=D' zF.fn zE M DL Z7 Z6 T;have Z':av P w K mg base aB 4 zC sR ["web"] (F8 C):=F9 zG.fn zF Z9 T;have TJ:av P w K mg base aB 5 oi j0 ["web"] (rg C):=Kh Ow.fn zG Z' T;have GCP:av P w K mg base aB 4 o5 kN ["web","family"] (Bb C):=HR Oq.fn D IY T;have Tr:Td P w K mg base C fP oi fF S1 x9 xE S6 ph fdP j0 eU Ol qk qd Om kQ:=
  ⟨c9 M.pF M.wc T,Ow,TJ,D.f,ik D.f.fn D.cd D.cc T,Th,MY Th.fn IY T,Ti,MZ Ti.fn Oq GCP T,Tn,Ki Tn.fn M Tj Ou T,To,M0 To.fn D.cd.g.enum T,Ou,xB Ou.fn M T⟩
 have TK:av P w K mg base aB 6 oq j7 ["web","family"] (vn C):=Qe (Kj Ov.fn M Tr T);have GCf:av P w K mg base aB 7 z5 tE ["web","tree"] (BF C):=NM Ts.fn Ow TJ Tp (Qc Tp.fn M S8 Z3 Z4 T) Tq (Qd Tq.fn M Z5 Tj D.cd.g.enum zp T) Ov TK;have B:SA P w K mg base C xW S7 xX xY xZ x6 Oj fdEn Oo qg qh qi qj IX:=⟨S9,Mw S9.fn D ZZ Z0 T,Te,FO Te.fn D IY Oq T,Tg,Np Tg.fn D IY Tf Z2 T,Ta,FD Ta.fn D T,Tb,JN Tb.fn D T,Tc,JO Tc.fn D T,Ot,Be Ot.fn D S8 Z1 Tf T⟩
 exact N7 F (C:=C) ⟨Tt,LL Tt.fn T ab,uX,gn uX.fn T,Tu,Ff Tu.fn uX T,IZ,sj IZ.fn uX T,Tv,JJ Tv.fn uX IZ T,Tz,Ml Tz.fn uX Tw Tx T,TC,PY TC.fn uX IZ T,TB,Ko TB.fn uX Tw Tx Z8 DX D.cd.g.any T,M.wc,ZX,bI,Jz FI M.wc DN D.cd.a ZY D1 D2 T,TF,Qj TF.fn B T,TH,Qk TH.fn Ov TK Ts GCf⟩ T
end
open PySem PySem.Spec PyProof.Rows L2
def FA(K:PySem.W.Frag)(x q:Str)(sS:Stmt)(f:Addr):Prop:=∃fd,a7 K x q sS f fd
def DA(K:PySem.W.Frag)(x:Str)(sS:Stmt)(f:Addr):Prop:=PySem.W.nsIn K mainGlobals x=some (some (.ref f))/\FA K x x sS f
def MA(K:PySem.W.Frag)(C:Addr)(x q:Str)(sS:Stmt)(f:Addr):Prop:=PySem.W.findIn K (.ref C) x=some (some (.ref f))/\PySem.W.isFn K (.ref f)=true/\FA K x q sS f
def BO(x q:Str)(sS:Stmt)(ps:List Str):Prop:=∀(kV doc pm:Value) (an:Option Addr) (cdv ct:Value) (us:List Value),us.length=ps.length->bindArgs (PySem.W.fnOf x q (dG sS) (dm sS) (ak sS) .none kV doc pm an cdv ct) ⟨us,[]⟩=pure (ps.zip us)
theorem TL(h:∀(kV doc pm:Value) (an:Option Addr) (cdv ct u0:Value),bindArgs (PySem.W.fnOf x q (dG sS) (dm sS) (ak sS) .none kV doc pm an cdv ct) ⟨[u0],[]⟩=pure [(p0,u0)]):BO x q sS [p0]:=λkV doc pm an cdv ct us hl=>match us,hl with | [u0],_=>h kV doc pm an cdv ct u0
theorem TM(h:∀(kV doc pm:Value) (an:Option Addr) (cdv ct u0 u1:Value),bindArgs (PySem.W.fnOf x q (dG sS) (dm sS) (ak sS) .none kV doc pm an cdv ct) ⟨[u0,u1],[]⟩=pure [(p0,u0),(p1,u1)]):BO x q sS [p0,p1]:=λkV doc pm an cdv ct us hl=>match us,hl with | [u0,u1],_=>h kV doc pm an cdv ct u0 u1
theorem TN(h:∀(kV doc pm:Value) (an:Option Addr) (cdv ct u0 u1 u2:Value),bindArgs (PySem.W.fnOf x q (dG sS) (dm sS) (ak sS) .none kV doc pm an cdv ct) ⟨[u0,u1,u2],[]⟩=pure [(p0,u0),(p1,u1),(p2,u2)]):BO x q sS [p0,p1,p2]:=λkV doc pm an cdv ct us hl=>match us,hl with | [u0,u1,u2],_=>h kV doc pm an cdv ct u0 u1 u2
theorem TQ(h:∀(kV doc pm:Value) (an:Option Addr) (cdv ct u0 u1 u2 u3:Value),bindArgs (PySem.W.fnOf x q (dG sS) (dm sS) (ak sS) .none kV doc pm an cdv ct) ⟨[u0,u1,u2,u3],[]⟩=pure [(p0,u0),(p1,u1),(p2,u2),(p3,u3)]):BO x q sS [p0,p1,p2,p3]:=λkV doc pm an cdv ct us hl=>match us,hl with | [u0,u1,u2,u3],_=>h kV doc pm an cdv ct u0 u1 u2 u3
theorem TR(h:∀(kV doc pm:Value) (an:Option Addr) (cdv ct u0 u1 u2 u3 u4:Value),bindArgs (PySem.W.fnOf x q (dG sS) (dm sS) (ak sS) .none kV doc pm an cdv ct) ⟨[u0,u1,u2,u3,u4],[]⟩=pure [(p0,u0),(p1,u1),(p2,u2),(p3,u3),(p4,u4)]):BO x q sS [p0,p1,p2,p3,p4]:=λkV doc pm an cdv ct us hl=>match us,hl with | [u0,u1,u2,u3,u4],_=>h kV doc pm an cdv ct u0 u1 u2 u3 u4
theorem da{K:PySem.W.Frag}(a:PySem.W.nsIn K mainGlobals x=some (some (.ref f)))(l:K.lookup f=some ⟨oc,od,.func (PySem.W.fnOf x x (dG sS) (dm sS) (ak sS) .none kY doc pm an cdv ct),osl⟩)(c:PySem.W.codeIn K cdv x=true)(k:PySem.W.keepIn K (.ref f)=true):DA K x sS f:=⟨a,_,Cg l c k⟩
theorem ma{K:PySem.W.Frag}(a:PySem.W.findIn K (.ref C) x=some (some (.ref f)))(i:PySem.W.isFn K (.ref f)=true)(l:K.lookup f=some ⟨oc,od,.func (PySem.W.fnOf x q (dG sS) (dm sS) (ak sS) .none kY doc pm an cdv ct),osl⟩)(c:PySem.W.codeIn K cdv q=true)(k:PySem.W.keepIn K (.ref f)=true):MA K C x q sS f:=⟨a,i,_,Cg l c k⟩
theorem DA.d{K:PySem.W.Frag}(ps:List Str)(a:DA K x sS f)(X:K.In h)(G:h.Ns mainGlobals mg)(b:BO x x sS ps:=by first|exact TL λ_ _ _ _ _ _ _=>rfl|exact TM λ_ _ _ _ _ _ _ _=>rfl|exact TN λ_ _ _ _ _ _ _ _ _=>rfl|exact TQ λ_ _ _ _ _ _ _ _ _ _=>rfl|exact TR λ_ _ _ _ _ _ _ _ _ _ _=>rfl):∃fd,Df K mg x sS ps f fd:=
 let ⟨fd,F⟩:=a.2
 ⟨fd,F,acE X G a.1,F.binds b⟩
theorem MA.m{K:PySem.W.Frag}(ps:List Str)(a:MA K C x q sS f)(b:BO x q sS ps:=by first|exact TL λ_ _ _ _ _ _ _=>rfl|exact TM λ_ _ _ _ _ _ _ _=>rfl|exact TN λ_ _ _ _ _ _ _ _ _=>rfl|exact TQ λ_ _ _ _ _ _ _ _ _ _=>rfl|exact TR λ_ _ _ _ _ _ _ _ _ _ _=>rfl):∃fd,a7 K x q sS f fd/\Binds K fd ps []/\Meth K C x f:=
 let ⟨fd,F⟩:=a.2.2
 ⟨fd,F,F.binds b,a.1,a.2.1,F.kp⟩
theorem all_mk{l:PySem.W.OpenLaw}{w:World}{K:PySem.W.Frag}{h:Heap}{mg:Str->Option Value}{fa:Addr}(X:K.In h)(G:h.Ns mainGlobals mg)(hfa:mg "law" = some (.ref fa))
  (aC:W.nsIn K mainGlobals "Web" = some (some (.ref C)))
  (h1:MA K C "__init__" "Web.__init__" qL f1)
  (h2:MA K C "places" "Web.places" oG f2)
  (h3:MA K C "ties" "Web.ties" vf f3)
  (h4:MA K C "many" "Web.many" ve f4)
  (pgC:W.plainGet K C Str.empty=true)
  (hdC:W.hasDictIn K C=true)
  (poC:W.plainOver K C=true)
  (saC:W.findIn K (.ref C) "__setattr__" = some (some (.builtin "object.__setattr__")))
  (mkC:W.makesIn K C=true)
  (kcC:W.keepIn K (.ref C)=true)
  (nAC0:W.findIn K (.ref C) "kept_places" = some none)
  (nAC1:W.findIn K (.ref C) "kept_ties" = some none)
  (h5:DA K "is_whole" jb f5)
  (h6:DA K "is_name" mF f6)
  (h7:DA K "check_places" oE f7)
  (h8:DA K "is_among" jc f8)
  (h9:DA K "is_tie" rY f9)
  (h10:DA K "check_ties" oF f10)
  (h11:DA K "leads" jT f11)
  (h12:DA K "turned_pairs" iU f12)
  (h13:DA K "spread" jF f13)
  (h14:DA K "pieces_among" xw f14)
  (h15:DA K "pieces" lN f15)
  (h16:DA K "hangs" og f16)
  (h17:DA K "is_part" qQ f17)
  (h18:DA K "is_cut" nV f18)
  (h19:DA K "check_cut" oH f19)
  (h20:DA K "ties_of" jE f20)
  (h21:DA K "check_hangs" oK f21)
  (h22:DA K "lacked" gH f22)
  (h23:DA K "check_family" qW f23)
  (h24:DA K "had_by_both" nX f24)
  (h25:DA K "had_by_one" nY f25)
  (h26:DA K "are_crossing" wO f26)
  (h27:DA K "cross" lJ f27)
  (h28:DA K "meet" qX f28)
  (h29:DA K "join" qY f29)
  (h30:DA K "entered" wX f30)
  (h31:DA K "pairs_of" gZ f31)
  (h32:DA K "crossing_pairs" w4 f32)
  (h33:DA K "steps_of" nZ f33)
  (h34:DA K "is_pair" lL f34)
  (h35:DA K "behind" iV f35)
  (h36:DA K "stepped" jX f36)
  (h37:DA K "swept" oo f37)
  (h38:DA K "uncrossed" xG f38)
  (h39:DA K "check_unlike" lP f39)
  (h40:DA K "check_uncrossed" rh f40)
  (h41:DA K "has_least" lO f41)
  (h42:DA K "far_side" rm f42)
  (h43:DA K "innermost" sT f43)
  (h44:DA K "tree_of" iZ f44)
  (h45:DA K "are_knots" tj f45)
  (h46:DA K "are_senses" tu f46)
  (h47:DA K "is_treelike" xK f47)
  (h48:DA K "knots_above" xM f48)
  (h49:DA K "cuts_on" qf f49)
  (h50:DA K "cuts_of" xR f50)
  (h51:DA K "_law_pot" wj f51)
  (h52:DA K "_law_digit" fu f52)
  (h53:DA K "_law_names" lF f53)
  (h54:DA K "_law_shuffled" mG f54)
  (h55:DA K "_law_web" qS f55)
  (h56:DA K "_law_closed" gG f56)
  (h57:DA K "_law_cut" sE f57)
  (h58:DA K "_law_family" wK f58)
  (h59:DA K "_law_cross" jU f59)
  (h60:DA K "_law_away" mP f60)
  (h61:DA K "_law_uncrossed" oM f61)
  (h62:DA K "_law_hanging" Ee f62)
  (h63:DA K "_law_named" xU f63)
  (h64:DA K "_law_tree_named" xV f64)
  (h65:DA K "law" AM f65)
  (g_divmod:W.nsIn K mainGlobals "divmod" = some none)
  (g_len:W.nsIn K mainGlobals "len" = some none)
  (g_all:W.nsIn K mainGlobals "all" = some none)
  (g_isinstance:W.nsIn K mainGlobals "isinstance" = some none)
  (g_str:W.nsIn K mainGlobals "str" = some none)
  (g_range:W.nsIn K mainGlobals "range" = some none)
  (g_max:W.nsIn K mainGlobals "max" = some none)
  (g_min:W.nsIn K mainGlobals "min" = some none)
  (g_bool:W.nsIn K mainGlobals "bool" = some none)
  (g_list:W.nsIn K mainGlobals "list" = some none)
  (g_int:W.nsIn K mainGlobals "int" = some none)
  (g_tuple:W.nsIn K mainGlobals "tuple" = some none)
  (g_set:W.nsIn K mainGlobals "set" = some none)
  (g_sorted:W.nsIn K mainGlobals "sorted" = some none)
  (g_abs:W.nsIn K mainGlobals "abs" = some none)
  (g_any:W.nsIn K mainGlobals "any" = some none)
  (g_enumerate:W.nsIn K mainGlobals "enumerate" = some none)
  (g_zip:W.nsIn K mainGlobals "zip" = some none)
  (g_LONGEST:W.nsIn K mainGlobals "LONGEST" = some (some (.int 8 TU)))
  (g_MOST_PLACES:W.nsIn K mainGlobals "MOST_PLACES" = some (some (.int 12 KR)))
  (g_MOST_TIES:W.nsIn K mainGlobals "MOST_TIES" = some (some (.int 30 O1)))
  : ∃fd:FuncData,(∀(s:Shared) (v:Value),BindsTo s fd ⟨[v],[]⟩ [("_law_script",v)])/\∀base:Heap,K.In base->base.Ns mainGlobals mg->av l.prog w K mg base aB 9 fa fd ["_law_script"] (rJ K):=by
 have e:=hfa.symm.trans (acE X G h65.1);cases e;obtain⟨_,I0⟩:=h65.2;have yb:=(h1.m ["self","places","ties"]).choose_spec;have Ox:=yb.1;have Oy:=yb.2.1;have Wi:=yb.2.2;have ql:=(h2.m ["self"]).choose_spec;have Gq:=ql.1;have Gr:=ql.2.1;have EB:=ql.2.2;have yc:=(h3.m ["self"]).choose_spec;have Oz:=yc.1;have OA:=yc.2.1;have Kw:=yc.2.2;have yd:=(h4.m ["self"]).choose_spec;have OB:=yd.1;have OC:=yd.2.1;have Kx:=yd.2.2;have W:WC K mg C:=⟨⟨pgC,hdC,poC,saC⟩,nAC0,nAC1,acE X G aC⟩
 have MkC:Mk K C f1:=⟨mkC,h1.1,h1.2.1,kcC⟩
 have Ky:=(h5.d ["thing"] X G).choose_spec;have OD:=(h6.d ["thing"] X G).choose_spec;have OE:=(h7.d ["places"] X G).choose_spec;have Kz:=(h8.d ["places","thing"] X G).choose_spec;have Ql:=(h9.d ["places","thing"] X G).choose_spec;have OF:=(h10.d ["places","ties"] X G).choose_spec;have KA:=(h11.d ["places","ties"] X G).choose_spec;have Gv:=(h12.d ["ties"] X G).choose_spec;have Gw:=(h13.d ["steps","start"] X G).choose_spec;have V1:=(h14.d ["web","among"] X G).choose_spec;have Gy:=(h15.d ["web"] X G).choose_spec;have KC:=(h16.d ["web"] X G).choose_spec;have OG:=(h17.d ["places","thing"] X G).choose_spec;have KD:=(h18.d ["web","thing"] X G).choose_spec;have OH:=(h19.d ["web","cut"] X G).choose_spec;have Gz:=(h20.d ["web","cut"] X G).choose_spec;have OI:=(h21.d ["web"] X G).choose_spec;have GD:=(h22.d ["web","places"] X G).choose_spec;have OJ:=(h23.d ["web","family"] X G).choose_spec;have Qm:=(h24.d ["web","places","others"] X G).choose_spec;have Qn:=(h25.d ["web","places","others"] X G).choose_spec;have Qo:=(h26.d ["web","cut","other"] X G).choose_spec;have KG:=(h27.d ["web","cut","other"] X G).choose_spec;have OK:=(h28.d ["web","cut","other"] X G).choose_spec;have OL:=(h29.d ["web","cut","other"] X G).choose_spec;have Qp:=(h30.d ["web","family"] X G).choose_spec;have KH:=(h31.d ["many"] X G).choose_spec;have V2:=(h32.d ["web","family"] X G).choose_spec;have KI:=(h33.d ["web","family"] X G).choose_spec;have Qq:=(h34.d ["many","thing"] X G).choose_spec;have Qr:=(h35.d ["web","family","i","j"] X G).choose_spec;have Qs:=(h36.d ["web","family","step"] X G).choose_spec;have Qt:=(h37.d ["web","family"] X G).choose_spec;have OM:=(h38.d ["web","family"] X G).choose_spec;have Qu:=(h39.d ["family"] X G).choose_spec;have Qv:=(h40.d ["web","family"] X G).choose_spec;have KJ:=(h41.d ["web","cut"] X G).choose_spec;have Qw:=(h42.d ["web","cut"] X G).choose_spec;have Qx:=(h43.d ["sides","inside","size"] X G).choose_spec;have ON:=(h44.d ["web","family"] X G).choose_spec;have V3:=(h45.d ["things","many"] X G).choose_spec;have V4:=(h46.d ["things"] X G).choose_spec;have V5:=(h47.d ["web","thing"] X G).choose_spec;have V6:=(h48.d ["parents","knot"] X G).choose_spec;have V7:=(h49.d ["web","tree"] X G).choose_spec;have Qy:=(h50.d ["web","tree"] X G).choose_spec;have Qz:=(h51.d ["_law_script","_law_k"] X G).choose_spec;have KL:=(h52.d ["_law_pot_here","_law_many"] X G).choose_spec;have KN:=(h53.d ["_law_pot_here","_law_many"] X G).choose_spec;have OO:=(h54.d ["_law_pot_here","_law_things"] X G).choose_spec;have OP:=(h55.d ["_law_pot_here","_law_names_here","_law_most"] X G).choose_spec;have GG:=(h56.d ["_law_ties","_law_some"] X G).choose_spec;have QA:=(h57.d ["_law_pot_here","_law_names_here","_law_ties"] X G).choose_spec;have QB:=(h58.d ["_law_pot_here","_law_names_here","_law_ties","_law_most"] X G).choose_spec;have GH:=(h59.d ["_law_names_here","_law_one","_law_second"] X G).choose_spec;have OQ:=(h60.d ["_law_names_here","_law_ties","_law_place"] X G).choose_spec;have OR:=(h61.d ["_law_pot_here","_law_names_here","_law_ties","_law_most"] X G).choose_spec;have V8:=(h62.d ["_law_pot_here","_law_names_here","_law_most"] X G).choose_spec;have V9:=(h63.d ["_law_made","_law_lot"] X G).choose_spec;have V':=(h64.d ["_law_made","_law_lot"] X G).choose_spec;have GJ:=aa2 X G g_divmod;have QC:=aa2 X G g_len;have QD:=aa2 X G g_all;have ye:=aa2 X G g_isinstance;have QE:=aa2 X G g_str;have KO:=aa2 X G g_range;have QF:=aa2 X G g_max;have QG:=aa2 X G g_min;have OS:=aa2 X G g_bool;have OT:=aa2 X G g_list;have QH:=aa2 X G g_int;have KP:=aa2 X G g_tuple;have QI:=aa2 X G g_set;have GQ:=aa2 X G g_sorted;have QJ:=aa2 X G g_abs;have QK:=aa2 X G g_any;have yy:=aa2 X G g_enumerate;have QL:=aa2 X G g_zip;have EC:=acE X G g_LONGEST;have u6:=acE X G g_MOST_PLACES;have yz:=acE X G g_MOST_TIES;have T:bt mg:=⟨GJ,QC,QD,ye,QE,KO,QF,QG,OS,OT,QH,KP,QI,GQ,⟨_,EC⟩,⟨_,u6⟩,⟨_,yz⟩⟩
 have M:=Mt.mk W Gq EB Gr Oz Kw OA;have Dc:=Cd.mk M Kz OG KD ⟨QK,yy⟩;have Dx:=Xd.mk Dc Qm Qn Qo OH OJ;refine⟨_,λs v=>?_,λbase _ _=>Kv I0 Ox MkC Oy Ky OD Ql OE OF Dx ⟨OB,Kx,OC⟩ Gz Qp KG OK OL KH V2 KI Qq Qr Qs Qt OM Qu Qv KJ GD Qw Qx ON V3 V4 V5 V6 V7 Qy KA Gv Gw V1 Gy KC OI Qz KL KN OO OP GG QA QB GH OQ OR V8 V9 V' QJ QL T⟩;obtain⟨oc,od,kV,doc,pm,an,cdv,ct,osl,rfl,lk,hcd⟩:=I0.ex;exact .of_eq rfl
theorem walk{l:PySem.W.OpenLaw}{q:Program}{loose:List Str}{XP:(Str->Option Value)->Heap->Prop}{YP:World->Heap->Prop}{d:DefRec}{K:Params->PySem.W.Frag}(hn:l.most=some 63)(hdf:d.params.defaults=[])
  (hY:∀(w:World) (h:Heap),YP w h->(K w.params).In h)
  (F:∀(w:World) (mg:Str->Option Value) (fa:Addr) (h:Heap),(K w.params).In h->h.Ns mainGlobals mg->mg d.name=some (.ref fa) ->
   ∃fd:FuncData,(∀(s:Shared) (u:Value),BindsTo s fd ⟨[u],[]⟩ [("_law_script",u)])/\∀base:Heap,(K w.params).In base->base.Ns mainGlobals mg->av l.prog w (K w.params) mg base aB 9 fa fd ["_law_script"] (rJ (K w.params))) :
  PySem.W.WalkO q loose XP YP l.row.toRowW d [] (λf vs=>PySem.call f vs):=
 L2.Ji (n:=63) (k:=9) (x:="_law_script") (CX:=λ_=>aB) (sp:=λw=>rJ (K w.params)) hn (by decide) hdf ⟨rfl,by decide,by decide,rfl⟩ hY F (λ_ _ a ns hl _ hS=>⟨a,ns,rfl,hS,hl,λ_=>rfl⟩) λ_ _ _ _ _ z=>z
end dJ
namespace PySem.W.Fast
def tw3899614921400554230:Unit:=()
def tw1327302032601721788:Unit:=()
def tw2653976574568265802:Unit:=()
def tw12197342850558881215:Unit:=()
def tw17526577868157869289:Unit:=()
def tw2391395562712662593:Unit:=()
def tw16546736468676360891:Unit:=()
def tw6517833251065946169:Unit:=()
def tw14442134525417859239:Unit:=()
def tw3051603753711595995:Unit:=()
def tw10583436158264033084:Unit:=()
def tw2890392289760913412:Unit:=()
def tw11074487640542410454:Unit:=()
def tw12252437513991398966:Unit:=()
def tw1395095126379526460:Unit:=()
def tw4978014142951763719:Unit:=()
def tw6975528356529864529:Unit:=()
def tw17770494559429411572:Unit:=()
def tw13492571535321563054:Unit:=()
def tw15124886877317271644:Unit:=()
def tw8133499045861167181:Unit:=()
def tw5262069361818669865:Unit:=()
def tw16517665302737312413:Unit:=()
def tw14339748895977472066:Unit:=()
def tw2269115374207156334:Unit:=()
def tw7633325436593202992:Unit:=()
def tw16715983087256258632:Unit:=()
def tw17055490113919881411:Unit:=()
def tw6189286401138128034:Unit:=()
def tw1461880265088309176:Unit:=()
def tw7053574345937545188:Unit:=()
def tw6184827970973576153:Unit:=()
def tw6223457843672788430:Unit:=()
def tw2409702199275469317:Unit:=()
def tw13675184812559585768:Unit:=()
def tw15259322291144974322:Unit:=()
def tw12939226129468464410:Unit:=()
def tw15915683430043314248:Unit:=()
def tw17143393098308159353:Unit:=()
def tw18362407277614526180:Unit:=()
def tw13990076996603506870:Unit:=()
def tw3759560718299667539:Unit:=()
def tw17762210479443337353:Unit:=()
def tw9815672501798912342:Unit:=()
def tw6156528408702056343:Unit:=()
def tw14777064152189704882:Unit:=()
def tw7481095900250593517:Unit:=()
def tw4038052996746734695:Unit:=()
def tw1707618411035776117:Unit:=()
def tw15051230708219195301:Unit:=()
def tw10433915737113648205:Unit:=()
def tw10652401809092396178:Unit:=()
def tw1690397918201383404:Unit:=()
def tw15371078356255701346:Unit:=()
def tw15308646658841818703:Unit:=()
def tw8908257703405363190:Unit:=()
def tw7831522862454760194:Unit:=()
def tw2614851130384147702:Unit:=()
def tw16313327423719871305:Unit:=()
def tw13510464699696954469:Unit:=()
def tw13509735095979365543:Unit:=()
def tw9252007560185873597:Unit:=()
def tw9131566779268111093:Unit:=()
def tw11053363077970038703:Unit:=()
def tw15218940569190503712:Unit:=()
def tw17070103598862205283:Unit:=()
def tw2687352455054823917:Unit:=()
def tw3750740888791507542:Unit:=()
def tw7306759889963980038:Unit:=()
def tw9805598649805921367:Unit:=()
def tw2898118307035996462:Unit:=()
def tw8520907754833473235:Unit:=()
def tw1274652466232772008:Unit:=()
def tw3816124062340435380:Unit:=()
def tw13844842691623660468:Unit:=()
def tw5529321968885414966:Unit:=()
def tw5144805721318405516:Unit:=()
def tw17375661361246185755:Unit:=()
def tw17160693679262371698:Unit:=()
def tw1882257787125897149:Unit:=()
def tw12976844697868391689:Unit:=()
def tw4478929652546562680:Unit:=()
def tw18312318335940392787:Unit:=()
def tw5896602632587621348:Unit:=()
def tw10519572058327576006:Unit:=()
def tw1537751344423531555:Unit:=()
def tw840387397391411200:Unit:=()
def tw12385992165561690289:Unit:=()
def tw14484437494608153916:Unit:=()
def tw15100770548686430647:Unit:=()
def tw4114928154617744678:Unit:=()
def tw1620574205774176300:Unit:=()
def tw17991117766096075572:Unit:=()
def tw861712192874479761:Unit:=()
def tw1353005276998303646:Unit:=()
def tw1767747495585706833:Unit:=()
def tw4078634133511285061:Unit:=()
def tw4175072096104826616:Unit:=()
def tw6380892525758476893:Unit:=()
def tw8077119537739576711:Unit:=()
def tw15314241148963507582:Unit:=()
def tw8253744702300095779:Unit:=()
def tw3139978686329753705:Unit:=()
def tw17150092998290272840:Unit:=()
def tw15201295399987026681:Unit:=()
def tw12658007359662676638:Unit:=()
def tw17816975262298321582:Unit:=()
def tw3592271091686097391:Unit:=()
def tw10941372215707946610:Unit:=()
def tw8349106790100125236:Unit:=()
def tw14021608437830853925:Unit:=()
def tw1198702978821363235:Unit:=()
def tw16095864538908404632:Unit:=()
def tw9795374685943532519:Unit:=()
def tw2908799052794299633:Unit:=()
def tw4976250456428880049:Unit:=()
def tw5731539571703615053:Unit:=()
def tw11884536293661588777:Unit:=()
def tw7283037054785761345:Unit:=()
def tw9109913136339741635:Unit:=()
def tw2705753148541979505:Unit:=()
def tw12565625200453961326:Unit:=()
def tw3506339372773005280:Unit:=()
def tw11508436161370786748:Unit:=()
def tw18179117525522529831:Unit:=()
def tw3786456367973468215:Unit:=()
def tw7227244163822584692:Unit:=()
def tw17306949386868093768:Unit:=()
def tw9747009594434130377:Unit:=()
def tw17262134457699354819:Unit:=()
def tw4288997804322715835:Unit:=()
def tw4175851393283935927:Unit:=()
def tw13504089084571636729:Unit:=()
def tw6508375550933711275:Unit:=()
def tw16771472745902866893:Unit:=()
def tw2439498832122881915:Unit:=()
def tw12966005708607742673:Unit:=()
def tw18389392328575515448:Unit:=()
def tw12114440958059247956:Unit:=()
def tw15713590514253223311:Unit:=()
def tw9121242243108212565:Unit:=()
def tw7932640843935138252:Unit:=()
def tw8760369338303843027:Unit:=()
def tw10373702829093168249:Unit:=()
def tw16040353785751065476:Unit:=()
def tw14059057131686185412:Unit:=()
def tw15164737836567962271:Unit:=()
def tw10212984972631428337:Unit:=()
def tw11510522982702099832:Unit:=()
def tw13021788077204761472:Unit:=()
def tw4906769255739437321:Unit:=()
def tw1554576032835463613:Unit:=()
def tw2657266620872436271:Unit:=()
def tw16127126103297682706:Unit:=()
def tw1267224303407798700:Unit:=()
def tw5154949925837026923:Unit:=()
def tw17846921858351471196:Unit:=()
def tw7413305939888916662:Unit:=()
def tw5623266224734328574:Unit:=()
def tw244051779281536300:Unit:=()
def tw5100019200960170349:Unit:=()
def tw161122665660395127:Unit:=()
def tw8031402429758596181:Unit:=()
def tw4832381037616448299:Unit:=()
def tw14232420447739364913:Unit:=()
def tw7743108133060130164:Unit:=()
end PySem.W.Fast
open PySem PySem.W PyProof.Rows
set_option maxRecDepth 100000 in
set_option maxHeartbeats 0 in
theorem PySem.Challenge.cw_cutmeet_k39_crossing_by_names_holds : PySem.Challenge.rw_cutmeet_k39_crossing_by_names.Holds := by
  w_on; o_law; k_head; (case hw => w_witness2)
  k_fill
  refine dJ.walk (l := PySem.Challenge.rw_cutmeet_k39_crossing_by_names) rfl rfl (λw h Y => PySem.W.kIn_of Y) ?F
  case F=>
    intro w mg fa h KX G Cf;refine' dJ.all_mk KX G Cf ?_ ?_ ?_ ?_ ?_ ?_ ?_ ?_ ?_ ?_ ?_ ?_ ?_ ?_ ?_ ?_ ?_ ?_ ?_ ?_ ?_ ?_ ?_ ?_ ?_ ?_ ?_ ?_ ?_ ?_ ?_ ?_ ?_ ?_ ?_ ?_ ?_ ?_ ?_ ?_ ?_ ?_ ?_ ?_ ?_ ?_ ?_ ?_ ?_ ?_ ?_ ?_ ?_ ?_ ?_ ?_ ?_ ?_ ?_ ?_ ?_ ?_ ?_ ?_ ?_ ?_ ?_ ?_ ?_ ?_ ?_ ?_ ?_ ?_ ?_ ?_ ?_ ?_ ?_ ?_ ?_ ?_ ?_ ?_ ?_ ?_ ?_ ?_ ?_ ?_ ?_ ?_ ?_ ?_ ?_
    all_goals try (refine' dJ.da ?_ ?_ ?_ ?_)
    all_goals try (refine' dJ.ma ?_ ?_ ?_ ?_ ?_)
    all_goals try k_is
